/- LinesNear's walk: for every text, line and column the law returns true. Condition: no text is longer than an int can tell. -/
import Derived.Test.YtiiebholgmhogaaLnG
namespace Go.Proofs.Ytiiebholgmhogaa
open Go.RowKit Go.Shelf
set_option linter.unusedVariables false

theorem quiet_of_drew {P : Program} {f : FuncId} {args : Array Value} {w : World} {n : Nat} {v : Value}
    (h : Calls P f args (w.drewN n) fun e w' => e = .returned v ∧ Drew (w.drewN n) w') : Calls P f args (w.drewN n) fun e w'' => e = .returned v ∧ ∃ m, w'' = w.drewN m :=
  h.mono fun _ _ ⟨he, q, hm⟩ => ⟨he, n + q, by rw [hm]; simp [World.drewN, Nat.add_assoc]⟩

set_option maxRecDepth 100000 in
set_option maxHeartbeats 2000000 in
theorem linesNear_any (s : ByteArray) (line col : Int) (w : World) (hmax : s.size ≤ 9223372036854775807) :
    Calls Try.prog 4 #[.string s, .int .i64 line, .int .i64 col] w fun e w' => e = .returned (.bool true) ∧ Below w.heap.size w w' := by
  by_cases hs : s.size ≤ 200
  · have hs1 : s.size ≤ 1000000 := by omega
    have hct := ct_le s s.size
    have hll := lns_length s
    have hN := fun w' => new_any s hs1 w'
    have hL := fun w' => reflines_any s w' hs1
    obtain ⟨l, hl⟩ : ∃ l : Nat, min (max line 0) (ct s s.size : Int) = l := ⟨(min (max line 0) (ct s s.size : Int)).toNat, by omega⟩
    have hl2 : l ≤ ct s s.size := by omega
    have hne := fun xb sv w' (hI : Ix w' xb sv s) => near_any s xb sv w' hs1 hI line col
    have hfi := fun w' => first_any s l w' hs1 hl2
    have h1 := lns_size s hl2
    have h2 := head_end s hl2
    have hst : ∀ (base g c : Nat) (w1 : World), w1.ownsRow base 9 1 (.slice (some ⟨g, 0, none⟩) (ct s s.size + 1) c) (ct s s.size + 1) (strCells (lns s)) → w1.cell? ⟨g, l, none⟩ = some (.string ((lns s)[l]?.getD ⟨#[]⟩)) := fun _ _ _ _ h => strs_at h hll l (by omega)
    unfold nearN at hne
    rw [hl] at hne
    simp only [Int.toNat_natCast] at hne
    obtain ⟨x, hx⟩ : ∃ x, (lns s)[l]?.getD ⟨#[]⟩ = x := ⟨_, rfl⟩
    obtain ⟨h, hh⟩ : ∃ h, headL (br s s.size) l = h := ⟨_, rfl⟩
    obtain ⟨t, ht⟩ : ∃ t, endL (br s s.size) s.size l = t := ⟨_, rfl⟩
    obtain ⟨n, hn⟩ : ∃ n, ct s s.size = n := ⟨_, rfl⟩
    rw [hx] at hst h1
    rw [hh] at h1 h2 hne hfi
    rw [ht] at h1 h2 hne
    rw [hn] at hct hl hl2 hst hL
    have he : (t : Int) - h = (x.size : Int) := by omega
    rw [he] at hne
    obtain ⟨r, hr⟩ : ∃ r, (h : Int) + min (max col 0) (x.size : Int) = r := ⟨_, rfl⟩
    rw [hr] at hne
    have q1 : IntKind.i64.wrap ((h : Int) + min (max col 0) (x.size : Int)) = r := by rw [← hr, IntWalk.i64_in _ (by omega)]
    have q2 : min (max line 0) (n : Int) = (l : Int) := hl
    have q3 : (l : Int) < (n : Int) + 1 := by omega
    have hz : ¬ (200 : Int) < (s.size : Int) := by omega
    have HN := Lib.hid hN
    have HL := Lib.hid hL
    have HNE := Lib.hid hne
    have HFI := Lib.hid hfi
    have HST := Lib.hid hst
    clear hN hL hne hfi hst hl hx hh ht hn he hr h1 h2 hll
    go_enter Try.func4, Try.ntmps4
    go_wp2_with fail
    refine (awake_any _).mono ?_
    rintro e w1 ⟨rfl, hb1⟩
    go_wp2_with fail
    refine (HN.out _).mono ?_
    rintro e w2 ⟨xb, sv, rfl, hI, _, _, hb2⟩
    go_wp2_with fail
    refine (HL.out _).mono ?_
    rintro e w3 ⟨v, rfl, hown, hb3⟩
    obtain ⟨g, c, rfl⟩ := ownsRow_succ hown
    have hck := HST.out _ _ _ _ hown
    have hgl := (str_blk hown).1
    have hNE := HNE.out xb sv
    have hI3 := hI.below hb3
    have HNE3 := Lib.hid hNE
    have HI3 := Lib.hid hI3
    clear hNE hI3 hown hI
    go_wp2
    go_quiet (first
      | (go_at_call 15; exact quiet_of_drew (HNE3.out _ (HI3.out.below (by first | exact below_drewN (Below.refl _ _) _ | exact Below.refl _ _))))
      | (go_at_call 14; exact Calls.quiet_of_same (HFI.out _)))
    go_wp2
    go_ret
    exact ⟨rfl, below_drewN ((hb1.trans (hb2.mono hb1.size)).trans (hb3.mono (Nat.le_trans hb1.size hb2.size))) _⟩
  · have hz : (200 : Int) < (s.size : Int) := by omega
    go_enter Try.func4, Try.ntmps4
    go_wp2_with fail
    refine (awake_any _).mono ?_
    rintro e w1 ⟨rfl, hb1⟩
    go_wp2
    go_ret
    exact ⟨rfl, hb1⟩
end Go.Proofs.Ytiiebholgmhogaa

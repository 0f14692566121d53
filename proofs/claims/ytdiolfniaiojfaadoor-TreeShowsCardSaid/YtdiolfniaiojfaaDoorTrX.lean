/- What Read of layer 11 (tree) returns, and awake of the law. Condition: texts of at most 100,000 bytes. -/
import Derived.Test.YtdiolfniaiojfaaDoorTrW
namespace Go.Proofs.YtdiolfniaiojfaaDoor
open Go.RowKit
set_option linter.unusedVariables false

/-- What Read leaves. -/
def ReadR (s : ByteArray) (w : World) (e : Ending) (w' : World) : Prop :=
  (∃ p : Nat, Fm s true 0 (-1) [] ([], (p : Int)) ∧ e = .returned (.tuple #[.slice none 0 0, .int .i64 (p : Int), .int .i64 4]) ∧ Below w.heap.size w w') ∨
  (∃ L : List Nd, Fm s true 0 (-1) [] (L, -1) ∧ L ≠ [] ∧ ¬ Rt (nl L) L.length (nl L 0).t ∧ e = .returned (.tuple #[.slice none 0 0, .int .i64 0, .int .i64 14]) ∧ Below w.heap.size w w') ∨
  (∃ (L : List Nd) (oa : Option Addr) (oc : Nat), Fm s true 0 (-1) [] (L, -1) ∧ L ≠ [] ∧ L.length ≤ 100000 ∧ Rt (nl L) L.length (nl L 0).t ∧ e = .returned (.tuple #[.slice oa L.length oc, .int .i64 0, .int .i64 0]) ∧ w'.ownsRow w.heap.size 27 4 (.slice oa L.length oc) L.length (cellsN L) ∧ Below w.heap.size w w')
section
variable (w : World)
set_option maxRecDepth 100000 in
set_option maxHeartbeats 4000000 in
theorem read_any (s : ByteArray) (hs : s.size ≤ 100000) :
    Calls Tryd.prog 8 #[.string s] w fun e w' => ReadR s w e w' := by
  obtain ⟨W1, hW1⟩ : ∃ W1, w.alloc (.cells #[.string s, .int .i64 0, .slice none 0 0] 49) = W1 := ⟨_, rfl⟩
  have hR1 : Blk W1 w.heap.size (rdC s 0 (.slice none 0 0)) 49 := by rw [← hW1]; exact Blk.new _ _ _
  have hB1 : Below w.heap.size w W1 := by rw [← hW1]; exact (Below.refl _ _).alloc (Nat.le_refl _) _
  have HT := Lib.hid (tree_any W1 w.heap.size w.heap.size s hR1 (Nat.le_refl _) hs)
  have HB1 := Lib.hid hB1
  have HW1 := Lib.hid hW1
  clear hR1 hB1 hW1
  go_enter Tryd.func8, Tryd.ntmps8
  go_wp2_with fail
  rw [HW1.out]
  refine HT.out.mono ?_
  rintro e w2 (⟨L, a, oa, oc, hfm, hne, hlen, rfl, hR2, hO2, hb2⟩ | ⟨p, v, hfm, rfl, hR2, hb2⟩)
  · have HFM := Lib.hid hfm
    have HNE := Lib.hid hne
    obtain ⟨n, hn⟩ : ∃ n, L.length = n := ⟨_, rfl⟩
    have hn0 : 0 < n := by
      rcases Nat.eq_zero_or_pos n with g | g
      · exact absurd (List.eq_nil_of_length_eq_zero (by omega)) hne
      · exact g
    rw [hn] at hlen hR2 hO2
    have hrow := (owns_nrow hO2).2
    have HC := Lib.hid (check_any w2.drew oa n oc (nl L) (hrow.below ((Below.refl _ _).drew)) (nl L 0).t (by omega))
    have HD := Lib.hid ((Below.refl w2.heap.size w2).drew)
    obtain ⟨bb, off, rfl, hbb, c0, c1, c2, c3⟩ := hrow 0 hn0
    simp only [Nat.zero_mul, Nat.add_zero] at c2
    obtain ⟨T, hT⟩ : ∃ T, (nl L 0).t = T := ⟨_, rfl⟩
    rw [hT] at c2 HC
    have m2 : w2.cell? ⟨w.heap.size, 2, none⟩ = some (.slice (some ⟨bb, off, none⟩) n oc) := hR2.cell 2
    have hn0' : (0 : Int) < (n : Int) := by omega
    have HT := Lib.hid hT
    have HN := Lib.hid hn
    have HR2 := Lib.hid hR2
    have HO2 := Lib.hid hO2
    have HB2 := Lib.hid (HB1.out.trans hb2)
    have HLEN := Lib.hid hlen
    clear hfm hne hrow c0 c1 c3 hT hn hR2 hO2 hb2 hlen
    go_upto_region 4 with fail
    go_cut [13] from 13 to 22 (fun v13 wx => ∃ x : Bool, v13 = .bool (!x) ∧ (x = true ↔ Rt (nl L) n T) ∧ Below w2.heap.size w2 wx)
    case first =>
      go_region_with (go_at_call 10; refine HC.out.mono ?_; rintro e w3 ⟨⟨x, rfl, hx⟩, hb3⟩)
      all_goals
        go_wp2_with fail
        go_meet
        case rel => exact ⟨x, rfl, hx, HD.out.trans hb3⟩
    case rest =>
      obtain ⟨x, rfl, hx, hb3⟩ := hcut
      have hO3 := own_below HO2.out hb3
      have m3 : wc.cell? ⟨w.heap.size, 2, none⟩ = some (.slice (some ⟨bb, off, none⟩) n oc) := (hb3.cell (p := ⟨w.heap.size, 2, none⟩) HR2.out.lt).trans m2
      have HO3 := Lib.hid hO3
      have HX := Lib.hid hx
      have HB3 := Lib.hid (HB2.out.trans (hb3.mono HB2.out.size))
      clear hO3 hx hb3 m2 c2
      cases x
      · go_wp2
        go_ret3
        refine .inr (.inl ⟨L, HFM.out, HNE.out, fun h => ?_, rfl, HB3.out⟩)
        have h1 := HX.out.2 (by rw [← HT.out, ← HN.out]; exact h)
        simp at h1
      · go_wp2
        go_ret3
        refine .inr (.inr ⟨L, some ⟨bb, off, none⟩, oc, HFM.out, HNE.out, by rw [HN.out]; exact HLEN.out, ?_, by rw [HN.out]; rfl, ?_, HB3.out⟩)
        · rw [HN.out, HT.out]; exact HX.out.1 (by trivial)
        · rw [HN.out]; exact HO3.out
  · have HFM := Lib.hid hfm
    have m1 : w2.cell? ⟨w.heap.size, 1, none⟩ = some (.int .i64 (p : Int)) := hR2.cell 1
    have HB2 := Lib.hid (HB1.out.trans hb2)
    clear hfm hb2 hR2
    go_wp2
    go_quiet (fail)
    go_wp2
    go_ret3
    exact .inl ⟨p, HFM.out, rfl, belN HB2.out _⟩
end

/-- The text that awake reads, and its nodes. -/
def awT : ByteArray := ⟨#[80, 48, 45, 50, 40, 87, 48, 45, 49, 32, 87, 49, 45, 50, 41]⟩
def awL : List Nd := [⟨1, 0, 2, -1⟩, ⟨7, 0, 1, 0⟩, ⟨7, 1, 2, 0⟩]
theorem aw_fm : Fm awT true 0 (-1) [] (awL, -1) := by
  have n0 : NdOk awT 0 (-1) ⟨1, 0, 2, -1⟩ 4 := ⟨by decide +kernel, by decide +kernel, by decide +kernel, by decide +kernel, by decide +kernel, by
    rw [show letK (bt awT 0).toNat = 1 from by decide +kernel, show nval awT (0 + 1) (nlen awT (0 + 1)) = 0 from by decide +kernel, show nval awT (0 + 1 + nlen awT (0 + 1) + 1) (nlen awT (0 + 1 + nlen awT (0 + 1) + 1)) = 2 from by decide +kernel]; rfl⟩
  have n1 : NdOk awT 5 0 ⟨7, 0, 1, 0⟩ 9 := ⟨by decide +kernel, by decide +kernel, by decide +kernel, by decide +kernel, by decide +kernel, by
    rw [show letK (bt awT 5).toNat = 7 from by decide +kernel, show nval awT (5 + 1) (nlen awT (5 + 1)) = 0 from by decide +kernel, show nval awT (5 + 1 + nlen awT (5 + 1) + 1) (nlen awT (5 + 1 + nlen awT (5 + 1) + 1)) = 1 from by decide +kernel]; rfl⟩
  have n2 : NdOk awT 10 0 ⟨7, 1, 2, 0⟩ 14 := ⟨by decide +kernel, by decide +kernel, by decide +kernel, by decide +kernel, by decide +kernel, by
    rw [show letK (bt awT 10).toNat = 7 from by decide +kernel, show nval awT (10 + 1) (nlen awT (10 + 1)) = 1 from by decide +kernel, show nval awT (10 + 1 + nlen awT (10 + 1) + 1) (nlen awT (10 + 1 + nlen awT (10 + 1) + 1)) = 2 from by decide +kernel]; rfl⟩
  refine .opn n0 (by decide +kernel) ?_
  refine .sht n1 (by decide +kernel) ?_
  refine .nxt (by decide) (by decide +kernel) ?_
  refine .sht n2 (by decide +kernel) ?_
  refine Fm.pop (up := 0) (y := ⟨1, 0, 2, -1⟩) (by decide +kernel) rfl ?_
  exact .done (by decide) (by decide +kernel)
theorem aw_rt : Rt (nl awL) 3 2 := by
  have h1 : UpOk (nl awL) 1 := ⟨0, rfl, by decide, .self⟩
  refine ⟨by decide, rfl, rfl, rfl, fun i hi => ?_⟩
  match i, hi with
  | 0, _ => exact ⟨by decide, by decide, by decide, fun h => absurd h (Nat.lt_irrefl _)⟩
  | 1, _ => exact ⟨by decide, by decide, by decide, fun _ => ⟨0, rfl, by decide, .self, by decide, by decide, fun k h0 h1 => by omega⟩⟩
  | 2, _ => exact ⟨by decide, by decide, by decide, fun _ => ⟨0, rfl, by decide, .up (c := 0) rfl (by decide) .self, by decide, by decide, fun k h0 h1 _ => by
      obtain rfl : k = 1 := by omega
      decide⟩⟩
section
variable (w : World)
set_option maxRecDepth 100000 in
set_option maxHeartbeats 2000000 in
theorem awake_any : Calls Tryd.prog 4 #[] w fun e w' => e = .returned (.bool true) ∧ Below w.heap.size w w' := by
  have HR := Lib.hid (read_any w awT (by decide))
  unfold awT at HR
  go_enter Tryd.func4, Tryd.ntmps4
  go_wp2_with fail
  refine HR.out.mono ?_
  rintro e w1 (⟨p, hfm, _, _⟩ | ⟨L, hfm, _, hrt, _, _⟩ | ⟨L, oa, oc, hfm, hne, hlen, hrt, rfl, hown, hb⟩)
  · have := hfm.one aw_fm
    cases this
  · have h := hfm.one aw_fm
    obtain ⟨rfl, _⟩ := Prod.mk.inj h
    exact absurd aw_rt hrt
  · have h := hfm.one aw_fm
    obtain ⟨rfl, _⟩ := Prod.mk.inj h
    have hrow := (owns_nrow hown).2
    have e3 : awL.length = 3 := rfl
    rw [e3] at hrow hown ⊢
    have HC := Lib.hid (check_any w1 oa 3 oc (nl awL) hrow 2 (by decide))
    have HB := Lib.hid hb
    clear hrow hown hfm hne hlen hrt h hb
    go_wp2_with fail
    refine HC.out.mono ?_
    rintro e w2 ⟨⟨x, rfl, hx⟩, hb2⟩
    obtain rfl : x = true := hx.2 aw_rt
    have HB2 := Lib.hid (HB.out.trans (hb2.mono HB.out.size))
    clear hx hb2
    go_wp2
    go_ret
    exact ⟨rfl, HB2.out⟩
end
end Go.Proofs.YtdiolfniaiojfaaDoor

/- What New, Where and Of of layer 3 (lines) return. Condition: texts of at most a million bytes; the index at hand lies in memory as such. -/
import Derived.Test.YtiiebholgmhogaaLnE
namespace Go.Proofs.Ytiiebholgmhogaa
open Go.RowKit Go.Shelf
set_option linter.unusedVariables false

section
variable (s : ByteArray) (xb : Nat) (sv : Value) (w : World)
/-- What Where answers. -/
def whereV (s : ByteArray) (m : Int) : Value :=
  if 0 ≤ m ∧ m ≤ s.size then .tuple #[.int .i64 (ct s m.toNat : Nat), .int .i64 (m.toNat - hd s m.toNat : Nat), .int .i64 0]
  else .tuple #[.int .i64 0, .int .i64 0, .int .i64 1]
set_option maxHeartbeats 1000000 in
theorem where_any (hs : s.size ≤ 1000000) (hI : Ix w xb sv s) (m : Int) :
    Calls Try.prog 13 #[.pointer (some ⟨xb, 0, none⟩), .int .i64 m] w fun e w' => e = .returned (whereV s m) ∧ Drew w w' := by
  have c1 : w.cell? ⟨xb, 1, none⟩ = some (.int .i64 (s.size : Int)) := hI.obj.cell 1
  unfold whereV
  by_cases c : 0 ≤ m ∧ m ≤ s.size
  · rw [if_pos c]
    obtain ⟨k, rfl⟩ := Int.eq_ofNat_of_zero_le c.1
    have hk : k ≤ s.size := by omega
    have hk2 := c.2
    have hhd := hd_le s k
    have hah := fun w' (hb : Below w.heap.size w w') => ahead_any s xb sv w' hs (hI.below hb) k hk
    have hhe : ∀ w', Below w.heap.size w w' → Calls Try.prog 22 #[.pointer (some ⟨xb, 0, none⟩), .int .i64 (ct s k : Nat)] w' fun e w'' => e = .returned (.int .i64 (hd s k : Nat)) ∧ w'' = w' := fun w' hb => by
      rw [hd_head s hk]
      exact head_any s xb sv w' hs (hI.below hb) (ct s k) (ct_mono s hk)
    simp only [Int.toNat_natCast]
    obtain ⟨n, hn⟩ : ∃ n, ct s k = n := ⟨_, rfl⟩
    obtain ⟨h, hh⟩ : ∃ h, hd s k = h := ⟨_, rfl⟩
    rw [hn] at hah hhe ⊢
    rw [hh] at hhd hhe ⊢
    have q1 : IntKind.i64.wrap ((k : Int) - h) = ((k - h : Nat) : Int) := by rw [IntWalk.i64_in _ (by omega)]; omega
    have HA := Lib.hid hah
    have HE := Lib.hid hhe
    clear hah hhe hn hh c
    go_enter Try.func13, Try.ntmps13
    go_wp2_with (first
      | (go_at_call 24; refine (HA.out _ (Below.refl _ _)).mono ?_; rintro e w1 ⟨rfl, hb⟩)
      | (go_at_call 22; refine (HE.out _ hb.below).mono ?_; rintro e w1 ⟨rfl, rfl⟩))
    go_ret3
    exact ⟨rfl, hb⟩
  · rw [if_neg c]
    by_cases c2 : m < 0
    · clear c
      go_enter Try.func13, Try.ntmps13
      go_wp2
      go_ret3
      exact ⟨rfl, Drew.refl _⟩
    · have c3 : (s.size : Int) < m := by omega
      clear c
      go_enter Try.func13, Try.ntmps13
      go_wp2
      go_ret3
      exact ⟨rfl, Drew.refl _⟩
end

theorem moved_any (s : ByteArray) (f : Nat) (hs : s.size ≤ 1000000) (hf : f ≤ 1000000) (w : World) :
    Calls Try.prog 20 #[.string s, .int .i64 f] w fun e W' => ∃ v, e = .returned v ∧ W'.ownsRow w.heap.size 3 1 v (ct s s.size) (intCells ((br s s.size).map (f + ·))) ∧ Below w.heap.size w W' :=
  (callsIn_wide (n := 4)).1 (moved_in _ _ trivial trivial trivial rfl (Nat.le_refl _) s f hs hf w)

theorem moved_zero (s : ByteArray) (hs : s.size ≤ 1000000) (w : World) :
    Calls Try.prog 20 #[.string s, .int .i64 0] w fun e W' => ∃ v, e = .returned v ∧ W'.ownsRow w.heap.size 3 1 v (ct s s.size) (intCells (br s s.size)) ∧ Below w.heap.size w W' := by
  have := moved_any s 0 hs (by omega) w
  simpa using this

set_option maxHeartbeats 1000000 in
theorem new_any (s : ByteArray) (hs : s.size ≤ 1000000) (w : World) :
    Calls Try.prog 7 #[.string s] w fun e w' => ∃ xb sv, e = .returned (.pointer (some ⟨xb, 0, none⟩)) ∧ Ix w' xb sv s ∧ w.heap.size ≤ xb ∧ (∀ k, sv.ownBlock = some k → w.heap.size ≤ k) ∧ Below w.heap.size w w' := by
  have hm := moved_zero s hs w
  have HM := Lib.hid hm
  clear hm
  go_enter Try.func7, Try.ntmps7
  go_wp2_with fail
  refine HM.out.mono ?_
  rintro e w1 ⟨v, rfl, hown, hb⟩
  have hv : ∃ a n c, v = .slice a n c := by
    rcases hown.2 with ⟨h, _⟩ | ⟨g, cap, cur, h, _⟩
    · exact ⟨_, _, _, h⟩
    · exact ⟨_, _, _, h⟩
  obtain ⟨a, n, c, rfl⟩ := hv
  go_wp2
  go_ret
  have hown2 := own_below hown ((Below.refl w1.heap.size w1).alloc (Nat.le_refl _) (.cells #[.slice a n c, .int .i64 (s.size : Int)] 50))
  refine ⟨_, _, rfl, ⟨Blk.new _ _ _, row_mono hown2 (Nat.zero_le _), fun k hk => ?_⟩, hb.size, fun k hk => own_ge hown k hk, hb.alloc hb.size _⟩
  have := own_lt hown k hk
  omega

set_option maxHeartbeats 400000 in
theorem clone_any (s : ByteArray) (w : World) (hlim : s.size ≤ 281474976710656) :
    Calls Try.prog 23 #[.string s] w fun e w' => e = .returned (.string s) ∧ Below w.heap.size w w' := by
  go_enter Try.func23, Try.ntmps23
  go_wp2_with (go_at_call 29; refine (Try.stringslite_Clone s _ hlim).mono ?_; rintro e w1 ⟨rfl, hb⟩)
  go_ret
  exact ⟨rfl, hb⟩

/-- What Of answers. -/
def ofV (s : ByteArray) (line : Int) : Value :=
  if 0 ≤ line ∧ line ≤ ct s s.size then .tuple #[.string ((lns s)[line.toNat]?.getD ⟨#[]⟩), .int .i64 0] else .tuple #[.string ⟨#[]⟩, .int .i64 1]
set_option maxHeartbeats 1000000 in
theorem of_any (s : ByteArray) (hs : s.size ≤ 1000000) (line : Int) (w : World) :
    Calls Try.prog 12 #[.string s, .int .i64 line] w fun e w' => e = .returned (ofV s line) ∧ Below w.heap.size w w' := by
  have hn := new_any s hs w
  have HN := Lib.hid hn
  clear hn
  unfold ofV
  by_cases c : 0 ≤ line ∧ line ≤ ct s s.size
  · rw [if_pos c]
    have hle := head_end s (i := line.toNat) (by omega)
    rw [lns_at s (i := line.toNat) (by omega)]
    have e1 : spanV s line = .tuple #[.int .i64 (headL (br s s.size) line.toNat : Nat), .int .i64 (endL (br s s.size) s.size line.toNat : Nat), .int .i64 0] := by unfold spanV; rw [if_pos c]
    obtain ⟨h, hh⟩ : ∃ h, headL (br s s.size) line.toNat = h := ⟨_, rfl⟩
    obtain ⟨t, ht⟩ : ∃ t, endL (br s s.size) s.size line.toNat = t := ⟨_, rfl⟩
    rw [hh, ht] at hle e1 ⊢
    have h1 : (h : Int) ≤ t := by omega
    have h2 : (t : Int) ≤ s.size := by omega
    have h3 : (s.extract h t).size ≤ 281474976710656 := by simp; omega
    have E1 := Lib.hid e1
    clear e1 hh ht hle c
    go_enter Try.func12, Try.ntmps12
    go_wp2_with fail
    refine HN.out.mono ?_
    rintro e w1 ⟨xb, sv, rfl, hI, _, _, hb⟩
    have hsp := span_any s xb sv w1 hs hI line
    rw [E1.out] at hsp
    have HS := Lib.hid hsp
    clear hsp
    go_wp2_with fail
    refine HS.out.mono ?_
    rintro e w2 ⟨rfl, hd2⟩
    have hb2 : Below w1.heap.size w1 w2 := hd2.below
    go_wp2_with (go_at_call 23; refine (clone_any _ _ h3).mono ?_; rintro e w3 ⟨rfl, hb3⟩)
    go_ret2
    exact ⟨rfl, (hb.trans (hb2.mono hb.size)).trans (hb3.mono (Nat.le_trans hb.size hb2.size))⟩
  · rw [if_neg c]
    have e1 : spanV s line = .tuple #[.int .i64 0, .int .i64 0, .int .i64 1] := by unfold spanV; rw [if_neg c]
    have E1 := Lib.hid e1
    clear e1 c
    go_enter Try.func12, Try.ntmps12
    go_wp2_with fail
    refine HN.out.mono ?_
    rintro e w1 ⟨xb, sv, rfl, hI, _, _, hb⟩
    have hsp := span_any s xb sv w1 hs hI line
    rw [E1.out] at hsp
    have HS := Lib.hid hsp
    clear hsp
    go_wp2_with fail
    refine HS.out.mono ?_
    rintro e w2 ⟨rfl, hd2⟩
    have hb2 : Below w1.heap.size w1 w2 := hd2.below
    go_wp2
    go_ret2
    exact ⟨rfl, hb.trans (hb2.mono hb.size)⟩
end Go.Proofs.Ytiiebholgmhogaa

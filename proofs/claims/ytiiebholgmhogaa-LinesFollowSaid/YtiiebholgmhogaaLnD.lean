/- The memory of an index of layer 3 (lines), and what New, Count, ahead and head return. Condition: texts of at most a million bytes; the index at hand lies in memory as such. -/
import Derived.Test.YtiiebholgmhogaaLnC
import Derived.Test.YtiiebholgmhogaaShelf
namespace Go.Proofs.Ytiiebholgmhogaa
open Go.RowKit Go.Shelf
set_option linter.unusedVariables false

/-- The index of a text, at xb: where the newlines stand, and the text's length. -/
structure Ix (w : World) (xb : Nat) (sv : Value) (s : ByteArray) : Prop where
  obj : Blk w xb #[sv, .int .i64 (s.size : Int)] 50
  row : w.ownsRow 0 3 1 sv (ct s s.size) (intCells (br s s.size))
  apart : ∀ k, sv.ownBlock = some k → k ≠ xb
theorem Ix.frm {p : Nat → Prop} {w w' : World} {xb : Nat} {sv : Value} {s : ByteArray} (h : Ix w xb sv s) (hf : Frm p w w') (hp : ¬ p xb) (hq : ∀ k, sv.ownBlock = some k → ¬ p k) : Ix w' xb sv s :=
  ⟨h.obj.frm hf hp, own_frm hf h.row hq, h.apart⟩
theorem Ix.below {w w' : World} {xb : Nat} {sv : Value} {s : ByteArray} (h : Ix w xb sv s) (hb : Below w.heap.size w w') : Ix w' xb sv s :=
  h.frm (Frm.of_below (p := fun _ => False) hb) (fun h => h) (fun _ _ h => h)
theorem Ix.lt {w : World} {xb : Nat} {sv : Value} {s : ByteArray} (h : Ix w xb sv s) : xb < w.heap.size := h.obj.lt
/-- The row of an index, as it is read: nil, or so many places from a block's beginning on. -/
theorem Ix.form {w : World} {xb : Nat} {sv : Value} {s : ByteArray} (h : Ix w xb sv s) :
    (sv = .slice none 0 0 ∧ ct s s.size = 0) ∨ ∃ g cap, sv = .slice (some ⟨g, 0, none⟩) (ct s s.size) cap ∧ ct s s.size ≤ cap ∧ g < w.heap.size ∧ g ≠ xb ∧ ∀ j, j < ct s s.size → w.cell? ⟨g, j, none⟩ = some (.int .i64 ((br s s.size)[j]?.getD 0 : Nat)) := by
  rcases h.row.2 with h0 | ⟨g, cap, cur, hv, hb, hg, hnc, hcm, hcs, htake⟩
  · exact .inl h0
  · refine .inr ⟨g, cap, hv, hnc, (Array.getElem?_eq_some_iff.1 hg).1, h.apart g (by rw [hv]; rfl), fun j hj => ?_⟩
    have hc := h.row.cells (g := g) (by rw [hv]; rfl) j (.int .i64 ((br s s.size)[j]?.getD 0 : Nat)) (by
      have hl : j < (br s s.size).length := by rw [br_length]; exact hj
      simp [intCells, intV, hl])
    have e : (⟨g, 0, none⟩ : Addr).add j = ⟨g, 0 + j, none⟩ := by unfold Addr.add; split <;> simp_all
    rw [e, Nat.zero_add] at hc
    exact hc

/-- No more than the order was drawn. -/
def Drew (w w' : World) : Prop := ∃ q, w' = w.drewN q
theorem Drew.below {w w' : World} (h : Drew w w') {n : Nat} : Below n w w' := by obtain ⟨q, rfl⟩ := h; exact below_drewN (Below.refl _ _) _
theorem Drew.refl (w : World) : Drew w w := ⟨0, rfl⟩
theorem Drew.trans {a b c : World} (h : Drew a b) (k : Drew b c) : Drew a c := by obtain ⟨q, rfl⟩ := h; obtain ⟨r, rfl⟩ := k; exact ⟨q + r, by simp [World.drewN, Nat.add_assoc]⟩
theorem Ix.drew {w w' : World} {xb : Nat} {sv : Value} {s : ByteArray} (h : Ix w xb sv s) (hd : Drew w w') : Ix w' xb sv s := h.below hd.below
def intsOf (l : List Nat) : List Int := l.map fun (k : Nat) => (k : Int)
theorem count_lt (s : ByteArray) {n m : Nat} (h : m ≤ n) : (intsOf (br s n)).countP (fun y => decide (y < (m : Int))) = ct s m := by
  obtain ⟨t, ht, hx⟩ := br_pre s h
  unfold intsOf
  rw [ht, List.map_append, List.countP_append]
  have h1 : List.countP (fun y => decide (y < (m : Int))) ((br s m).map fun (k : Nat) => (k : Int)) = ct s m := by
    rw [List.countP_eq_length.2, List.length_map, br_length]
    intro y hy
    obtain ⟨k, hk, rfl⟩ := List.mem_map.1 hy
    have := br_lt s k hk
    simpa using this
  have h2 : List.countP (fun y => decide (y < (m : Int))) (t.map fun (k : Nat) => (k : Int)) = 0 := by
    rw [List.countP_eq_zero]
    intro y hy
    obtain ⟨k, hk, rfl⟩ := List.mem_map.1 hy
    have := hx k hk
    simpa using this
  rw [h1, h2, Nat.add_zero]
theorem rising (s : ByteArray) (n : Nat) : (intsOf (br s n)).Pairwise (· ≤ ·) := by
  induction n with
  | zero => exact List.Pairwise.nil
  | succ n ih =>
    by_cases e : bt s n = 10
    · rw [br_s1 s e]
      unfold intsOf at ih ⊢
      rw [List.map_append, List.pairwise_append]
      refine ⟨ih, by simp, fun a ha b hb => ?_⟩
      obtain ⟨k, hk, rfl⟩ := List.mem_map.1 ha
      have := br_lt s k hk
      have hb' : b = (n : Int) := by simpa using hb
      omega
    · rw [br_s0 s e]; exact ih

section
variable (s : ByteArray) (xb : Nat) (sv : Value) (w : World)
set_option maxHeartbeats 1000000 in
theorem bs_any (hs : s.size ≤ 1000000) (hI : Ix w xb sv s) (m : Nat) (hm : m ≤ s.size) :
    Calls Try.prog 30 #[sv, .int .i64 m] w fun e w' => (∃ c, e = .returned (.tuple #[.int .i64 (ct s m : Nat), .bool c])) ∧ Drew w w' := by
  have hct := ct_le s s.size
  rcases hI.form with ⟨rfl, h0⟩ | ⟨g, cap, rfl, hnc, hg, hgx, hc⟩
  · refine (Try.slices_BinarySearch_int_empty none 0 m w).mono ?_
    rintro e w' ⟨rfl, rfl⟩
    have := ct_mono s hm
    have e0 : ct s m = 0 := by omega
    exact ⟨⟨_, by rw [e0]; rfl⟩, Drew.refl _⟩
  · have hl : (intsOf (br s s.size)).length = ct s s.size := by simp [intsOf, br_length]
    have ht : (intsOf (br s s.size)).take (ct s s.size) = intsOf (br s s.size) := List.take_of_length_le (by omega)
    refine (Try.slices_BinarySearch_int g 0 (ct s s.size) cap (intsOf (br s s.size)) m w (by omega) (by omega) (fun j hj => ?_) (by rw [ht]; exact rising s _)).mono ?_
    · rw [hl] at hj
      rw [Nat.zero_add, hc j hj]
      have hl : j < (br s s.size).length := by rw [br_length]; exact hj
      simp [intsOf, hl]
    · rintro e w' ⟨rfl, q, rfl⟩
      rw [ht, count_lt s hm]
      exact ⟨⟨_, rfl⟩, _, rfl⟩

set_option maxHeartbeats 1000000 in
theorem ahead_any (hs : s.size ≤ 1000000) (hI : Ix w xb sv s) (m : Nat) (hm : m ≤ s.size) :
    Calls Try.prog 24 #[.pointer (some ⟨xb, 0, none⟩), .int .i64 m] w fun e w' => e = .returned (.int .i64 (ct s m : Nat)) ∧ Drew w w' := by
  have c0 : w.cell? ⟨xb, 0, none⟩ = some sv := hI.obj.cell 0
  have hb := bs_any s xb sv w hs hI m hm
  have HB := Lib.hid hb
  clear hb
  rcases hI.form with ⟨rfl, h0⟩ | ⟨g, cap, rfl, hnc, hg, hgx, hc⟩
  · clear h0
    go_enter Try.func24, Try.ntmps24
    go_wp2_with (go_at_call 30; refine HB.out.mono ?_; rintro e w1 ⟨⟨c, rfl⟩, hbl⟩)
    go_ret
    exact ⟨rfl, hbl⟩
  · go_enter Try.func24, Try.ntmps24
    go_wp2_with (go_at_call 30; refine HB.out.mono ?_; rintro e w1 ⟨⟨c, rfl⟩, hbl⟩)
    go_ret
    exact ⟨rfl, hbl⟩

set_option maxHeartbeats 1000000 in
theorem count_any (hs : s.size ≤ 1000000) (hI : Ix w xb sv s) :
    Calls Try.prog 19 #[.pointer (some ⟨xb, 0, none⟩)] w fun e w' => e = .returned (.int .i64 (ct s s.size + 1 : Nat)) ∧ w' = w := by
  have c0 : w.cell? ⟨xb, 0, none⟩ = some sv := hI.obj.cell 0
  have hct := ct_le s s.size
  rcases hI.form with ⟨rfl, h0⟩ | ⟨g, cap, rfl, hnc, hg, hgx, hc⟩
  · have H0 := Lib.hid h0
    clear h0
    go_enter Try.func19, Try.ntmps19
    go_wp2
    go_ret
    exact ⟨by rw [H0.out]; rfl, rfl⟩
  · go_enter Try.func19, Try.ntmps19
    go_wp2
    go_ret
    exact ⟨by simp, rfl⟩

set_option maxHeartbeats 1000000 in
theorem head_any (hs : s.size ≤ 1000000) (hI : Ix w xb sv s) (l : Nat) (hl : l ≤ ct s s.size) :
    Calls Try.prog 22 #[.pointer (some ⟨xb, 0, none⟩), .int .i64 l] w fun e w' => e = .returned (.int .i64 (headL (br s s.size) l : Nat)) ∧ w' = w := by
  have c0 : w.cell? ⟨xb, 0, none⟩ = some sv := hI.obj.cell 0
  have hct := ct_le s s.size
  by_cases hl0 : l = 0
  · subst hl0
    go_enter Try.func22, Try.ntmps22
    go_wp2
    go_ret
    exact ⟨by simp [headL], rfl⟩
  · obtain ⟨j, rfl⟩ : ∃ j, l = j + 1 := ⟨l - 1, by omega⟩
    rcases hI.form with ⟨rfl, h0⟩ | ⟨g, cap, rfl, hnc, hg, hgx, hc⟩
    · omega
    · have hcj := hc j (by omega)
      have hbj := br_below s (Nat.le_refl s.size) (i := j) (by omega)
      obtain ⟨v, hv⟩ : ∃ v, (br s s.size)[j]?.getD 0 = v := ⟨_, rfl⟩
      rw [hv] at hcj hbj
      have HV := Lib.hid hv
      clear hv
      have q1 : IntKind.i64.wrap (((j + 1 : Nat) : Int) - 1) = (j : Int) := by rw [IntWalk.i64_in] <;> omega
      have q3 : (j : Int) < (ct s s.size : Int) := by omega
      have q4 : ¬ ((j + 1 : Nat) : Int) = 0 := by omega
      go_enter Try.func22, Try.ntmps22
      go_wp2
      go_ret
      refine ⟨?_, rfl⟩
      rw [headL, if_neg (by omega), Nat.add_sub_cancel, HV.out]
      simp

/-- What Span answers. -/
def spanV (s : ByteArray) (line : Int) : Value :=
  if 0 ≤ line ∧ line ≤ ct s s.size then .tuple #[.int .i64 (headL (br s s.size) line.toNat : Nat), .int .i64 (endL (br s s.size) s.size line.toNat : Nat), .int .i64 0]
  else .tuple #[.int .i64 0, .int .i64 0, .int .i64 1]

set_option maxHeartbeats 1000000 in
theorem span_bad (hs : s.size ≤ 1000000) (hI : Ix w xb sv s) (line : Int) (h : line < 0 ∨ (ct s s.size : Int) < line) :
    Calls Try.prog 11 #[.pointer (some ⟨xb, 0, none⟩), .int .i64 line] w fun e w' => e = .returned (.tuple #[.int .i64 0, .int .i64 0, .int .i64 1]) ∧ w' = w := by
  have hct := ct_le s s.size
  by_cases h1 : line < 0
  · go_enter Try.func11, Try.ntmps11
    go_wp2
    go_ret3
    exact ⟨rfl, rfl⟩
  · have h2 : (ct s s.size : Int) + 1 ≤ line := by omega
    clear h
    go_enter Try.func11, Try.ntmps11
    go_wp2_with (go_at_call 19; refine (count_any s xb sv _ hs hI).mono ?_; rintro e w1 ⟨rfl, rfl⟩)
    go_ret3
    exact ⟨rfl, rfl⟩

set_option maxHeartbeats 1000000 in
theorem span_last (hs : s.size ≤ 1000000) (hI : Ix w xb sv s) :
    Calls Try.prog 11 #[.pointer (some ⟨xb, 0, none⟩), .int .i64 (ct s s.size : Nat)] w fun e w' => e = .returned (.tuple #[.int .i64 (headL (br s s.size) (ct s s.size) : Nat), .int .i64 (s.size : Nat), .int .i64 0]) ∧ Drew w w' := by
  have hct := ct_le s s.size
  have c0 : w.cell? ⟨xb, 0, none⟩ = some sv := hI.obj.cell 0
  have c1 : w.cell? ⟨xb, 1, none⟩ = some (.int .i64 (s.size : Int)) := hI.obj.cell 1
  have hh : ∀ w', Below w.heap.size w w' → Calls Try.prog 22 #[.pointer (some ⟨xb, 0, none⟩), .int .i64 (ct s s.size : Nat)] w' fun e w'' => e = .returned (.int .i64 (headL (br s s.size) (ct s s.size) : Nat)) ∧ w'' = w' :=
    fun w' hb => head_any s xb sv w' hs (hI.below hb) _ (Nat.le_refl _)
  obtain ⟨n, hn⟩ : ∃ n, ct s s.size = n := ⟨_, rfl⟩
  obtain ⟨x, hx⟩ : ∃ x, headL (br s s.size) n = x := ⟨_, rfl⟩
  have hfm := hI.form
  rw [hn] at hh hct hfm ⊢
  rw [hx] at hh ⊢
  have hcn : ∀ w', Below w.heap.size w w' → Calls Try.prog 19 #[.pointer (some ⟨xb, 0, none⟩)] w' fun e w'' => e = .returned (.int .i64 (n + 1 : Nat)) ∧ w'' = w' := fun w' hb => by
    have := count_any s xb sv w' hs (hI.below hb)
    rwa [hn] at this
  have HH := Lib.hid hh
  have HC := Lib.hid hcn
  clear hh hcn hn hx
  rcases hfm with ⟨rfl, h0⟩ | ⟨g, cap, rfl, hnc, hg, hgx, hc⟩
  · subst h0
    go_enter Try.func11, Try.ntmps11
    go_wp2_with (go_at_call 19; refine (HC.out _ (Below.refl _ _)).mono ?_; rintro e w1 ⟨rfl, rfl⟩)
    go_quiet ((go_at_call 22; exact Calls.quiet_of_same (HH.out _ (by first | exact Below.refl _ _ | exact (Below.refl _ _).drew | exact below_drewN (Below.refl _ _) _))))
    go_wp2
    go_ret3
    exact ⟨rfl, _, rfl⟩
  · clear hc
    go_enter Try.func11, Try.ntmps11
    go_wp2_with (go_at_call 19; refine (HC.out _ (Below.refl _ _)).mono ?_; rintro e w1 ⟨rfl, rfl⟩)
    go_quiet ((go_at_call 22; exact Calls.quiet_of_same (HH.out _ (by first | exact Below.refl _ _ | exact (Below.refl _ _).drew | exact below_drewN (Below.refl _ _) _))))
    go_wp2
    go_ret3
    exact ⟨rfl, _, rfl⟩
end
end Go.Proofs.Ytiiebholgmhogaa

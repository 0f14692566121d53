/- The walk of the statement EditJoins: it returns true, and what lay in memory before stays as it was. No condition. -/
import Derived.Test.YtjickhgkhcojgaaEdJ
import Derived.Test.YtjickhgkhcojgaaEdK
import Derived.Deep.RegionHeld3
namespace Go.Proofs.Ytjickhgkhcojgaa
open Go.RowKit
set_option linter.unusedVariables false

/-- Three cells of one block, in one world. -/
abbrev Has3 (W : World) (p : Nat) (x y z : Value) : Prop := W.cell? ⟨p, 0, none⟩ = some x ∧ W.cell? ⟨p, 1, none⟩ = some y ∧ W.cell? ⟨p, 2, none⟩ = some z ∧ p < W.heap.size
theorem has_below {W w' : World} {p : Nat} {x y z : Value} (h : Has3 W p x y z) (hb : Below W.heap.size W w') : Has3 w' p x y z := by
  obtain ⟨h0, h1, h2, h3⟩ := h
  have hz := hb.size
  obtain ⟨hc, _⟩ := bcell hb
  exact ⟨(hc _ _ h3).trans h0, (hc _ _ h3).trans h1, (hc _ _ h3).trans h2, by omega⟩
theorem below_two (w : World) (x y : Obj) : Below w.heap.size w ((w.alloc x).alloc y) := by
  have h1 : Below w.heap.size w (w.alloc x) := (Below.refl _ _).alloc (Nat.le_refl _) _
  exact h1.alloc (by simp) _
theorem held_six {B W w' : World} {p q : Nat} {x0 x1 x2 y0 y1 y2 : Value} (hS : W.cell? ⟨p, 0, none⟩ = some x0 ∧ W.cell? ⟨p, 1, none⟩ = some x1 ∧ W.cell? ⟨p, 2, none⟩ = some x2 ∧ p < W.heap.size ∧ W.cell? ⟨q, 0, none⟩ = some y0 ∧ W.cell? ⟨q, 1, none⟩ = some y1 ∧ W.cell? ⟨q, 2, none⟩ = some y2 ∧ q < W.heap.size ∧ Below B.heap.size B W) (hb : Below W.heap.size W w') :
    w'.cell? ⟨p, 0, none⟩ = some x0 ∧ w'.cell? ⟨p, 1, none⟩ = some x1 ∧ w'.cell? ⟨p, 2, none⟩ = some x2 ∧ p < w'.heap.size ∧ w'.cell? ⟨q, 0, none⟩ = some y0 ∧ w'.cell? ⟨q, 1, none⟩ = some y1 ∧ w'.cell? ⟨q, 2, none⟩ = some y2 ∧ q < w'.heap.size ∧ Below B.heap.size B w' := by
  obtain ⟨h0, h1, h2, h3, g0, g1, g2, g3, h4⟩ := hS
  have hz := hb.size
  have hz4 := h4.size
  obtain ⟨hc, _⟩ := bcell hb
  exact ⟨(hc _ _ h3).trans h0, (hc _ _ h3).trans h1, (hc _ _ h3).trans h2, by omega, (hc _ _ g3).trans g0, (hc _ _ g3).trans g1, (hc _ _ g3).trans g2, by omega, h4.trans (hb.mono hz4)⟩
theorem has_first (w : World) (x y z : Value) (t : TypeId) (o : Obj) : Has3 ((w.alloc (Obj.cells #[x, y, z] t)).alloc o) w.heap.size x y z := by
  refine has_below (W := w.alloc (Obj.cells #[x, y, z] t)) ?_ ((Below.refl _ _).alloc (Nat.le_refl _) _)
  unfold Has3
  simp
theorem has_second (w : World) (x y z : Value) (t : TypeId) (o : Obj) : Has3 ((w.alloc o).alloc (Obj.cells #[x, y, z] t)) (w.heap.size + 1) x y z := by
  have h := held_new (w.alloc o) x y z t
  have e : (w.alloc o).heap.size = w.heap.size + 1 := by simp
  rw [e] at h
  exact ⟨h.1, h.2.1, h.2.2.1, h.2.2.2.1⟩

section
variable (s ad an bd bn : ByteArray) (w : World)
set_option maxHeartbeats 1000000 in
theorem joinsl_large (A B : Int) (h : 300 < s.size ∨ 300 < ad.size ∨ 300 < an.size ∨ 300 < bd.size ∨ 300 < bn.size) :
    Calls Try.prog 7 #[.string s, .agg #[.int .i64 A, .string ad, .string an], .agg #[.int .i64 B, .string bd, .string bn]] w fun e w' => e = .returned (.bool true) ∧ Below w.heap.size w w' := by
  go_enter Try.func7, Try.ntmps7
  go_wp2_with fail
  refine (awake_any _).mono ?_
  rintro e w1 ⟨rfl, hb1⟩
  have S1 := has_below (has_first _ _ _ _ _ _) hb1
  have T1 := has_below (has_second _ _ _ _ _ _) hb1
  have hB := (below_two w _ _).trans (hb1.mono (below_two w _ _).size)
  clear hb1
  by_cases h1 : (300 : Int) < s.size
  · go_wp2
    go_ret
    exact ⟨rfl, hB⟩
  · by_cases h2 : (300 : Int) < ad.size
    · go_wp2
      go_ret
      exact ⟨rfl, hB⟩
    · by_cases h3 : (300 : Int) < an.size
      · go_wp2
        go_ret
        exact ⟨rfl, hB⟩
      · by_cases h4 : (300 : Int) < bd.size
        · go_wp2
          go_ret
          exact ⟨rfl, hB⟩
        · have h5 : (300 : Int) < bn.size := by omega
          go_wp2
          go_ret
          exact ⟨rfl, hB⟩

set_option maxHeartbeats 1000000 in
theorem joinsl_bad1 (A B : Int) (k : Int) (hs : s.size ≤ 300) (h1 : ad.size ≤ 300) (h2 : an.size ≤ 300) (h3 : bd.size ≤ 300) (h4 : bn.size ≤ 300) (hk : wrongN s A ad an = k) (k0 : k ≠ 0) :
    Calls Try.prog 7 #[.string s, .agg #[.int .i64 A, .string ad, .string an], .agg #[.int .i64 B, .string bd, .string bn]] w fun e w' => e = .returned (.bool true) ∧ Below w.heap.size w w' := by
  have HW := Lib.hid hk
  clear hk
  have k1 : (k != 0) = true := by simpa using k0
  have i1 : ¬ (300 : Int) < s.size := by omega
  have i2 : ¬ (300 : Int) < ad.size := by omega
  have i3 : ¬ (300 : Int) < an.size := by omega
  have i4 : ¬ (300 : Int) < bd.size := by omega
  have i5 : ¬ (300 : Int) < bn.size := by omega
  go_enter Try.func7, Try.ntmps7
  go_wp2_with fail
  refine (awake_any _).mono ?_
  rintro e w1 ⟨rfl, hb1⟩
  have S1 := has_below (has_first _ _ _ _ _ _) hb1
  have T1 := has_below (has_second _ _ _ _ _ _) hb1
  have hB := (below_two w _ _).trans (hb1.mono (below_two w _ _).size)
  clear hb1
  go_wp2_with fail
  refine (wrong_eq s ad an _ A k HW.out (by omega) (by omega)).mono ?_
  rintro e w2 ⟨rfl, hb2⟩
  have S2 := has_below S1 hb2
  have T2 := has_below T1 hb2
  have hB2 := hB.trans (hb2.mono hB.size)
  clear S1 T1 hb2 hB
  go_wp2
  go_ret
  exact ⟨rfl, hB2⟩

set_option maxHeartbeats 1000000 in
theorem joinsl_bad2 (A : Nat) (B : Int) (k : Int) (t : ByteArray) (hs : s.size ≤ 300) (h1 : ad.size ≤ 300) (h2 : an.size ≤ 300) (h3 : bd.size ≤ 300) (h4 : bn.size ≤ 300) (ht : doB s A ad an = t) (hl : (A : Int) + ad.size ≤ s.size) (ht2 : t.size ≤ 600) (hk0 : wrongN s A ad an = 0) (hk : wrongN t B bd bn = k) (k0 : k ≠ 0) :
    Calls Try.prog 7 #[.string s, .agg #[.int .i64 A, .string ad, .string an], .agg #[.int .i64 B, .string bd, .string bn]] w fun e w' => e = .returned (.bool true) ∧ Below w.heap.size w w' := by
  have HW0 := Lib.hid hk0
  have HW := Lib.hid hk
  have HT := Lib.hid ht
  clear hk hk0 ht
  have k1 : (k != 0) = true := by simpa using k0
  have i1 : ¬ (300 : Int) < s.size := by omega
  have i2 : ¬ (300 : Int) < ad.size := by omega
  have i3 : ¬ (300 : Int) < an.size := by omega
  have i4 : ¬ (300 : Int) < bd.size := by omega
  have i5 : ¬ (300 : Int) < bn.size := by omega
  go_enter Try.func7, Try.ntmps7
  go_wp2_with fail
  refine (awake_any _).mono ?_
  rintro e w1 ⟨rfl, hb1⟩
  have S1 := has_below (has_first _ _ _ _ _ _) hb1
  have T1 := has_below (has_second _ _ _ _ _ _) hb1
  have hB := (below_two w _ _).trans (hb1.mono (below_two w _ _).size)
  clear hb1
  go_wp2_with fail
  refine (wrong_eq s ad an _ A 0 HW0.out (by omega) (by omega)).mono ?_
  rintro e w2 ⟨rfl, hb2⟩
  have S2 := has_below S1 hb2
  have T2 := has_below T1 hb2
  have hB2 := hB.trans (hb2.mono hB.size)
  clear S1 T1 hb2 hB
  go_wp2_with fail
  refine (refdo_any s ad an A _ hl (by omega) (by omega)).mono ?_
  rw [HT.out]
  rintro e w3 ⟨rfl, hb3⟩
  have S3 := has_below S2 hb3
  have T3 := has_below T2 hb3
  have hB3 := hB2.trans (hb3.mono hB2.size)
  clear S2 T2 hb3 hB2
  go_wp2_with fail
  refine (wrong_eq t bd bn _ B k HW.out (by omega) (by omega)).mono ?_
  rintro e w4 ⟨rfl, hb4⟩
  have S4 := has_below S3 hb4
  have T4 := has_below T3 hb4
  have hB4 := hB3.trans (hb4.mono hB3.size)
  clear S3 T3 hb4 hB3
  go_wp2
  go_ret
  exact ⟨rfl, hB4⟩

set_option maxHeartbeats 1000000 in
theorem joinsl_no1 (A B : Nat) (t : ByteArray) (hs : s.size ≤ 300) (h1 : ad.size ≤ 300) (h2 : an.size ≤ 300) (h3 : bd.size ≤ 300) (h4 : bn.size ≤ 300) (ht : doB s A ad an = t) (hl : (A : Int) + ad.size ≤ s.size) (hl2 : (B : Int) + bd.size ≤ t.size) (ht2 : t.size ≤ 600) (hk0 : wrongN s A ad an = 0) (hk : wrongN t B bd bn = 0) (hn : (A : Int) + an.size < B) :
    Calls Try.prog 7 #[.string s, .agg #[.int .i64 A, .string ad, .string an], .agg #[.int .i64 B, .string bd, .string bn]] w fun e w' => e = .returned (.bool true) ∧ Below w.heap.size w w' := by
  have HW0 := Lib.hid hk0
  have HW := Lib.hid hk
  have HT := Lib.hid ht
  have HN := Lib.hid hn
  have c1 : ¬ (B : Int) ≤ (A : Int) + an.size := by omega
  clear hk hk0 ht hn
  have i1 : ¬ (300 : Int) < s.size := by omega
  have i2 : ¬ (300 : Int) < ad.size := by omega
  have i3 : ¬ (300 : Int) < an.size := by omega
  have i4 : ¬ (300 : Int) < bd.size := by omega
  have i5 : ¬ (300 : Int) < bn.size := by omega
  go_enter Try.func7, Try.ntmps7
  go_wp2_with fail
  refine (awake_any _).mono ?_
  rintro e w1 ⟨rfl, hb1⟩
  have S1 := has_below (has_first _ _ _ _ _ _) hb1
  have T1 := has_below (has_second _ _ _ _ _ _) hb1
  have hB := (below_two w _ _).trans (hb1.mono (below_two w _ _).size)
  clear hb1
  go_wp2_with fail
  refine (wrong_eq s ad an _ A 0 HW0.out (by omega) (by omega)).mono ?_
  rintro e w2 ⟨rfl, hb2⟩
  have S2 := has_below S1 hb2
  have T2 := has_below T1 hb2
  have hB2 := hB.trans (hb2.mono hB.size)
  clear S1 T1 hb2 hB
  go_wp2_with fail
  refine (refdo_any s ad an A _ hl (by omega) (by omega)).mono ?_
  rw [HT.out]
  rintro e w3 ⟨rfl, hb3⟩
  have S3 := has_below S2 hb3
  have T3 := has_below T2 hb3
  have hB3 := hB2.trans (hb3.mono hB2.size)
  clear S2 T2 hb3 hB2
  go_wp2_with fail
  refine (wrong_eq t bd bn _ B 0 HW.out (by omega) (by omega)).mono ?_
  rintro e w4 ⟨rfl, hb4⟩
  have S4 := has_below S3 hb4
  have T4 := has_below T3 hb4
  have hB4 := hB3.trans (hb4.mono hB3.size)
  clear S3 T3 hb4 hB3
  go_wp2_with fail
  refine (join_no1 A B ad an bd bn _ (by omega) (by omega) (by omega) (by omega) (by omega) (by omega) HN.out).mono ?_
  rintro e w5 ⟨rfl, hb5⟩
  have S5 := has_below S4 hb5
  have T5 := has_below T4 hb5
  have hB5 := hB4.trans (hb5.mono hB4.size)
  clear S4 T4 hb5 hB4
  have hz5 := hB5.size
  go_wp2
  go_ret
  exact ⟨rfl, hB5.alloc hz5 _⟩

set_option maxHeartbeats 1000000 in
theorem joinsl_no2 (A B : Nat) (t : ByteArray) (hs : s.size ≤ 300) (h1 : ad.size ≤ 300) (h2 : an.size ≤ 300) (h3 : bd.size ≤ 300) (h4 : bn.size ≤ 300) (ht : doB s A ad an = t) (hl : (A : Int) + ad.size ≤ s.size) (hl2 : (B : Int) + bd.size ≤ t.size) (ht2 : t.size ≤ 600) (hk0 : wrongN s A ad an = 0) (hk : wrongN t B bd bn = 0) (hn : (B : Int) + bd.size < A) :
    Calls Try.prog 7 #[.string s, .agg #[.int .i64 A, .string ad, .string an], .agg #[.int .i64 B, .string bd, .string bn]] w fun e w' => e = .returned (.bool true) ∧ Below w.heap.size w w' := by
  have HW0 := Lib.hid hk0
  have HW := Lib.hid hk
  have HT := Lib.hid ht
  have HN := Lib.hid hn
  have c1 : (B : Int) ≤ (A : Int) + an.size := by omega
  have c2 : ¬ (A : Int) ≤ (B : Int) + bd.size := by omega
  clear hk hk0 ht hn
  have i1 : ¬ (300 : Int) < s.size := by omega
  have i2 : ¬ (300 : Int) < ad.size := by omega
  have i3 : ¬ (300 : Int) < an.size := by omega
  have i4 : ¬ (300 : Int) < bd.size := by omega
  have i5 : ¬ (300 : Int) < bn.size := by omega
  go_enter Try.func7, Try.ntmps7
  go_wp2_with fail
  refine (awake_any _).mono ?_
  rintro e w1 ⟨rfl, hb1⟩
  have S1 := has_below (has_first _ _ _ _ _ _) hb1
  have T1 := has_below (has_second _ _ _ _ _ _) hb1
  have hB := (below_two w _ _).trans (hb1.mono (below_two w _ _).size)
  clear hb1
  go_wp2_with fail
  refine (wrong_eq s ad an _ A 0 HW0.out (by omega) (by omega)).mono ?_
  rintro e w2 ⟨rfl, hb2⟩
  have S2 := has_below S1 hb2
  have T2 := has_below T1 hb2
  have hB2 := hB.trans (hb2.mono hB.size)
  clear S1 T1 hb2 hB
  go_wp2_with fail
  refine (refdo_any s ad an A _ hl (by omega) (by omega)).mono ?_
  rw [HT.out]
  rintro e w3 ⟨rfl, hb3⟩
  have S3 := has_below S2 hb3
  have T3 := has_below T2 hb3
  have hB3 := hB2.trans (hb3.mono hB2.size)
  clear S2 T2 hb3 hB2
  go_wp2_with fail
  refine (wrong_eq t bd bn _ B 0 HW.out (by omega) (by omega)).mono ?_
  rintro e w4 ⟨rfl, hb4⟩
  have S4 := has_below S3 hb4
  have T4 := has_below T3 hb4
  have hB4 := hB3.trans (hb4.mono hB3.size)
  clear S3 T3 hb4 hB3
  go_wp2_with fail
  refine (join_no2 A B ad an bd bn _ (by omega) (by omega) (by omega) (by omega) (by omega) (by omega) HN.out).mono ?_
  rintro e w5 ⟨rfl, hb5⟩
  have S5 := has_below S4 hb5
  have T5 := has_below T4 hb5
  have hB5 := hB4.trans (hb5.mono hB4.size)
  clear S4 T4 hb5 hB4
  have hz5 := hB5.size
  go_wp2
  go_ret
  exact ⟨rfl, hB5.alloc hz5 _⟩

set_option maxHeartbeats 2000000 in
theorem joinsl_yes (A B M : Nat) (t u D I : ByteArray) (hs : s.size ≤ 300) (h1 : ad.size ≤ 300) (h2 : an.size ≤ 300) (h3 : bd.size ≤ 300) (h4 : bn.size ≤ 300) (ht : doB s A ad an = t) (hl : (A : Int) + ad.size ≤ s.size) (hl2 : (B : Int) + bd.size ≤ t.size) (ht2 : t.size ≤ 600) (hk0 : wrongN s A ad an = 0) (hk : wrongN t B bd bn = 0)
    (c1 : (B : Int) ≤ (A : Int) + an.size) (c2 : (A : Int) ≤ (B : Int) + bd.size) (hlD : (M : Int) + D.size ≤ s.size) (hI : I.size ≤ 281474976710656) (hwe : wrongN s M D I = 0) (hu1 : doB s M D I = u) (hu2 : doB t B bd bn = u)
    (hj : ∀ W, Calls Try.prog 20 #[.agg #[.int .i64 A, .string ad, .string an], .agg #[.int .i64 B, .string bd, .string bn]] W fun e w' => e = .returned (.tuple #[.agg #[.int .i64 M, .string D, .string I], .bool true]) ∧ Below W.heap.size W w') :
    Calls Try.prog 7 #[.string s, .agg #[.int .i64 A, .string ad, .string an], .agg #[.int .i64 B, .string bd, .string bn]] w fun e w' => e = .returned (.bool true) ∧ Below w.heap.size w w' := by
  have HW0 := Lib.hid hk0
  have HW := Lib.hid hk
  have HT := Lib.hid ht
  have HJ := Lib.hid hj
  have HE : Hid (∀ W, Calls Try.prog 11 #[.string s, .agg #[.int .i64 M, .string D, .string I]] W fun e w' => e = .returned (.int .i64 0) ∧ Below W.heap.size W w') := Lib.hid fun W => wrong_eq s D I W M 0 hwe (by omega) (by omega)
  have HU1 : Hid (∀ W, Calls Try.prog 14 #[.string s, .agg #[.int .i64 M, .string D, .string I]] W fun e w' => e = .returned (.string u) ∧ Below W.heap.size W w') := Lib.hid fun W => by rw [← hu1]; exact refdo_any s D I M W hlD (by omega) (by omega)
  have HU2 : Hid (∀ W, Calls Try.prog 14 #[.string t, .agg #[.int .i64 B, .string bd, .string bn]] W fun e w' => e = .returned (.string u) ∧ Below W.heap.size W w') := Lib.hid fun W => by rw [← hu2]; exact refdo_any t bd bn B W hl2 (by omega) (by omega)
  clear hk hk0 ht hj hwe hu1 hu2 hI
  have i1 : ¬ (300 : Int) < s.size := by omega
  have i2 : ¬ (300 : Int) < ad.size := by omega
  have i3 : ¬ (300 : Int) < an.size := by omega
  have i4 : ¬ (300 : Int) < bd.size := by omega
  have i5 : ¬ (300 : Int) < bn.size := by omega
  go_enter Try.func7, Try.ntmps7
  go_wp2_with fail
  refine (awake_any _).mono ?_
  rintro e w1 ⟨rfl, hb1⟩
  have S1 := has_below (has_first _ _ _ _ _ _) hb1
  have T1 := has_below (has_second _ _ _ _ _ _) hb1
  have hB := (below_two w _ _).trans (hb1.mono (below_two w _ _).size)
  clear hb1
  go_wp2_with fail
  refine (wrong_eq s ad an _ A 0 HW0.out (by omega) (by omega)).mono ?_
  rintro e w2 ⟨rfl, hb2⟩
  have S2 := has_below S1 hb2
  have T2 := has_below T1 hb2
  have hB2 := hB.trans (hb2.mono hB.size)
  clear S1 T1 hb2 hB
  go_wp2_with fail
  refine (refdo_any s ad an A _ hl (by omega) (by omega)).mono ?_
  rw [HT.out]
  rintro e w3 ⟨rfl, hb3⟩
  have S3 := has_below S2 hb3
  have T3 := has_below T2 hb3
  have hB3 := hB2.trans (hb3.mono hB2.size)
  clear S2 T2 hb3 hB2
  go_wp2_with fail
  refine (wrong_eq t bd bn _ B 0 HW.out (by omega) (by omega)).mono ?_
  rintro e w4 ⟨rfl, hb4⟩
  have S4 := has_below S3 hb4
  have T4 := has_below T3 hb4
  have hB4 := hB3.trans (hb4.mono hB3.size)
  clear S3 T3 hb4 hB3
  go_wp2_with fail
  refine (HJ.out _).mono ?_
  rintro e w5 ⟨rfl, hb5⟩
  have S5 := has_below S4 hb5
  have T5 := has_below T4 hb5
  have hB5 := hB4.trans (hb5.mono hB4.size)
  clear S4 T4 hb5 hB4
  obtain ⟨W6, hW6⟩ : ∃ W6, W6 = w5.alloc (Obj.cells #[Value.int IntKind.i64 M, Value.string D, Value.string I] 23) := ⟨_, rfl⟩
  have hn6 : Below w5.heap.size w5 W6 := by rw [hW6]; exact (Below.refl _ _).alloc (Nat.le_refl _) _
  have T6 := has_below T5 hn6
  have R6 : Has3 W6 w5.heap.size (.int .i64 M) (.string D) (.string I) := by
    rw [hW6]; have h := held_new w5 (.int .i64 M) (.string D) (.string I) 23; exact ⟨h.1, h.2.1, h.2.2.1, h.2.2.2.1⟩
  have hB6 : Below w.heap.size w W6 := hB5.trans (hn6.mono hB5.size)
  have hSd : W6.drew.cell? ⟨w5.heap.size, 0, none⟩ = some (Value.int .i64 M) ∧ W6.drew.cell? ⟨w5.heap.size, 1, none⟩ = some (Value.string D) ∧ W6.drew.cell? ⟨w5.heap.size, 2, none⟩ = some (Value.string I) ∧ w5.heap.size < W6.drew.heap.size ∧ W6.drew.cell? ⟨w.heap.size + 1, 0, none⟩ = some (Value.int .i64 B) ∧ W6.drew.cell? ⟨w.heap.size + 1, 1, none⟩ = some (Value.string bd) ∧ W6.drew.cell? ⟨w.heap.size + 1, 2, none⟩ = some (Value.string bn) ∧ w.heap.size + 1 < W6.drew.heap.size ∧ Below w5.heap.size w5 W6.drew := ⟨R6.1, R6.2.1, R6.2.2.1, R6.2.2.2, T6.1, T6.2.1, T6.2.2.1, T6.2.2.2, below_drewN hn6 1⟩
  have hle : w.heap.size ≤ w5.heap.size := hB5.size
  rw [hW6] at hSd
  clear R6 T6 hn6 hB6 hW6
  go_wp2_with fail
  clear S5 T5
  go_region_held3 (fun w' => w'.cell? ⟨w5.heap.size, 0, none⟩ = some (Value.int .i64 M) ∧ w'.cell? ⟨w5.heap.size, 1, none⟩ = some (Value.string D) ∧ w'.cell? ⟨w5.heap.size, 2, none⟩ = some (Value.string I) ∧ w5.heap.size < w'.heap.size ∧ w'.cell? ⟨w.heap.size + 1, 0, none⟩ = some (Value.int .i64 B) ∧ w'.cell? ⟨w.heap.size + 1, 1, none⟩ = some (Value.string bd) ∧ w'.cell? ⟨w.heap.size + 1, 2, none⟩ = some (Value.string bn) ∧ w.heap.size + 1 < w'.heap.size ∧ Below w5.heap.size w5 w')
    (first | exact hSd | exact held_six (by assumption) (by assumption))
    (first
      | (go_at_call 11; refine (HE.out _).mono ?_; rintro e w' ⟨rfl, hb'⟩)
      | (go_at_call 14; (with_reducible refine (HU1.out _).mono ?_); rintro e w' ⟨rfl, hb'⟩)
      | (go_at_call 14; (with_reducible refine (HU2.out _).mono ?_); rintro e w' ⟨rfl, hb'⟩))
  all_goals
    go_wp2
    rename_i hH
    go_ret
    exact ⟨rfl, hB5.trans (hH.2.2.2.2.2.2.2.2.mono hle)⟩

theorem joinsl_any (A B : Int) :
    Calls Try.prog 7 #[.string s, .agg #[.int .i64 A, .string ad, .string an], .agg #[.int .i64 B, .string bd, .string bn]] w fun e w' => e = .returned (.bool true) ∧ Below w.heap.size w w' := by
  by_cases h : 300 < s.size ∨ 300 < ad.size ∨ 300 < an.size ∨ 300 < bd.size ∨ 300 < bn.size
  · exact joinsl_large s ad an bd bn w A B h
  · have hs : s.size ≤ 300 := by omega
    have h1 : ad.size ≤ 300 := by omega
    have h2 : an.size ≤ 300 := by omega
    have h3 : bd.size ≤ 300 := by omega
    have h4 : bn.size ≤ 300 := by omega
    rcases wrongN_cases s A ad an with k0 | k0 | k0
    · obtain ⟨A, rfl⟩ := Int.eq_ofNat_of_zero_le (wrongN_0 k0).1
      have ha : fits s A ad := by simpa using (wrongN_0 k0).2.2.1
      have hl := ha.1
      have st : (doB s A ad an).size = s.size - ad.size + an.size := doB_size hl
      rcases wrongN_cases (doB s A ad an) B bd bn with k1 | k1 | k1
      · obtain ⟨B, rfl⟩ := Int.eq_ofNat_of_zero_le (wrongN_0 k1).1
        have hb : fits (doB s A ad an) B bd := by simpa using (wrongN_0 k1).2.2.1
        have hl2 := hb.1
        have su : (doB (doB s A ad an) B bd bn).size = (doB s A ad an).size - bd.size + bn.size := doB_size hl2
        by_cases n1 : (A : Int) + an.size < B
        · exact joinsl_no1 s ad an bd bn w A B _ hs h1 h2 h3 h4 rfl (by omega) (by omega) (by omega) k0 k1 n1
        · by_cases n2 : (B : Int) + bd.size < A
          · exact joinsl_no2 s ad an bd bn w A B _ hs h1 h2 h3 h4 rfl (by omega) (by omega) (by omega) k0 k1 n2
          · have fin : ∀ (M : Nat) (D I : ByteArray), fits s M D ∧ doB s M D I = doB (doB s A ad an) B bd bn → I.size ≤ 600 → (∀ W, Calls Try.prog 20 #[.agg #[.int .i64 A, .string ad, .string an], .agg #[.int .i64 B, .string bd, .string bn]] W fun e w' => e = .returned (.tuple #[.agg #[.int .i64 M, .string D, .string I], .bool true]) ∧ Below W.heap.size W w') →
                Calls Try.prog 7 #[.string s, .agg #[.int .i64 A, .string ad, .string an], .agg #[.int .i64 B, .string bd, .string bn]] w fun e w' => e = .returned (.bool true) ∧ Below w.heap.size w w' := by
              intro M D I hf hI hj
              have hd := hf.1.1
              have sz := doB_size (n := I) hd
              rw [hf.2] at sz
              exact joinsl_yes s ad an bd bn w A B M _ _ D I hs h1 h2 h3 h4 rfl (by omega) (by omega) (by omega) k0 k1 (by omega) (by omega) (by omega) (by omega) (wrongN_mk0 (by omega) (by omega) (by simpa using hf.1) (by omega)) hf.2 rfl hj
            by_cases c : A ≤ B
            · obtain ⟨f, hf⟩ : ∃ f, B = A + f := ⟨B - A, by omega⟩
              by_cases c2 : f + bd.size ≤ an.size
              · exact fin A ad _ (joins_1 f hf (by omega) c2 ha hb) (by simp; omega) fun W => join_1 A B ad an bd bn W (by omega) (by omega) (by omega) (by omega) (by omega) (by omega) f hf (by omega) c2
              · exact fin A _ _ (joins_2 f hf (by omega) (by omega) ha hb) (by simp; omega) fun W => join_2 A B ad an bd bn W (by omega) (by omega) (by omega) (by omega) (by omega) (by omega) f hf (by omega) (by omega)
            · obtain ⟨g, hg⟩ : ∃ g, A = B + g := ⟨A - B, by omega⟩
              obtain ⟨h, hh⟩ : ∃ h, bd.size = g + h := ⟨bd.size - g, by omega⟩
              by_cases c2 : h ≤ an.size
              · exact fin B _ _ (joins_3 g h hg hh c2 ha hb) (by simp; omega) fun W => join_3 A B ad an bd bn W (by omega) (by omega) (by omega) (by omega) (by omega) (by omega) g h hg hh (by omega) c2
              · exact fin B _ _ (joins_4 g h hg hh (by omega) ha hb) (by omega) fun W => join_4 A B ad an bd bn W (by omega) (by omega) (by omega) (by omega) (by omega) (by omega) g h hg hh (by omega) (by omega)
      · exact joinsl_bad2 s ad an bd bn w A B 1 _ hs h1 h2 h3 h4 rfl (by omega) (by omega) k0 k1 (by decide)
      · exact joinsl_bad2 s ad an bd bn w A B 2 _ hs h1 h2 h3 h4 rfl (by omega) (by omega) k0 k1 (by decide)
    · exact joinsl_bad1 s ad an bd bn w A B 1 hs h1 h2 h3 h4 k0 (by decide)
    · exact joinsl_bad1 s ad an bd bn w A B 2 hs h1 h2 h3 h4 k0 (by decide)
end
end Go.Proofs.Ytjickhgkhcojgaa

/- The walk of the statement EditDoes: it returns true, and what lay in memory before stays as it was. No condition. -/
import Derived.Test.YtjickhgkhcojgaaEdE
namespace Go.Proofs.Ytjickhgkhcojgaa
open Go.RowKit
set_option linter.unusedVariables false

/-- A struct of three cells laid anew. -/
theorem held_new (w : World) (x y z : Value) (t : TypeId) : (w.alloc (Obj.cells #[x, y, z] t)).cell? ⟨w.heap.size, 0, none⟩ = some x ∧ (w.alloc (Obj.cells #[x, y, z] t)).cell? ⟨w.heap.size, 1, none⟩ = some y ∧ (w.alloc (Obj.cells #[x, y, z] t)).cell? ⟨w.heap.size, 2, none⟩ = some z ∧ w.heap.size < (w.alloc (Obj.cells #[x, y, z] t)).heap.size ∧ Below (w.alloc (Obj.cells #[x, y, z] t)).heap.size (w.alloc (Obj.cells #[x, y, z] t)) (w.alloc (Obj.cells #[x, y, z] t)) := by
  simp [Below.refl]

section
variable (s d n : ByteArray) (w : World)
set_option maxHeartbeats 1000000 in
theorem does_large (a : Int) (h : 300 < s.size ∨ 300 < d.size ∨ 300 < n.size) :
    Calls Try.prog 3 #[.string s, .agg #[.int .i64 a, .string d, .string n]] w fun e w' => e = .returned (.bool true) ∧ Below w.heap.size w w' := by
  go_enter Try.func3, Try.ntmps3
  go_wp2_with fail
  refine (awake_any _).mono ?_
  rintro e w1 ⟨rfl, hb1⟩
  have S1 := held_of (held_new _ _ _ _ _) hb1
  have hB := below_new _ hb1
  clear hb1
  by_cases h1 : (300 : Int) < s.size
  · go_wp2
    go_ret
    exact ⟨rfl, hB⟩
  · by_cases h2 : (300 : Int) < d.size
    · go_wp2
      go_ret
      exact ⟨rfl, hB⟩
    · have h3 : (300 : Int) < n.size := by omega
      go_wp2
      go_ret
      exact ⟨rfl, hB⟩

set_option maxHeartbeats 1000000 in
theorem does_bad (a : Int) (k : Int) (hs : s.size ≤ 300) (hd : d.size ≤ 300) (hn : n.size ≤ 300) (hk : wrongN s a d n = k) (k0 : k ≠ 0) :
    Calls Try.prog 3 #[.string s, .agg #[.int .i64 a, .string d, .string n]] w fun e w' => e = .returned (.bool true) ∧ Below w.heap.size w w' := by
  have HW := Lib.hid hk
  clear hk
  have i1 : ¬ (300 : Int) < s.size := by omega
  have i2 : ¬ (300 : Int) < d.size := by omega
  have i3 : ¬ (300 : Int) < n.size := by omega
  have k1 : (k == 0) = false := by simpa using k0
  have k2 : decide (k = 0) = false := by simpa using k0
  go_enter Try.func3, Try.ntmps3
  go_wp2_with fail
  refine (awake_any _).mono ?_
  rintro e w1 ⟨rfl, hb1⟩
  have S1 := held_of (held_new _ _ _ _ _) hb1
  have hB := below_new _ hb1
  clear hb1
  go_wp2_with fail
  refine (do_bad s d n _ a k HW.out k0 (by omega) (by omega) (by omega)).mono ?_
  rintro e w2 ⟨rfl, hb2⟩
  have S2 := held_of S1 hb2
  have hB2 := hB.trans (hb2.mono hB.size)
  clear S1 hb2 hB
  go_wp2_with fail
  refine (wrong_eq s d n _ a k HW.out (by omega) (by omega)).mono ?_
  rintro e w3 ⟨rfl, hb3⟩
  have S3 := held_of S2 hb3
  have hB3 := hB2.trans (hb3.mono hB2.size)
  clear S2 hb3 hB2
  go_wp2_with fail
  refine (goes_any s d n _ a (by omega) (by omega) (by omega)).mono ?_
  rw [HW.out]
  rintro e w4 ⟨rfl, hb4⟩
  have S4 := held_of S3 hb4
  have hB4 := hB3.trans (hb4.mono hB3.size)
  clear S3 hb4 hB3
  go_wp2
  go_ret
  exact ⟨rfl, hB4⟩

set_option maxHeartbeats 1000000 in
theorem does_ok (a : Nat) (hs : s.size ≤ 300) (hd : d.size ≤ 300) (hn : n.size ≤ 300) (hk : wrongN s a d n = 0) :
    Calls Try.prog 3 #[.string s, .agg #[.int .i64 a, .string d, .string n]] w fun e w' => e = .returned (.bool true) ∧ Below w.heap.size w w' := by
  have hf := (wrongN_0 hk).2.2.1
  simp only [Int.toNat_natCast] at hf
  have hf1 := hf.1
  obtain ⟨g1, g2⟩ := inverse_brings (n := n) hf
  have hz := doB_size (n := n) hf.1
  have z1 : (doB s a d n).size ≤ 281474976710656 := by omega
  have hw2 : wrongN (doB s a d n) a n d = 0 := wrongN_mk0 (by omega) (by omega) (by simpa using g1) (by omega)
  have h2 : (a : Int) + d.size ≤ s.size := by omega
  clear hf hz g1
  generalize hgt : doB s a d n = t at *
  have HW := Lib.hid hk
  have HW2 := Lib.hid hw2
  have HG := Lib.hid g2
  have HT := Lib.hid hgt
  clear hk hw2 g2 hgt
  have i1 : ¬ (300 : Int) < s.size := by omega
  have i2 : ¬ (300 : Int) < d.size := by omega
  have i3 : ¬ (300 : Int) < n.size := by omega
  go_enter Try.func3, Try.ntmps3
  go_wp2_with fail
  refine (awake_any _).mono ?_
  rintro e w1 ⟨rfl, hb1⟩
  have S1 := held_of (held_new _ _ _ _ _) hb1
  have hB := below_new _ hb1
  clear hb1
  go_wp2_with fail
  refine (do_ok s d n _ a HW.out (by omega) (by omega) (by omega)).mono ?_
  rw [HT.out]
  rintro e w2 ⟨rfl, hb2⟩
  have S2 := held_of S1 hb2
  have hB2 := hB.trans (hb2.mono hB.size)
  clear S1 hb2 hB
  go_wp2_with fail
  refine (wrong_eq s d n _ a 0 HW.out (by omega) (by omega)).mono ?_
  rintro e w3 ⟨rfl, hb3⟩
  have S3 := held_of S2 hb3
  have hB3 := hB2.trans (hb3.mono hB2.size)
  clear S2 hb3 hB2
  go_wp2_with fail
  refine (goes_any s d n _ a (by omega) (by omega) (by omega)).mono ?_
  rw [HW.out]
  rintro e w4 ⟨rfl, hb4⟩
  have S4 := held_of S3 hb4
  have hB4 := hB3.trans (hb4.mono hB3.size)
  clear S3 hb4 hB3
  go_wp2_with fail
  refine (inverse_any d n _ a).mono ?_
  rintro e w5 ⟨rfl, hb5⟩
  have S5 := held_of S4 hb5
  have hB5 := hB4.trans (hb5.mono hB4.size)
  clear S4 hb5 hB4
  go_wp2_with fail
  refine (do_ok t n d _ a HW2.out z1 (by omega) (by omega)).mono ?_
  rw [HG.out]
  rintro e w6 ⟨rfl, hb6⟩
  have S6 := held_of S5 hb6
  have hB6 := hB5.trans (hb6.mono hB5.size)
  clear S5 hb6 hB5
  go_wp2_with fail
  refine (refdo_any s d n a _ h2 (by omega) (by omega)).mono ?_
  rw [HT.out]
  rintro e w7 ⟨rfl, hb7⟩
  have hB7 := hB6.trans (hb7.mono hB6.size)
  clear S6 hb7 hB6
  go_wp2
  go_ret
  exact ⟨rfl, hB7⟩

theorem does_any (a : Int) :
    Calls Try.prog 3 #[.string s, .agg #[.int .i64 a, .string d, .string n]] w fun e w' => e = .returned (.bool true) ∧ Below w.heap.size w w' := by
  by_cases h : 300 < s.size ∨ 300 < d.size ∨ 300 < n.size
  · exact does_large s d n w a h
  · rcases wrongN_cases s a d n with k | k | k
    · obtain ⟨j, rfl⟩ := Int.eq_ofNat_of_zero_le (wrongN_0 k).1
      exact does_ok s d n w j (by omega) (by omega) (by omega) k
    · exact does_bad s d n w a 1 (by omega) (by omega) (by omega) k (by decide)
    · exact does_bad s d n w a 2 (by omega) (by omega) (by omega) k (by decide)
end
end Go.Proofs.Ytjickhgkhcojgaa

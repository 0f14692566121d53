/- What Join of layer 1 (edit) returns for two edits: the one edit, or false where they don't touch: conditions: places and texts below a million. -/
import Derived.Test.YtjickhgkhcojgaaEdI
namespace Go.Proofs.Ytjickhgkhcojgaa
open Go.RowKit
set_option linter.unusedVariables false

theorem below_three (w : World) (x y z : Obj) : Below w.heap.size w (((w.alloc x).alloc y).alloc z) := by
  have h1 : Below w.heap.size w (w.alloc x) := (Below.refl _ _).alloc (Nat.le_refl _) _
  have h2 : Below w.heap.size w ((w.alloc x).alloc y) := h1.alloc (by simp) _
  exact h2.alloc (by simp; omega) _
theorem two_up (w : World) : w.heap.size ≤ w.heap.size + 1 + 1 := by omega

section
variable (A B : Nat) (ad an bd bn : ByteArray) (w : World)

set_option maxHeartbeats 1000000 in
theorem join_1 (hA : A ≤ 1000000) (hB : B ≤ 1000000) (h1 : ad.size ≤ 1000000) (h2 : an.size ≤ 1000000) (h3 : bd.size ≤ 1000000) (h4 : bn.size ≤ 1000000) (f : Nat) (hf : B = A + f) (hfn : f ≤ an.size) (hi : f + bd.size ≤ an.size) :
    Calls Try.prog 20 #[.agg #[.int .i64 A, .string ad, .string an], .agg #[.int .i64 B, .string bd, .string bn]] w fun e w' => e = .returned (.tuple #[.agg #[.int .i64 A, .string (ad), .string (an.extract 0 f ++ bn ++ an.extract (f + bd.size) an.size)], .bool true]) ∧ Below w.heap.size w w' := by
  have q1 : (B : Int) - (A : Int) = (f : Int) := by omega
  have q2 : max (-(f : Int)) 0 = 0 := by omega
  have q3 : max (f : Int) 0 = f := by omega
  have q4 : min ((an.size : Int) - f) bd.size = (bd.size : Int) := by omega
  have q5 : min ((f : Int) + bd.size) an.size = ((f + bd.size : Nat) : Int) := by omega
  have q6 : ¬ (an.size : Int) < f := by omega
  have q7 : ¬ (f : Int) + bd.size < 0 := by omega
  have q8 : min (A : Int) B = A := by omega
  have q9 : (f : Int) ≤ an.size := by omega
  have q10 : (f : Int) + bd.size ≤ an.size := by omega
  have Hhf := Lib.hid hf
  clear hf
  go_enter Try.func20, Try.ntmps20
  go_wp2
  go_quiet (fail)
  go_wp2
  refine bodyPost_ret (v := .tuple #[.agg #[.int .i64 A, .string (ad), .string (an.extract 0 f ++ bn ++ an.extract (f + bd.size) an.size)], .bool true]) (by simp [results, Try.results20, go_sem, *]) rfl ⟨rfl, ?_⟩
  exact (((below_drewN (below_three w _ _ _) _).setCell (two_up w) _).setCell (two_up w) _).setCell (two_up w) _

set_option maxHeartbeats 1000000 in
theorem join_2 (hA : A ≤ 1000000) (hB : B ≤ 1000000) (h1 : ad.size ≤ 1000000) (h2 : an.size ≤ 1000000) (h3 : bd.size ≤ 1000000) (h4 : bn.size ≤ 1000000) (f : Nat) (hf : B = A + f) (hfn : f ≤ an.size) (hi : an.size < f + bd.size) :
    Calls Try.prog 20 #[.agg #[.int .i64 A, .string ad, .string an], .agg #[.int .i64 B, .string bd, .string bn]] w fun e w' => e = .returned (.tuple #[.agg #[.int .i64 A, .string (ad ++ bd.extract (an.size - f) bd.size), .string (an.extract 0 f ++ bn)], .bool true]) ∧ Below w.heap.size w w' := by
  have q1 : (B : Int) - (A : Int) = (f : Int) := by omega
  have q2 : max (-(f : Int)) 0 = 0 := by omega
  have q3 : max (f : Int) 0 = f := by omega
  have q4 : min ((an.size : Int) - f) bd.size = ((an.size - f : Nat) : Int) := by omega
  have q5 : min ((f : Int) + bd.size) an.size = (an.size : Int) := by omega
  have q6 : ¬ (an.size : Int) < f := by omega
  have q7 : ¬ (f : Int) + bd.size < 0 := by omega
  have q8 : min (A : Int) B = A := by omega
  have q9 : (f : Int) ≤ an.size := by omega
  have q10 : ((an.size - f : Nat) : Int) ≤ bd.size := by omega
  have Hhf := Lib.hid hf
  clear hf
  go_enter Try.func20, Try.ntmps20
  go_wp2
  go_quiet (fail)
  go_wp2
  refine bodyPost_ret (v := .tuple #[.agg #[.int .i64 A, .string (ad ++ bd.extract (an.size - f) bd.size), .string (an.extract 0 f ++ bn)], .bool true]) (by simp [results, Try.results20, go_sem, *]) rfl ⟨rfl, ?_⟩
  exact (((below_drewN (below_three w _ _ _) _).setCell (two_up w) _).setCell (two_up w) _).setCell (two_up w) _

set_option maxHeartbeats 1000000 in
theorem join_3 (hA : A ≤ 1000000) (hB : B ≤ 1000000) (h1 : ad.size ≤ 1000000) (h2 : an.size ≤ 1000000) (h3 : bd.size ≤ 1000000) (h4 : bn.size ≤ 1000000) (g h : Nat) (hg : A = B + g) (hh : bd.size = g + h) (g0 : 0 < g) (hi : h ≤ an.size) :
    Calls Try.prog 20 #[.agg #[.int .i64 A, .string ad, .string an], .agg #[.int .i64 B, .string bd, .string bn]] w fun e w' => e = .returned (.tuple #[.agg #[.int .i64 B, .string (bd.extract 0 g ++ ad), .string (bn ++ an.extract h an.size)], .bool true]) ∧ Below w.heap.size w w' := by
  have q1 : (B : Int) - (A : Int) = -(g : Int) := by omega
  have q2 : max (-(g : Int)) 0 = 0 := by omega
  have q3 : max (g : Int) 0 = g := by omega
  have q11 : -(g : Int) + (bd.size : Int) = (h : Int) := by omega
  have q4 : min ((an.size : Int) + g) bd.size = (bd.size : Int) := by omega
  have q5 : min (h : Int) an.size = (h : Int) := by omega
  have q6 : ¬ (an.size : Int) < -(g : Int) := by omega
  have q7 : ¬ (h : Int) < 0 := by omega
  have q8 : min (A : Int) B = B := by omega
  have q9 : (g : Int) ≤ bd.size := by omega
  have q10 : (h : Int) ≤ an.size := by omega
  have Hhg := Lib.hid hg
  have Hhh := Lib.hid hh
  clear hg hh
  go_enter Try.func20, Try.ntmps20
  go_wp2
  go_quiet (fail)
  go_wp2
  refine bodyPost_ret (v := .tuple #[.agg #[.int .i64 B, .string (bd.extract 0 g ++ ad), .string (bn ++ an.extract h an.size)], .bool true]) (by simp [results, Try.results20, go_sem, *]) rfl ⟨rfl, ?_⟩
  exact (((below_drewN (below_three w _ _ _) _).setCell (two_up w) _).setCell (two_up w) _).setCell (two_up w) _

set_option maxHeartbeats 1000000 in
theorem join_4 (hA : A ≤ 1000000) (hB : B ≤ 1000000) (h1 : ad.size ≤ 1000000) (h2 : an.size ≤ 1000000) (h3 : bd.size ≤ 1000000) (h4 : bn.size ≤ 1000000) (g h : Nat) (hg : A = B + g) (hh : bd.size = g + h) (g0 : 0 < g) (hi : an.size < h) :
    Calls Try.prog 20 #[.agg #[.int .i64 A, .string ad, .string an], .agg #[.int .i64 B, .string bd, .string bn]] w fun e w' => e = .returned (.tuple #[.agg #[.int .i64 B, .string (bd.extract 0 g ++ ad ++ bd.extract (an.size + g) bd.size), .string (bn)], .bool true]) ∧ Below w.heap.size w w' := by
  have q1 : (B : Int) - (A : Int) = -(g : Int) := by omega
  have q2 : max (-(g : Int)) 0 = 0 := by omega
  have q3 : max (g : Int) 0 = g := by omega
  have q11 : -(g : Int) + (bd.size : Int) = (h : Int) := by omega
  have q4 : min ((an.size : Int) + g) bd.size = ((an.size + g : Nat) : Int) := by omega
  have q5 : min (h : Int) an.size = (an.size : Int) := by omega
  have q6 : ¬ (an.size : Int) < -(g : Int) := by omega
  have q7 : ¬ (h : Int) < 0 := by omega
  have q8 : min (A : Int) B = B := by omega
  have q9 : (g : Int) ≤ bd.size := by omega
  have q10 : ((an.size + g : Nat) : Int) ≤ bd.size := by omega
  have Hhg := Lib.hid hg
  have Hhh := Lib.hid hh
  clear hg hh
  go_enter Try.func20, Try.ntmps20
  go_wp2
  go_quiet (fail)
  go_wp2
  refine bodyPost_ret (v := .tuple #[.agg #[.int .i64 B, .string (bd.extract 0 g ++ ad ++ bd.extract (an.size + g) bd.size), .string (bn)], .bool true]) (by simp [results, Try.results20, go_sem, *]) rfl ⟨rfl, ?_⟩
  exact (((below_drewN (below_three w _ _ _) _).setCell (two_up w) _).setCell (two_up w) _).setCell (two_up w) _

set_option maxHeartbeats 1000000 in
theorem join_no1 (hA : A ≤ 1000000) (hB : B ≤ 1000000) (h1 : ad.size ≤ 1000000) (h2 : an.size ≤ 1000000) (h3 : bd.size ≤ 1000000) (h4 : bn.size ≤ 1000000) (h : (A : Int) + an.size < B) :
    Calls Try.prog 20 #[.agg #[.int .i64 A, .string ad, .string an], .agg #[.int .i64 B, .string bd, .string bn]] w fun e w' => e = .returned (.tuple #[.agg #[.int .i64 0, .string ⟨#[]⟩, .string ⟨#[]⟩], .bool false]) ∧ Below w.heap.size w w' := by
  have q1 : (an.size : Int) < (B : Int) - (A : Int) := by omega
  go_enter Try.func20, Try.ntmps20
  go_wp2
  refine bodyPost_ret (v := .tuple #[.agg #[.int .i64 0, .string ⟨#[]⟩, .string ⟨#[]⟩], .bool false]) (by simp [results, Try.results20, go_sem, *]) rfl ⟨rfl, ?_⟩
  exact below_three w _ _ _

set_option maxHeartbeats 1000000 in
theorem join_no2 (hA : A ≤ 1000000) (hB : B ≤ 1000000) (h1 : ad.size ≤ 1000000) (h2 : an.size ≤ 1000000) (h3 : bd.size ≤ 1000000) (h4 : bn.size ≤ 1000000) (h : (B : Int) + bd.size < A) :
    Calls Try.prog 20 #[.agg #[.int .i64 A, .string ad, .string an], .agg #[.int .i64 B, .string bd, .string bn]] w fun e w' => e = .returned (.tuple #[.agg #[.int .i64 0, .string ⟨#[]⟩, .string ⟨#[]⟩], .bool false]) ∧ Below w.heap.size w w' := by
  have q1 : ¬ (an.size : Int) < (B : Int) - (A : Int) := by omega
  have q2 : (B : Int) - (A : Int) + bd.size < 0 := by omega
  go_enter Try.func20, Try.ntmps20
  go_wp2
  refine bodyPost_ret (v := .tuple #[.agg #[.int .i64 0, .string ⟨#[]⟩, .string ⟨#[]⟩], .bool false]) (by simp [results, Try.results20, go_sem, *]) rfl ⟨rfl, ?_⟩
  exact below_three w _ _ _
end
end Go.Proofs.Ytjickhgkhcojgaa

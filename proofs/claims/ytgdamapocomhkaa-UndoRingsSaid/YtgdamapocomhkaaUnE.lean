/- What Join of layer 1 (edit) returns for two edits: the one edit, or false where they don't touch: condition: texts below a million. -/
import Derived.Test.YtgdamapocomhkaaEdA
import Derived.Test.YtgdamapocomhkaaEdQ
import Derived.WalkMore
import Derived.StillTailTactics
import Derived.Lib.MinMax
import Derived.Deep.RegionHeld3
namespace Go.Proofs.Ytgdamapocomhkaa
open Go.RowKit
set_option linter.unusedVariables false

theorem below_three (w : World) (x y z : Obj) : Below w.heap.size w (((w.alloc x).alloc y).alloc z) := by
  have h1 : Below w.heap.size w (w.alloc x) := (Below.refl _ _).alloc (Nat.le_refl _) _
  have h2 : Below w.heap.size w ((w.alloc x).alloc y) := h1.alloc (by simp) _
  exact h2.alloc (by simp; omega) _
theorem two_up (w : World) : w.heap.size ≤ w.heap.size + 1 + 1 := by omega

section
variable (A B : Nat) (ad an bd bn : ByteArray) (w : World)

set_option maxHeartbeats 1000000 in
theorem join_1 (hA : A ≤ 1048576) (hB : B ≤ 1048576) (h1 : ad.size ≤ 1000000) (h2 : an.size ≤ 1000000) (h3 : bd.size ≤ 1000000) (h4 : bn.size ≤ 1000000) (f : Nat) (hf : B = A + f) (hfn : f ≤ an.size) (hi : f + bd.size ≤ an.size) :
    Calls Try.prog 10 #[.agg #[.int .i64 A, .string ad, .string an], .agg #[.int .i64 B, .string bd, .string bn]] w fun e w' => e = .returned (.tuple #[.agg #[.int .i64 A, .string (ad), .string (an.extract 0 f ++ bn ++ an.extract (f + bd.size) an.size)], .bool true]) ∧ Below w.heap.size w w' := by
  have qA : (A : Int) ≤ 1048576 := by omega
  have qB : (B : Int) ≤ 1048576 := by omega
  have qA0 : (0 : Int) ≤ (A : Int) := by omega
  have qB0 : (0 : Int) ≤ (B : Int) := by omega
  have q1 : (B : Int) - (A : Int) = (f : Int) := by omega
  have q2 : max (-(f : Int)) 0 = 0 := by omega
  have q3 : max (f : Int) 0 = f := by omega
  have q4 : min ((an.size : Int) - f) bd.size = (bd.size : Int) := by omega
  have q5 : min ((f : Int) + bd.size) an.size = ((f + bd.size : Nat) : Int) := by omega
  have q6 : ¬ (an.size : Int) < f := by omega
  have q7 : ¬ (f : Int) + bd.size < 0 := by omega
  have q8 : min (A : Int) B = A := by omega
  have q9 : (f : Int) ≤ an.size := by omega
  have q10 : (f : Int) + bd.size ≤ an.size := by omega
  have Hhf := Lib.hid hf
  clear hf
  go_enter Try.func10, Try.ntmps10
  go_wp2
  all_goals
    go_quiet (fail)
    go_wp2
    refine bodyPost_ret (v := .tuple #[.agg #[.int .i64 A, .string (ad), .string (an.extract 0 f ++ bn ++ an.extract (f + bd.size) an.size)], .bool true]) (by simp [results, Try.results10, go_sem, *]) rfl ⟨rfl, ?_⟩
    exact (((below_drewN (below_three w _ _ _) _).setCell (two_up w) _).setCell (two_up w) _).setCell (two_up w) _

set_option maxHeartbeats 1000000 in
theorem join_2 (hA : A ≤ 1048576) (hB : B ≤ 1048576) (h1 : ad.size ≤ 1000000) (h2 : an.size ≤ 1000000) (h3 : bd.size ≤ 1000000) (h4 : bn.size ≤ 1000000) (f : Nat) (hf : B = A + f) (hfn : f ≤ an.size) (hi : an.size < f + bd.size) :
    Calls Try.prog 10 #[.agg #[.int .i64 A, .string ad, .string an], .agg #[.int .i64 B, .string bd, .string bn]] w fun e w' => e = .returned (.tuple #[.agg #[.int .i64 A, .string (ad ++ bd.extract (an.size - f) bd.size), .string (an.extract 0 f ++ bn)], .bool true]) ∧ Below w.heap.size w w' := by
  have qA : (A : Int) ≤ 1048576 := by omega
  have qB : (B : Int) ≤ 1048576 := by omega
  have qA0 : (0 : Int) ≤ (A : Int) := by omega
  have qB0 : (0 : Int) ≤ (B : Int) := by omega
  have q1 : (B : Int) - (A : Int) = (f : Int) := by omega
  have q2 : max (-(f : Int)) 0 = 0 := by omega
  have q3 : max (f : Int) 0 = f := by omega
  have q4 : min ((an.size : Int) - f) bd.size = ((an.size - f : Nat) : Int) := by omega
  have q5 : min ((f : Int) + bd.size) an.size = (an.size : Int) := by omega
  have q6 : ¬ (an.size : Int) < f := by omega
  have q7 : ¬ (f : Int) + bd.size < 0 := by omega
  have q8 : min (A : Int) B = A := by omega
  have q9 : (f : Int) ≤ an.size := by omega
  have q10 : ((an.size - f : Nat) : Int) ≤ bd.size := by omega
  have Hhf := Lib.hid hf
  clear hf
  go_enter Try.func10, Try.ntmps10
  go_wp2
  all_goals
    go_quiet (fail)
    go_wp2
    refine bodyPost_ret (v := .tuple #[.agg #[.int .i64 A, .string (ad ++ bd.extract (an.size - f) bd.size), .string (an.extract 0 f ++ bn)], .bool true]) (by simp [results, Try.results10, go_sem, *]) rfl ⟨rfl, ?_⟩
    exact (((below_drewN (below_three w _ _ _) _).setCell (two_up w) _).setCell (two_up w) _).setCell (two_up w) _

set_option maxHeartbeats 1000000 in
theorem join_3 (hA : A ≤ 1048576) (hB : B ≤ 1048576) (h1 : ad.size ≤ 1000000) (h2 : an.size ≤ 1000000) (h3 : bd.size ≤ 1000000) (h4 : bn.size ≤ 1000000) (g k : Nat) (hg : A = B + g) (hh : bd.size = g + k) (g0 : 0 < g) (hi : k ≤ an.size) :
    Calls Try.prog 10 #[.agg #[.int .i64 A, .string ad, .string an], .agg #[.int .i64 B, .string bd, .string bn]] w fun e w' => e = .returned (.tuple #[.agg #[.int .i64 B, .string (bd.extract 0 g ++ ad), .string (bn ++ an.extract k an.size)], .bool true]) ∧ Below w.heap.size w w' := by
  have qA : (A : Int) ≤ 1048576 := by omega
  have qB : (B : Int) ≤ 1048576 := by omega
  have qA0 : (0 : Int) ≤ (A : Int) := by omega
  have qB0 : (0 : Int) ≤ (B : Int) := by omega
  have q1 : (B : Int) - (A : Int) = -(g : Int) := by omega
  have q2 : max (-(g : Int)) 0 = 0 := by omega
  have q3 : max (g : Int) 0 = g := by omega
  have q11 : -(g : Int) + (bd.size : Int) = (k : Int) := by omega
  have q4 : min ((an.size : Int) + g) bd.size = (bd.size : Int) := by omega
  have q5 : min (k : Int) an.size = (k : Int) := by omega
  have q6 : ¬ (an.size : Int) < -(g : Int) := by omega
  have q7 : ¬ (k : Int) < 0 := by omega
  have q8 : min (A : Int) B = B := by omega
  have q9 : (g : Int) ≤ bd.size := by omega
  have q10 : (k : Int) ≤ an.size := by omega
  have Hhg := Lib.hid hg
  have Hhh := Lib.hid hh
  clear hg hh
  go_enter Try.func10, Try.ntmps10
  go_wp2
  all_goals
    go_quiet (fail)
    go_wp2
    refine bodyPost_ret (v := .tuple #[.agg #[.int .i64 B, .string (bd.extract 0 g ++ ad), .string (bn ++ an.extract k an.size)], .bool true]) (by simp [results, Try.results10, go_sem, *]) rfl ⟨rfl, ?_⟩
    exact (((below_drewN (below_three w _ _ _) _).setCell (two_up w) _).setCell (two_up w) _).setCell (two_up w) _

set_option maxHeartbeats 1000000 in
theorem join_4 (hA : A ≤ 1048576) (hB : B ≤ 1048576) (h1 : ad.size ≤ 1000000) (h2 : an.size ≤ 1000000) (h3 : bd.size ≤ 1000000) (h4 : bn.size ≤ 1000000) (g k : Nat) (hg : A = B + g) (hh : bd.size = g + k) (g0 : 0 < g) (hi : an.size < k) :
    Calls Try.prog 10 #[.agg #[.int .i64 A, .string ad, .string an], .agg #[.int .i64 B, .string bd, .string bn]] w fun e w' => e = .returned (.tuple #[.agg #[.int .i64 B, .string (bd.extract 0 g ++ ad ++ bd.extract (an.size + g) bd.size), .string (bn)], .bool true]) ∧ Below w.heap.size w w' := by
  have qA : (A : Int) ≤ 1048576 := by omega
  have qB : (B : Int) ≤ 1048576 := by omega
  have qA0 : (0 : Int) ≤ (A : Int) := by omega
  have qB0 : (0 : Int) ≤ (B : Int) := by omega
  have q1 : (B : Int) - (A : Int) = -(g : Int) := by omega
  have q2 : max (-(g : Int)) 0 = 0 := by omega
  have q3 : max (g : Int) 0 = g := by omega
  have q11 : -(g : Int) + (bd.size : Int) = (k : Int) := by omega
  have q4 : min ((an.size : Int) + g) bd.size = ((an.size + g : Nat) : Int) := by omega
  have q5 : min (k : Int) an.size = (an.size : Int) := by omega
  have q6 : ¬ (an.size : Int) < -(g : Int) := by omega
  have q7 : ¬ (k : Int) < 0 := by omega
  have q8 : min (A : Int) B = B := by omega
  have q9 : (g : Int) ≤ bd.size := by omega
  have q10 : ((an.size + g : Nat) : Int) ≤ bd.size := by omega
  have Hhg := Lib.hid hg
  have Hhh := Lib.hid hh
  clear hg hh
  go_enter Try.func10, Try.ntmps10
  go_wp2
  all_goals
    go_quiet (fail)
    go_wp2
    refine bodyPost_ret (v := .tuple #[.agg #[.int .i64 B, .string (bd.extract 0 g ++ ad ++ bd.extract (an.size + g) bd.size), .string (bn)], .bool true]) (by simp [results, Try.results10, go_sem, *]) rfl ⟨rfl, ?_⟩
    exact (((below_drewN (below_three w _ _ _) _).setCell (two_up w) _).setCell (two_up w) _).setCell (two_up w) _

set_option maxHeartbeats 1000000 in
theorem join_no1 (hA : A ≤ 1048576) (hB : B ≤ 1048576) (h1 : ad.size ≤ 1000000) (h2 : an.size ≤ 1000000) (h3 : bd.size ≤ 1000000) (h4 : bn.size ≤ 1000000) (h : (A : Int) + an.size < B) :
    Calls Try.prog 10 #[.agg #[.int .i64 A, .string ad, .string an], .agg #[.int .i64 B, .string bd, .string bn]] w fun e w' => e = .returned (.tuple #[.agg #[.int .i64 0, .string ⟨#[]⟩, .string ⟨#[]⟩], .bool false]) ∧ Below w.heap.size w w' := by
  have qA : (A : Int) ≤ 1048576 := by omega
  have qB : (B : Int) ≤ 1048576 := by omega
  have qA0 : (0 : Int) ≤ (A : Int) := by omega
  have qB0 : (0 : Int) ≤ (B : Int) := by omega
  have q1 : (an.size : Int) < (B : Int) - (A : Int) := by omega
  go_enter Try.func10, Try.ntmps10
  go_wp2
  refine bodyPost_ret (v := .tuple #[.agg #[.int .i64 0, .string ⟨#[]⟩, .string ⟨#[]⟩], .bool false]) (by simp [results, Try.results10, go_sem, *]) rfl ⟨rfl, ?_⟩
  exact below_three w _ _ _

set_option maxHeartbeats 1000000 in
theorem join_no2 (hA : A ≤ 1048576) (hB : B ≤ 1048576) (h1 : ad.size ≤ 1000000) (h2 : an.size ≤ 1000000) (h3 : bd.size ≤ 1000000) (h4 : bn.size ≤ 1000000) (h : (B : Int) + bd.size < A) :
    Calls Try.prog 10 #[.agg #[.int .i64 A, .string ad, .string an], .agg #[.int .i64 B, .string bd, .string bn]] w fun e w' => e = .returned (.tuple #[.agg #[.int .i64 0, .string ⟨#[]⟩, .string ⟨#[]⟩], .bool false]) ∧ Below w.heap.size w w' := by
  have qA : (A : Int) ≤ 1048576 := by omega
  have qB : (B : Int) ≤ 1048576 := by omega
  have qA0 : (0 : Int) ≤ (A : Int) := by omega
  have qB0 : (0 : Int) ≤ (B : Int) := by omega
  have q1 : ¬ (an.size : Int) < (B : Int) - (A : Int) := by omega
  have q2 : (B : Int) - (A : Int) + bd.size < 0 := by omega
  go_enter Try.func10, Try.ntmps10
  go_wp2
  refine bodyPost_ret (v := .tuple #[.agg #[.int .i64 0, .string ⟨#[]⟩, .string ⟨#[]⟩], .bool false]) (by simp [results, Try.results10, go_sem, *]) rfl ⟨rfl, ?_⟩
  exact below_three w _ _ _

set_option maxHeartbeats 1000000 in
theorem join_o1 (X Y : Int) (h : X < 0) :
    Calls Try.prog 10 #[.agg #[.int .i64 X, .string ad, .string an], .agg #[.int .i64 Y, .string bd, .string bn]] w fun e w' => e = .returned (.tuple #[.agg #[.int .i64 0, .string ⟨#[]⟩, .string ⟨#[]⟩], .bool false]) ∧ Below w.heap.size w w' := by
  go_enter Try.func10, Try.ntmps10
  go_wp2
  refine bodyPost_ret (v := .tuple #[.agg #[.int .i64 0, .string ⟨#[]⟩, .string ⟨#[]⟩], .bool false]) (by simp [results, Try.results10, go_sem, *]) rfl ⟨rfl, ?_⟩
  exact below_three w _ _ _

set_option maxHeartbeats 1000000 in
theorem join_o2 (X Y : Int) (h0 : 0 ≤ X) (h : 1048576 < X) :
    Calls Try.prog 10 #[.agg #[.int .i64 X, .string ad, .string an], .agg #[.int .i64 Y, .string bd, .string bn]] w fun e w' => e = .returned (.tuple #[.agg #[.int .i64 0, .string ⟨#[]⟩, .string ⟨#[]⟩], .bool false]) ∧ Below w.heap.size w w' := by
  have h0' : ¬ X < 0 := by omega
  go_enter Try.func10, Try.ntmps10
  go_wp2
  refine bodyPost_ret (v := .tuple #[.agg #[.int .i64 0, .string ⟨#[]⟩, .string ⟨#[]⟩], .bool false]) (by simp [results, Try.results10, go_sem, *]) rfl ⟨rfl, ?_⟩
  exact below_three w _ _ _

set_option maxHeartbeats 1000000 in
theorem join_o3 (X Y : Int) (h0 : 0 ≤ X) (h1 : X ≤ 1048576) (h : Y < 0) :
    Calls Try.prog 10 #[.agg #[.int .i64 X, .string ad, .string an], .agg #[.int .i64 Y, .string bd, .string bn]] w fun e w' => e = .returned (.tuple #[.agg #[.int .i64 0, .string ⟨#[]⟩, .string ⟨#[]⟩], .bool false]) ∧ Below w.heap.size w w' := by
  have h0' : ¬ X < 0 := by omega
  have h1' : ¬ 1048576 < X := by omega
  go_enter Try.func10, Try.ntmps10
  go_wp2
  refine bodyPost_ret (v := .tuple #[.agg #[.int .i64 0, .string ⟨#[]⟩, .string ⟨#[]⟩], .bool false]) (by simp [results, Try.results10, go_sem, *]) rfl ⟨rfl, ?_⟩
  exact below_three w _ _ _

set_option maxHeartbeats 1000000 in
theorem join_o4 (X Y : Int) (h0 : 0 ≤ X) (h1 : X ≤ 1048576) (h2 : 0 ≤ Y) (h : 1048576 < Y) :
    Calls Try.prog 10 #[.agg #[.int .i64 X, .string ad, .string an], .agg #[.int .i64 Y, .string bd, .string bn]] w fun e w' => e = .returned (.tuple #[.agg #[.int .i64 0, .string ⟨#[]⟩, .string ⟨#[]⟩], .bool false]) ∧ Below w.heap.size w w' := by
  have h0' : ¬ X < 0 := by omega
  have h1' : ¬ 1048576 < X := by omega
  have h2' : ¬ Y < 0 := by omega
  go_enter Try.func10, Try.ntmps10
  go_wp2
  refine bodyPost_ret (v := .tuple #[.agg #[.int .i64 0, .string ⟨#[]⟩, .string ⟨#[]⟩], .bool false]) (by simp [results, Try.results10, go_sem, *]) rfl ⟨rfl, ?_⟩
  exact below_three w _ _ _
end
end Go.Proofs.Ytgdamapocomhkaa

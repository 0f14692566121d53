/- What Move of layer 1 (edit) and the document's own Move return for a place of a text: one and the same place: conditions: places and texts below a million. -/
import Derived.Test.YtjickhgkhcojgaaEdG
namespace Go.Proofs.Ytjickhgkhcojgaa
open Go.RowKit
set_option linter.unusedVariables false

/-- Where a place is behind an edit. -/
def moveN (a k dl nl : Nat) (stick : Bool) : Int :=
  if k < a then k else if a + dl < k then (k : Int) + nl - dl else if stick then (a : Int) + nl else a

section
variable (a k : Nat) (d n : ByteArray) (b : Bool) (w : World)
set_option maxHeartbeats 400000 in
theorem move_1 (h : (k : Int) < a) :
    Calls Try.prog 18 #[.agg #[.int .i64 a, .string d, .string n], .int .i64 k, .bool b] w fun e w' => e = .returned (.int .i64 k) ∧ Below w.heap.size w w' := by
  go_enter Try.func18, Try.ntmps18
  go_wp2
  go_ret
  exact ⟨rfl, (Below.refl _ _).alloc (Nat.le_refl _) _⟩
set_option maxHeartbeats 400000 in
theorem move_2 (h : (a : Int) + d.size < k) (ha : a ≤ 1000000) (hk : k ≤ 1000000) (hd : d.size ≤ 1000000) (hn : n.size ≤ 1000000) :
    Calls Try.prog 18 #[.agg #[.int .i64 a, .string d, .string n], .int .i64 k, .bool b] w fun e w' => e = .returned (.int .i64 ((k : Int) + n.size - d.size)) ∧ Below w.heap.size w w' := by
  have h1 : ¬ (k : Int) < a := by omega
  go_enter Try.func18, Try.ntmps18
  go_wp2
  go_ret
  exact ⟨ret_int (by omega), (Below.refl _ _).alloc (Nat.le_refl _) _⟩
set_option maxHeartbeats 400000 in
theorem move_3 (h : (a : Int) ≤ k) (h2 : (k : Int) ≤ a + d.size) (ha : a ≤ 1000000) (hk : k ≤ 1000000) (hd : d.size ≤ 1000000) (hn : n.size ≤ 1000000) :
    Calls Try.prog 18 #[.agg #[.int .i64 a, .string d, .string n], .int .i64 k, .bool b] w fun e w' => e = .returned (.int .i64 (if b then (a : Int) + n.size else a)) ∧ Below w.heap.size w w' := by
  have h1 : ¬ (k : Int) < a := by omega
  have h3 : ¬ (a : Int) + d.size < k := by omega
  have h4 : ¬ (d.size : Int) < (k : Int) - a := by omega
  cases b
  · go_enter Try.func18, Try.ntmps18
    go_wp2
    go_ret
    exact ⟨rfl, (Below.refl _ _).alloc (Nat.le_refl _) _⟩
  · go_enter Try.func18, Try.ntmps18
    go_wp2
    go_ret
    exact ⟨rfl, (Below.refl _ _).alloc (Nat.le_refl _) _⟩
theorem move_any (m : Int) (hm : moveN a k d.size n.size b = m) (ha : a ≤ 1000000) (hk : k ≤ 1000000) (hd : d.size ≤ 1000000) (hn : n.size ≤ 1000000) :
    Calls Try.prog 18 #[.agg #[.int .i64 a, .string d, .string n], .int .i64 k, .bool b] w fun e w' => e = .returned (.int .i64 m) ∧ Below w.heap.size w w' := by
  subst hm
  unfold moveN
  by_cases h : k < a
  · rw [if_pos h]; exact move_1 a k d n b w (by omega)
  · rw [if_neg h]
    by_cases h2 : a + d.size < k
    · rw [if_pos h2]; exact move_2 a k d n b w (by omega) ha hk hd hn
    · rw [if_neg h2]; exact move_3 a k d n b w (by omega) (by omega) ha hk hd hn
end

section
variable (a k : Nat) (d n : ByteArray) (b : Bool) (w : World)
set_option maxHeartbeats 400000 in
theorem refmove_1 (h : (k : Int) < a) :
    Calls Try.prog 19 #[.agg #[.int .i64 a, .string d, .string n], .int .i64 k, .bool b] w fun e w' => e = .returned (.int .i64 k) ∧ Below w.heap.size w w' := by
  go_enter Try.func19, Try.ntmps19
  go_wp2
  go_ret
  exact ⟨rfl, (Below.refl _ _).alloc (Nat.le_refl _) _⟩
set_option maxHeartbeats 400000 in
theorem refmove_2 (h : (a : Int) + d.size < k) (ha : a ≤ 1000000) (hk : k ≤ 1000000) (hd : d.size ≤ 1000000) (hn : n.size ≤ 1000000) :
    Calls Try.prog 19 #[.agg #[.int .i64 a, .string d, .string n], .int .i64 k, .bool b] w fun e w' => e = .returned (.int .i64 ((k : Int) + n.size - d.size)) ∧ Below w.heap.size w w' := by
  have h1 : ¬ (k : Int) < a := by omega
  go_enter Try.func19, Try.ntmps19
  go_wp2
  go_ret
  exact ⟨ret_int (by omega), (Below.refl _ _).alloc (Nat.le_refl _) _⟩
set_option maxHeartbeats 400000 in
theorem refmove_3 (h : (a : Int) ≤ k) (h2 : (k : Int) ≤ a + d.size) (ha : a ≤ 1000000) (hk : k ≤ 1000000) (hd : d.size ≤ 1000000) (hn : n.size ≤ 1000000) :
    Calls Try.prog 19 #[.agg #[.int .i64 a, .string d, .string n], .int .i64 k, .bool b] w fun e w' => e = .returned (.int .i64 (if b then (a : Int) + n.size else a)) ∧ Below w.heap.size w w' := by
  have h1 : ¬ (k : Int) < a := by omega
  have h3 : ¬ (a : Int) + d.size < k := by omega
  have h4 : ¬ (d.size : Int) < (k : Int) - a := by omega
  cases b
  · go_enter Try.func19, Try.ntmps19
    go_wp2
    go_ret
    exact ⟨rfl, (Below.refl _ _).alloc (Nat.le_refl _) _⟩
  · go_enter Try.func19, Try.ntmps19
    go_wp2
    go_ret
    exact ⟨rfl, (Below.refl _ _).alloc (Nat.le_refl _) _⟩
theorem refmove_any (m : Int) (hm : moveN a k d.size n.size b = m) (ha : a ≤ 1000000) (hk : k ≤ 1000000) (hd : d.size ≤ 1000000) (hn : n.size ≤ 1000000) :
    Calls Try.prog 19 #[.agg #[.int .i64 a, .string d, .string n], .int .i64 k, .bool b] w fun e w' => e = .returned (.int .i64 m) ∧ Below w.heap.size w w' := by
  subst hm
  unfold moveN
  by_cases h : k < a
  · rw [if_pos h]; exact refmove_1 a k d n b w (by omega)
  · rw [if_neg h]
    by_cases h2 : a + d.size < k
    · rw [if_pos h2]; exact refmove_2 a k d n b w (by omega) ha hk hd hn
    · rw [if_neg h2]; exact refmove_3 a k d n b w (by omega) (by omega) ha hk hd hn
end

end Go.Proofs.Ytjickhgkhcojgaa

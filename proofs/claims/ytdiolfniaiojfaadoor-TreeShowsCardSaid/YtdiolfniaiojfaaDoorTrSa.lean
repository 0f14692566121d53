/- Numbers from the last one down, and what an iterator over a row has captured. No condition: nothing here speaks of what a function does. -/
import Derived.RangeFuncCalls
import Derived.RangeFuncNested
import Derived.RangeFuncLeaves
import Derived.Shelf.RegionOpen
import Derived.Test.YtdiolfniaiojfaaDoorWt
import Derived.Test.YtdiolfniaiojfaaDoorTrA
namespace Go.Proofs.YtdiolfniaiojfaaDoor
open Go.RowKit Go.Shelf
set_option linter.unusedVariables false
attribute [local go_sem] Oper.semAt_some

/-- The numbers below n, from the last one down. -/
def rvR (n : Nat) : List Nat := (List.range n).reverse
theorem rvR_len (n : Nat) : (rvR n).length = n := by simp [rvR]
theorem rvR_at {n k : Nat} (h : k < n) : (rvR n)[k]? = some (n - 1 - k) := by
  unfold rvR
  rw [List.getElem?_reverse (by simpa using h), List.length_range, List.getElem?_range (by omega)]
theorem rvR_split {n : Nat} {pre rest : List Nat} {x : Nat} (h : rvR n = pre ++ x :: rest) : pre.length < n ∧ x = n - 1 - pre.length := by
  have h1 : pre.length < n := by
    have := congrArg List.length h
    rw [rvR_len, List.length_append, List.length_cons] at this
    omega
  refine ⟨h1, ?_⟩
  have h2 := rvR_at h1
  rw [h, List.getElem?_append_right (Nat.le_refl _), Nat.sub_self] at h2
  simpa using h2
theorem rvR_cut {n k : Nat} (h : k < n) : rvR n = (rvR n).take k ++ (n - 1 - k) :: (rvR n).drop (k + 1) := by
  have h1 := rvR_at h
  have h2 : k < (rvR n).length := by rw [rvR_len]; exact h
  rw [List.getElem?_eq_getElem h2] at h1
  have h3 : (rvR n).drop k = (n - 1 - k) :: (rvR n).drop (k + 1) := by
    rw [List.drop_eq_getElem_cons h2]
    congr 1
    exact Option.some.inj h1
  rw [← h3, List.take_append_drop]
theorem rvR_snoc {n k : Nat} (h : k < n) : (rvR n).take (k + 1) = (rvR n).take k ++ [n - 1 - k] := by
  rw [List.take_add_one, rvR_at h]
  rfl
/-- The blocks that an iterator over a row has captured: its box, and the row's. -/
def CapN (Bx : Nat) (ao : Option Addr) (n b : Nat) : Prop := b = Bx ∨ (0 < n ∧ ∃ off, ao = some ⟨b, off, none⟩)
def BnRl (n : Nat) (Bx : Nat) (ao : Option Addr) (J : List Nat → (Nat → Prop) → World → Prop) (W : World) (v3 : Value) (wr : World) : Prop :=
  ∃ k : Nat, k ≤ n ∧ v3 = .int .i64 ((n : Int) - 1 - (k : Int)) ∧ J ((rvR n).take k) (fun _ => False) wr ∧ W.heap.size ≤ wr.heap.size ∧ ∀ b, b < W.heap.size → CapN Bx ao n b → wr.heap[b]? = W.heap[b]?
end Go.Proofs.YtdiolfniaiojfaaDoor

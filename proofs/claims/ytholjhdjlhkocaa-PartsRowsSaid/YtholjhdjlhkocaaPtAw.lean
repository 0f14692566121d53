/- What the statements' own awake of layer 7 returns. -/
import Derived.Test.YtholjhdjlhkocaaPtK
namespace Go.Proofs.Ytholjhdjlhkocaa
open Go.RowKit
set_option linter.unusedVariables false

section
variable (w : World)
set_option maxHeartbeats 4000000 in
theorem awake_any : Calls Try.prog 11 #[] w fun e w' => e = .returned (.bool true) ∧ Below w.heap.size w w' := by
  go_enter Try.func11, Try.ntmps11
  go_wp2_with fail
  refine (of_parts_any w ⟨#[97, 39, 98, 39, 36, 120]⟩ (by decide)).mono ?_
  rintro e w1 ⟨⟨v, rfl, hP⟩, hB⟩
  rw [eg_parts] at hP
  obtain ⟨oa, n, oc, rfl, hR⟩ := hP.read
  obtain rfl : n = 2 := hR.len
  obtain ⟨ob, rfl, _, h0⟩ := hR.cells 0 _ rfl
  obtain ⟨ob', he, _, h1⟩ := hR.cells 1 _ rfl
  cases he
  have a0 := h0 0 _ rfl
  have a1 := h0 1 _ rfl
  have a2 := h0 2 _ rfl
  have a3 := h0 3 _ rfl
  have a4 := h0 4 _ rfl
  have b0 := h1 0 _ rfl
  have b1 := h1 1 _ rfl
  have b2 := h1 2 _ rfl
  have b3 := h1 3 _ rfl
  have b4 := h1 4 _ rfl
  simp only [Nat.zero_mul, Nat.zero_add, Nat.one_mul] at a0 a1 a2 a3 a4 b0 b1 b2 b3 b4
  have hq1 := eql_part 4 1 4 (-1) false
  have hq2 := eql_part 12 4 6 (-1) false
  clear hP hR h0 h1
  go_wp2
  go_ret
  exact ⟨rfl, hB⟩

end
end Go.Proofs.Ytholjhdjlhkocaa

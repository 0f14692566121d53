/- What the statements' own awake of layer 8 returns. No condition. -/
import Derived.Test.YtiklnlkakhghdaaLtI
import Derived.Test.YtiklnlkakhghdaaLtK
namespace Go.Proofs.Ytiklnlkakhghdaa
open Go.RowKit
set_option linter.unusedVariables false

theorem eg_val : PCs ⟨#[97, 39, 98, 32, 99, 39, 34, 100, 92, 34, 101, 34, 92, 102]⟩ = [⟨false, false, ⟨#[97]⟩⟩, ⟨false, true, ⟨#[98, 32, 99]⟩⟩, ⟨false, true, ⟨#[100, 34, 101]⟩⟩, ⟨false, true, ⟨#[102]⟩⟩] := by kernel_rfl

section
variable (w : World)
set_option maxHeartbeats 1000000 in
theorem awake8_any : Calls Try.prog 6 #[] w fun e w' => e = .returned (.bool true) ∧ Below w.heap.size w w' := by
  have hv := value_any w ⟨#[97, 39, 98, 32, 99, 39, 34, 100, 92, 34, 101, 34, 92, 102]⟩ (by decide)
  have HV := Lib.hid hv
  clear hv
  go_enter Try.func6, Try.ntmps6
  go_wp2_with fail
  refine (HV.out).mono ?_
  rintro e w1 ⟨hr, hB⟩
  unfold MeR at hr
  rw [eg_val] at hr
  have hr2 : e = .returned (.tuple #[.string ⟨#[97, 98, 32, 99, 100, 34, 101, 102]⟩, .bool true]) := hr
  subst hr2
  clear hr
  go_wp2
  go_ret
  exact ⟨rfl, hB⟩
end
end Go.Proofs.Ytiklnlkakhghdaa

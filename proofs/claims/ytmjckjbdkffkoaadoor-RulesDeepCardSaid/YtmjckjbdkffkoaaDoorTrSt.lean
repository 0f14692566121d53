/- What stands of layer 11 (tree) returns. No condition. -/
import Derived.Test.YtmjckjbdkffkoaaDoorTrA
namespace Go.Proofs.YtmjckjbdkffkoaaDoor
open Go.RowKit
set_option linter.unusedVariables false

section
variable (w : World)
theorem stands_any (ao : Option Addr) (len cap : Nat) (i : Int) (b : Bool) (hb : decide (0 ≤ i ∧ i < (len : Int)) = b) :
    Calls Tryd.prog 68 #[.slice ao len cap, .int .i64 i] w fun e w' => e = .returned (.bool b) ∧ w' = w := by
  have HB := Lib.hid hb
  clear hb
  go_enter Tryd.func68, Tryd.ntmps68
  go_wp2
  all_goals
    go_ret
    refine ⟨ret_bool ?_, rfl⟩
    rw [← HB.out, Bool.eq_iff_iff]
    simp
    try omega
end
end Go.Proofs.YtmjckjbdkffkoaaDoor

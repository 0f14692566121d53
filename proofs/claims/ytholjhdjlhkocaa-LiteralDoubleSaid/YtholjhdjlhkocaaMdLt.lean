/- The letters of the modes of layer 6, as the program and the document write them. No condition: nothing here speaks of the program. -/
import Derived.Test.YtholjhdjlhkocaaMdP
namespace Go.Proofs.Ytholjhdjlhkocaa
open Go.RowKit
set_option linter.unusedVariables false

/-- The modes' letters by their numbers. -/
def lettersB : ByteArray := ⟨#[84, 67, 80, 79, 83, 68, 66, 86, 73, 65, 82, 69, 76, 88, 35]⟩
end Go.Proofs.Ytholjhdjlhkocaa

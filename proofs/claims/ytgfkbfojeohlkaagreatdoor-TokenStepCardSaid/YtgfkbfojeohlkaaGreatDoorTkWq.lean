/- Lexings that are read, held against each other. No condition. -/
import Derived.Test.YtgfkbfojeohlkaaGreatDoorQn
import Derived.Test.YtgfkbfojeohlkaaGreatDoorTkV
namespace Go.Proofs.YtgfkbfojeohlkaaGreatDoor
open Go.RowKit
set_option linter.unusedVariables false

theorem sameX_refl (A : Int) (p : List Dl) (b : Bool) : sameX A A p p b b = true := by
  unfold sameX
  rw [sameD_refl]
  simp
theorem LxR.rdd {W : World} {oa : Option Addr} {n c : Nat} {x : Lx} (h : LxR W (.slice oa n c) x) : RdD W oa n x.pend := by
  have hn := h.len
  have := h.src
  exact RdD.of_src this hn
end Go.Proofs.YtgfkbfojeohlkaaGreatDoor

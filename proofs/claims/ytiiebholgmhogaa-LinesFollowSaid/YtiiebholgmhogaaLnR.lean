/- What Apply of layer 3 (lines) returns, and what it leaves in memory: behind an edit that goes, the index of the text behind it; where its place, or its end, is outside, ErrRange, and all is as it was. Condition: texts of at most a hundred thousand bytes; the index at hand lies in memory as such. -/
import Derived.Test.YtiiebholgmhogaaLnQ
import Derived.Test.YtiiebholgmhogaaLnS
namespace Go.Proofs.Ytiiebholgmhogaa
open Go.RowKit Go.Shelf
set_option linter.unusedVariables false

section
variable (s d n : ByteArray) (xb : Nat) (sv : Value) (w : World)
set_option maxRecDepth 100000 in
set_option maxHeartbeats 2000000 in
theorem apply_bad (a : Int) (hs : s.size ≤ 100000) (hd : d.size ≤ 100000) (hI : Ix w xb sv s) (hbad : a < 0 ∨ (s.size : Int) < a ∨ (0 ≤ a ∧ a ≤ s.size ∧ (s.size : Int) - a < d.size)) :
    Calls Try.prog 17 #[.pointer (some ⟨xb, 0, none⟩), .agg #[.int .i64 a, .string d, .string n]] w fun e w' => e = .returned (.int .i64 1) ∧ Below w.heap.size w w' := by
  have c1 : w.cell? ⟨xb, 1, none⟩ = some (.int .i64 (s.size : Int)) := hI.obj.cell 1
  have hl := hI.lt
  rcases hbad with h | h | ⟨h, h2, h3⟩
  · have hd1 : decide (a < 0) = true := by simpa using h
    go_enter Try.func17, Try.ntmps17
    go_wp2
    go_quiet (fail)
    go_wp2
    go_ret
    exact ⟨rfl, below_drewN ((Below.refl _ _).alloc (Nat.le_refl _) _) _⟩
  · have hd1 : decide (a < 0) = false := by simp; omega
    have hd2 : decide ((s.size : Int) < a) = true := by simpa using h
    go_enter Try.func17, Try.ntmps17
    go_wp2
    go_quiet (fail)
    go_wp2
    go_ret
    exact ⟨rfl, below_drewN ((Below.refl _ _).alloc (Nat.le_refl _) _) _⟩
  · have hd1 : decide (a < 0) = false := by simp; omega
    have hd2 : decide ((s.size : Int) < a) = false := by simp; omega
    have hw1 : IntKind.i64.wrap ((s.size : Int) - a) = (s.size : Int) - a := IntWalk.i64_in _ (by omega)
    have hd3 : decide ((s.size : Int) - a < d.size) = true := by simpa using h3
    go_enter Try.func17, Try.ntmps17
    go_wp2
    go_quiet (fail)
    go_wp2
    go_ret
    exact ⟨rfl, below_drewN ((Below.refl _ _).alloc (Nat.le_refl _) _) _⟩
end
end Go.Proofs.Ytiiebholgmhogaa

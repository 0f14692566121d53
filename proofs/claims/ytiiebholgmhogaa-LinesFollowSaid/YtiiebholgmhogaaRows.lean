/-
  No cell of these rows narrows 'for every input' (looked for: loops, veiled, ifaces, maps, wideKeys, modest, calm, conditions, laid).
  DERIVED. THE GIVEN ROWS OF THIS SEAT. 3 by the template 'for every input the law returns true; each argument reads behind the call as it read before'; 0 by the template 'total and deterministic' (their statements: YtiiebholgmhogaaTotals.lean).
  GIVEN WITH THE SEED: the statements are not yours to turn. If you find one false, say at which input.
  Laid BY PROGRAM, IN A SANDBOX (cutbox-rows.mjs): the forced cells as the released guide's own fill.sh prints them over the translation afcb6c53b9edb192… (all of the seat's roots in one cut). By AI agents, Wed Nov 11 2026. No macro, syntax, notation, axiom, sorry.
-/
import Derived.Test.YtiiebholgmhogaaChecked
import GoSem.Claim
import GoSem.ClaimJoined
import GoSem.ClaimMapViews
import Derived.JoinedTies
import Derived.KernelRfl
namespace Go.Proofs.Ytiiebholgmhogaa
/- THE CELL 'sum', in the pinned program and in every row, IS THE sha256 OF THE DUMP (.gsa) THAT YtiiebholgmhogaaProg.lean LOADS. Nothing in Lean hashes anything: it is a label: what it is worth is what the hold of that sum in a sandbox is worth. -/
noncomputable def Try.pinned : Pinned := { name := "ytiiebholgmhogaa", sum := "afcb6c53b9edb192b65a88e65ba47d07059ce2928a02ec30aa472ed093cb5da6", checked := Try.checked }
namespace Rows
def none {H : Type} : Left H := { results := [], args := [] }

/-- 'quillwortlaw03.LinesTell': WHATEVER THE INPUT: true; the input reads as it did. -/
def linesTellSpec : ChangeSpec := { name := "linesTell", fn := fun _ => fun
  | [d1, d2, d3, d4] => { results := [.lit (.bool true)], args := [d1, d2, d3, d4] }
  | _ => none }
def linesTellRow : OpenClaim := { program := "ytiiebholgmhogaa", sum := "afcb6c53b9edb192b65a88e65ba47d07059ce2928a02ec30aa472ed093cb5da6", func := "quillwort/quillwortlaw03.LinesTell", spec := "linesTell", unfollowed := true, recurses := true, apart := false }
def LinesTellSaid : Prop := linesTellRow.holds Try.pinned (OpenSpec.ofChange linesTellSpec)

/-- ITS FALSE NEIGHBOUR: 'it returns false'. Refute it at one input. -/
def linesTellWrong : ChangeSpec := { name := "linesTell", fn := fun _ => fun
  | [d1, d2, d3, d4] => { results := [.lit (.bool false)], args := [d1, d2, d3, d4] }
  | _ => none }
def LinesTellWrongFalsely : Prop := linesTellRow.holds Try.pinned (OpenSpec.ofChange linesTellWrong)

/-- 'quillwortlaw03.LinesNear': WHATEVER THE INPUT: true; the input reads as it did. -/
def linesNearSpec : ChangeSpec := { name := "linesNear", fn := fun _ => fun
  | [d1, d2, d3] => { results := [.lit (.bool true)], args := [d1, d2, d3] }
  | _ => none }
def linesNearRow : OpenClaim := { program := "ytiiebholgmhogaa", sum := "afcb6c53b9edb192b65a88e65ba47d07059ce2928a02ec30aa472ed093cb5da6", func := "quillwort/quillwortlaw03.LinesNear", spec := "linesNear", unfollowed := true, recurses := true, apart := false }
def LinesNearSaid : Prop := linesNearRow.holds Try.pinned (OpenSpec.ofChange linesNearSpec)

/-- ITS FALSE NEIGHBOUR: 'it returns false'. Refute it at one input. -/
def linesNearWrong : ChangeSpec := { name := "linesNear", fn := fun _ => fun
  | [d1, d2, d3] => { results := [.lit (.bool false)], args := [d1, d2, d3] }
  | _ => none }
def LinesNearWrongFalsely : Prop := linesNearRow.holds Try.pinned (OpenSpec.ofChange linesNearWrong)

/-- 'quillwortlaw03.LinesFollow': WHATEVER THE INPUT: true; the input reads as it did. -/
def linesFollowSpec : ChangeSpec := { name := "linesFollow", fn := fun _ => fun
  | [d1, d2] => { results := [.lit (.bool true)], args := [d1, d2] }
  | _ => none }
def linesFollowRow : OpenClaim := { program := "ytiiebholgmhogaa", sum := "afcb6c53b9edb192b65a88e65ba47d07059ce2928a02ec30aa472ed093cb5da6", func := "quillwort/quillwortlaw03.LinesFollow", spec := "linesFollow", inPlace := ["internal/bytealg.CountString", "internal/bytealg.IndexByteString", "internal/bytealg.IndexString", "slices.overlaps[int]"], unfollowed := true, recurses := true, named := ["internal/bytealg.MaxLen"], apart := false }
def LinesFollowSaid : Prop := linesFollowRow.holds Try.pinned (OpenSpec.ofChange linesFollowSpec)

/-- ITS FALSE NEIGHBOUR: 'it returns false'. Refute it at one input. -/
def linesFollowWrong : ChangeSpec := { name := "linesFollow", fn := fun _ => fun
  | [d1, d2] => { results := [.lit (.bool false)], args := [d1, d2] }
  | _ => none }
def LinesFollowWrongFalsely : Prop := linesFollowRow.holds Try.pinned (OpenSpec.ofChange linesFollowWrong)

/- THE SECOND FORM. 'bulk': how many values and letters a reading holds, each counted each time it is reached (what is shared counts as often as it is met; a slice's spare places count too). A statement '..UptoSaid' is the law's where the arguments, and the package variables that the reading takes, are together of bulk at most 1048576: NARROWER than '..Said'. Prove '..Said' where nothing that the law and all that it calls make is longer than what came in: it says more and counts as full. Else prove '..UptoSaid'. A law counts once. -/
mutual
def uptoBulk {H : Type} : DataW H → Nat
  | .lit (.string bytes) => bytes.length + 1
  | .lit _ => 1
  | .nil => 1
  | .ptr d => uptoBulk d + 1
  | .slice elems spare => uptoBulkAll elems + uptoBulkAll spare + 1
  | .agg parts => uptoBulkAll parts + 1
  | .iface _ d => uptoBulk d + 1
  | .map entries => uptoBulkEntries entries + 1
  | .held _ => 1
def uptoBulkAll {H : Type} : List (DataW H) → Nat
  | [] => 0
  | d :: r => uptoBulk d + uptoBulkAll r
def uptoBulkEntries {H : Type} : List (Lit × DataW H) → Nat
  | [] => 0
  | x :: r => uptoBulkEntry x + uptoBulkEntries r
def uptoBulkEntry {H : Type} : Lit × DataW H → Nat
  | (.string bytes, d) => bytes.length + uptoBulk d + 1
  | (_, d) => uptoBulk d + 1
 end
def uptoSmall : (H : Type) → List (DataW H) → Bool := fun _ ds => decide (uptoBulkAll ds ≤ 1048576)
def OpenSpec.upto (s : _root_.Go.ChangeSpec) : _root_.Go.OpenSpec := { _root_.Go.OpenSpec.ofChange s with cond := some uptoSmall }

/-- 'quillwortlaw03.LinesTell', WHERE WHAT IT READS IS OF BULK AT MOST 1048576: true; the input reads as it did. -/
def linesTellUptoRow : OpenClaim := { program := "ytiiebholgmhogaa", sum := "afcb6c53b9edb192b65a88e65ba47d07059ce2928a02ec30aa472ed093cb5da6", func := "quillwort/quillwortlaw03.LinesTell", spec := "linesTell", unfollowed := true, recurses := true, apart := false, narrowed := true }
def LinesTellUptoSaid : Prop := linesTellUptoRow.holds Try.pinned (OpenSpec.upto linesTellSpec)

/-- 'quillwortlaw03.LinesNear', WHERE WHAT IT READS IS OF BULK AT MOST 1048576: true; the input reads as it did. -/
def linesNearUptoRow : OpenClaim := { program := "ytiiebholgmhogaa", sum := "afcb6c53b9edb192b65a88e65ba47d07059ce2928a02ec30aa472ed093cb5da6", func := "quillwort/quillwortlaw03.LinesNear", spec := "linesNear", unfollowed := true, recurses := true, apart := false, narrowed := true }
def LinesNearUptoSaid : Prop := linesNearUptoRow.holds Try.pinned (OpenSpec.upto linesNearSpec)

/-- 'quillwortlaw03.LinesFollow', WHERE WHAT IT READS IS OF BULK AT MOST 1048576: true; the input reads as it did. -/
def linesFollowUptoRow : OpenClaim := { program := "ytiiebholgmhogaa", sum := "afcb6c53b9edb192b65a88e65ba47d07059ce2928a02ec30aa472ed093cb5da6", func := "quillwort/quillwortlaw03.LinesFollow", spec := "linesFollow", inPlace := ["internal/bytealg.CountString", "internal/bytealg.IndexByteString", "internal/bytealg.IndexString", "slices.overlaps[int]"], unfollowed := true, recurses := true, named := ["internal/bytealg.MaxLen"], apart := false, narrowed := true }
def LinesFollowUptoSaid : Prop := linesFollowUptoRow.holds Try.pinned (OpenSpec.upto linesFollowSpec)

end Rows
end Go.Proofs.Ytiiebholgmhogaa

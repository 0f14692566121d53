/-
  No cell of these rows narrows 'for every input' (looked for: loops, veiled, ifaces, maps, wideKeys, modest, calm, conditions, laid).
  DERIVED. THE GIVEN ROWS OF THIS SEAT. 6 by the template 'for every input the law returns true; each argument reads behind the call as it read before'; 0 by the template 'total and deterministic' (their statements: YtnpkmbppfeahkaaTotals.lean).
  GIVEN WITH THE SEED: the statements are not yours to turn. If you find one false, say at which input.
  Laid BY PROGRAM, IN A SANDBOX (cutbox-rows.mjs): the forced cells as the released guide's own fill.sh prints them over the translation 44f612516470e69d… (all of the seat's roots in one cut). By AI agents, Wed Nov 11 2026. No macro, syntax, notation, axiom, sorry.
-/
import Derived.Test.YtnpkmbppfeahkaaChecked
import GoSem.Claim
import GoSem.ClaimJoined
import GoSem.ClaimMapViews
import Derived.JoinedTies
import Derived.KernelRfl
namespace Go.Proofs.Ytnpkmbppfeahkaa
/- THE CELL 'sum', in the pinned program and in every row, IS THE sha256 OF THE DUMP (.gsa) THAT YtnpkmbppfeahkaaProg.lean LOADS. Nothing in Lean hashes anything: it is a label: what it is worth is what the hold of that sum in a sandbox is worth. -/
noncomputable def Try.pinned : Pinned := { name := "ytnpkmbppfeahkaa", sum := "44f612516470e69d8adf1c914850292db72193f0313de6370f969604d103abb2", checked := Try.checked }
namespace Rows
def none {H : Type} : Left H := { results := [], args := [] }

/-- 'quillwortlaw04.ClassBytes': WHATEVER THE INPUT: true; the input reads as it did. -/
def classBytesSpec : ChangeSpec := { name := "classBytes", fn := fun _ => fun
  | [d] => { results := [.lit (.bool true)], args := [d] }
  | _ => none }
def classBytesRow : OpenClaim := { program := "ytnpkmbppfeahkaa", sum := "44f612516470e69d8adf1c914850292db72193f0313de6370f969604d103abb2", func := "quillwort/quillwortlaw04.ClassBytes", spec := "classBytes", inPlace := ["internal/bytealg.IndexByteString"], unfollowed := true, recurses := true, apart := false }
def ClassBytesSaid : Prop := classBytesRow.holds Try.pinned (OpenSpec.ofChange classBytesSpec)

/-- ITS FALSE NEIGHBOUR: 'it returns false'. Refute it at one input. -/
def classBytesWrong : ChangeSpec := { name := "classBytes", fn := fun _ => fun
  | [d] => { results := [.lit (.bool false)], args := [d] }
  | _ => none }
def ClassBytesWrongFalsely : Prop := classBytesRow.holds Try.pinned (OpenSpec.ofChange classBytesWrong)

/-- 'quillwortlaw04.ClassMeasures': WHATEVER THE INPUT: true; the input reads as it did. -/
def classMeasuresSpec : ChangeSpec := { name := "classMeasures", fn := fun _ => fun
  | [d1, d2] => { results := [.lit (.bool true)], args := [d1, d2] }
  | _ => none }
def classMeasuresRow : OpenClaim := { program := "ytnpkmbppfeahkaa", sum := "44f612516470e69d8adf1c914850292db72193f0313de6370f969604d103abb2", func := "quillwort/quillwortlaw04.ClassMeasures", spec := "classMeasures", inPlace := ["internal/bytealg.IndexByteString"], unfollowed := true, recurses := true, apart := false }
def ClassMeasuresSaid : Prop := classMeasuresRow.holds Try.pinned (OpenSpec.ofChange classMeasuresSpec)

/-- ITS FALSE NEIGHBOUR: 'it returns false'. Refute it at one input. -/
def classMeasuresWrong : ChangeSpec := { name := "classMeasures", fn := fun _ => fun
  | [d1, d2] => { results := [.lit (.bool false)], args := [d1, d2] }
  | _ => none }
def ClassMeasuresWrongFalsely : Prop := classMeasuresRow.holds Try.pinned (OpenSpec.ofChange classMeasuresWrong)

/-- 'quillwortlaw04.ClassNames': WHATEVER THE INPUT: true; the input reads as it did. -/
def classNamesSpec : ChangeSpec := { name := "classNames", fn := fun _ => fun
  | [d] => { results := [.lit (.bool true)], args := [d] }
  | _ => none }
def classNamesRow : OpenClaim := { program := "ytnpkmbppfeahkaa", sum := "44f612516470e69d8adf1c914850292db72193f0313de6370f969604d103abb2", func := "quillwort/quillwortlaw04.ClassNames", spec := "classNames", inPlace := ["internal/bytealg.IndexByteString"], unfollowed := true, recurses := true, apart := false }
def ClassNamesSaid : Prop := classNamesRow.holds Try.pinned (OpenSpec.ofChange classNamesSpec)

/-- ITS FALSE NEIGHBOUR: 'it returns false'. Refute it at one input. -/
def classNamesWrong : ChangeSpec := { name := "classNames", fn := fun _ => fun
  | [d] => { results := [.lit (.bool false)], args := [d] }
  | _ => none }
def ClassNamesWrongFalsely : Prop := classNamesRow.holds Try.pinned (OpenSpec.ofChange classNamesWrong)

/-- 'quillwortlaw04.ClassReserved': WHATEVER THE INPUT: true; the input reads as it did. -/
def classReservedSpec : ChangeSpec := { name := "classReserved", fn := fun _ => fun
  | [d] => { results := [.lit (.bool true)], args := [d] }
  | _ => none }
def classReservedRow : OpenClaim := { program := "ytnpkmbppfeahkaa", sum := "44f612516470e69d8adf1c914850292db72193f0313de6370f969604d103abb2", func := "quillwort/quillwortlaw04.ClassReserved", spec := "classReserved", inPlace := ["internal/bytealg.IndexByteString"], unfollowed := true, recurses := true, apart := false }
def ClassReservedSaid : Prop := classReservedRow.holds Try.pinned (OpenSpec.ofChange classReservedSpec)

/-- ITS FALSE NEIGHBOUR: 'it returns false'. Refute it at one input. -/
def classReservedWrong : ChangeSpec := { name := "classReserved", fn := fun _ => fun
  | [d] => { results := [.lit (.bool false)], args := [d] }
  | _ => none }
def ClassReservedWrongFalsely : Prop := classReservedRow.holds Try.pinned (OpenSpec.ofChange classReservedWrong)

/-- 'quillwortlaw04.ClassRuns': WHATEVER THE INPUT: true; the input reads as it did. -/
def classRunsSpec : ChangeSpec := { name := "classRuns", fn := fun _ => fun
  | [d] => { results := [.lit (.bool true)], args := [d] }
  | _ => none }
def classRunsRow : OpenClaim := { program := "ytnpkmbppfeahkaa", sum := "44f612516470e69d8adf1c914850292db72193f0313de6370f969604d103abb2", func := "quillwort/quillwortlaw04.ClassRuns", spec := "classRuns", inPlace := ["internal/bytealg.IndexByteString"], unfollowed := true, recurses := true, apart := false }
def ClassRunsSaid : Prop := classRunsRow.holds Try.pinned (OpenSpec.ofChange classRunsSpec)

/-- ITS FALSE NEIGHBOUR: 'it returns false'. Refute it at one input. -/
def classRunsWrong : ChangeSpec := { name := "classRuns", fn := fun _ => fun
  | [d] => { results := [.lit (.bool false)], args := [d] }
  | _ => none }
def ClassRunsWrongFalsely : Prop := classRunsRow.holds Try.pinned (OpenSpec.ofChange classRunsWrong)

/-- 'quillwortlaw04.ClassWhole': WHATEVER THE INPUT: true; the input reads as it did. -/
def classWholeSpec : ChangeSpec := { name := "classWhole", fn := fun _ => fun
  | [d1, d2] => { results := [.lit (.bool true)], args := [d1, d2] }
  | _ => none }
def classWholeRow : OpenClaim := { program := "ytnpkmbppfeahkaa", sum := "44f612516470e69d8adf1c914850292db72193f0313de6370f969604d103abb2", func := "quillwort/quillwortlaw04.ClassWhole", spec := "classWhole", inPlace := ["internal/bytealg.IndexByteString"], unfollowed := true, recurses := true, apart := false }
def ClassWholeSaid : Prop := classWholeRow.holds Try.pinned (OpenSpec.ofChange classWholeSpec)

/-- ITS FALSE NEIGHBOUR: 'it returns false'. Refute it at one input. -/
def classWholeWrong : ChangeSpec := { name := "classWhole", fn := fun _ => fun
  | [d1, d2] => { results := [.lit (.bool false)], args := [d1, d2] }
  | _ => none }
def ClassWholeWrongFalsely : Prop := classWholeRow.holds Try.pinned (OpenSpec.ofChange classWholeWrong)

/- THE SECOND FORM. 'bulk': how many values and letters a reading holds, each counted each time it is reached (what is shared counts as often as it is met; a slice's spare places count too). A statement '..UptoSaid' is the law's where the arguments, and the package variables that the reading takes, are together of bulk at most 1048576: NARROWER than '..Said'. Prove '..Said' where nothing that the law and all that it calls make is longer than what came in: it says more and counts as full. Else prove '..UptoSaid'. A law counts once. -/
mutual
def uptoBulk {H : Type} : DataW H → Nat
  | .lit (.string bytes) => bytes.length + 1
  | .lit _ => 1
  | .nil => 1
  | .ptr d => uptoBulk d + 1
  | .slice elems spare => uptoBulkAll elems + uptoBulkAll spare + 1
  | .agg parts => uptoBulkAll parts + 1
  | .iface _ d => uptoBulk d + 1
  | .map entries => uptoBulkEntries entries + 1
  | .held _ => 1
def uptoBulkAll {H : Type} : List (DataW H) → Nat
  | [] => 0
  | d :: r => uptoBulk d + uptoBulkAll r
def uptoBulkEntries {H : Type} : List (Lit × DataW H) → Nat
  | [] => 0
  | x :: r => uptoBulkEntry x + uptoBulkEntries r
def uptoBulkEntry {H : Type} : Lit × DataW H → Nat
  | (.string bytes, d) => bytes.length + uptoBulk d + 1
  | (_, d) => uptoBulk d + 1
 end
def uptoSmall : (H : Type) → List (DataW H) → Bool := fun _ ds => decide (uptoBulkAll ds ≤ 1048576)
def OpenSpec.upto (s : _root_.Go.ChangeSpec) : _root_.Go.OpenSpec := { _root_.Go.OpenSpec.ofChange s with cond := some uptoSmall }

/-- 'quillwortlaw04.ClassBytes', WHERE WHAT IT READS IS OF BULK AT MOST 1048576: true; the input reads as it did. -/
def classBytesUptoRow : OpenClaim := { program := "ytnpkmbppfeahkaa", sum := "44f612516470e69d8adf1c914850292db72193f0313de6370f969604d103abb2", func := "quillwort/quillwortlaw04.ClassBytes", spec := "classBytes", inPlace := ["internal/bytealg.IndexByteString"], unfollowed := true, recurses := true, apart := false, narrowed := true }
def ClassBytesUptoSaid : Prop := classBytesUptoRow.holds Try.pinned (OpenSpec.upto classBytesSpec)

/-- 'quillwortlaw04.ClassMeasures', WHERE WHAT IT READS IS OF BULK AT MOST 1048576: true; the input reads as it did. -/
def classMeasuresUptoRow : OpenClaim := { program := "ytnpkmbppfeahkaa", sum := "44f612516470e69d8adf1c914850292db72193f0313de6370f969604d103abb2", func := "quillwort/quillwortlaw04.ClassMeasures", spec := "classMeasures", inPlace := ["internal/bytealg.IndexByteString"], unfollowed := true, recurses := true, apart := false, narrowed := true }
def ClassMeasuresUptoSaid : Prop := classMeasuresUptoRow.holds Try.pinned (OpenSpec.upto classMeasuresSpec)

/-- 'quillwortlaw04.ClassNames', WHERE WHAT IT READS IS OF BULK AT MOST 1048576: true; the input reads as it did. -/
def classNamesUptoRow : OpenClaim := { program := "ytnpkmbppfeahkaa", sum := "44f612516470e69d8adf1c914850292db72193f0313de6370f969604d103abb2", func := "quillwort/quillwortlaw04.ClassNames", spec := "classNames", inPlace := ["internal/bytealg.IndexByteString"], unfollowed := true, recurses := true, apart := false, narrowed := true }
def ClassNamesUptoSaid : Prop := classNamesUptoRow.holds Try.pinned (OpenSpec.upto classNamesSpec)

/-- 'quillwortlaw04.ClassReserved', WHERE WHAT IT READS IS OF BULK AT MOST 1048576: true; the input reads as it did. -/
def classReservedUptoRow : OpenClaim := { program := "ytnpkmbppfeahkaa", sum := "44f612516470e69d8adf1c914850292db72193f0313de6370f969604d103abb2", func := "quillwort/quillwortlaw04.ClassReserved", spec := "classReserved", inPlace := ["internal/bytealg.IndexByteString"], unfollowed := true, recurses := true, apart := false, narrowed := true }
def ClassReservedUptoSaid : Prop := classReservedUptoRow.holds Try.pinned (OpenSpec.upto classReservedSpec)

/-- 'quillwortlaw04.ClassRuns', WHERE WHAT IT READS IS OF BULK AT MOST 1048576: true; the input reads as it did. -/
def classRunsUptoRow : OpenClaim := { program := "ytnpkmbppfeahkaa", sum := "44f612516470e69d8adf1c914850292db72193f0313de6370f969604d103abb2", func := "quillwort/quillwortlaw04.ClassRuns", spec := "classRuns", inPlace := ["internal/bytealg.IndexByteString"], unfollowed := true, recurses := true, apart := false, narrowed := true }
def ClassRunsUptoSaid : Prop := classRunsUptoRow.holds Try.pinned (OpenSpec.upto classRunsSpec)

/-- 'quillwortlaw04.ClassWhole', WHERE WHAT IT READS IS OF BULK AT MOST 1048576: true; the input reads as it did. -/
def classWholeUptoRow : OpenClaim := { program := "ytnpkmbppfeahkaa", sum := "44f612516470e69d8adf1c914850292db72193f0313de6370f969604d103abb2", func := "quillwort/quillwortlaw04.ClassWhole", spec := "classWhole", inPlace := ["internal/bytealg.IndexByteString"], unfollowed := true, recurses := true, apart := false, narrowed := true }
def ClassWholeUptoSaid : Prop := classWholeUptoRow.holds Try.pinned (OpenSpec.upto classWholeSpec)

end Rows
end Go.Proofs.Ytnpkmbppfeahkaa

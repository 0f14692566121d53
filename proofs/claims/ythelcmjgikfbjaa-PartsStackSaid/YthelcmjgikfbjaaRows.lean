/-
  No cell of these rows narrows 'for every input' (looked for: loops, veiled, ifaces, maps, wideKeys, modest, calm, conditions, laid).
  DERIVED. THE GIVEN ROWS OF THIS SEAT. 7 by the template 'for every input the law returns true; each argument reads behind the call as it read before'; 0 by the template 'total and deterministic' (their statements: YthelcmjgikfbjaaTotals.lean).
  GIVEN WITH THE SEED: the statements are not yours to turn. If you find one false, say at which input.
  Laid BY PROGRAM, IN A SANDBOX (cutbox-rows.mjs): the forced cells as the released guide's own fill.sh prints them over the translation 8a4eb1a1224a5b67… (all of the seat's roots in one cut). By AI agents, Wed Nov 11 2026. No macro, syntax, notation, axiom, sorry.
-/
import Derived.Test.YthelcmjgikfbjaaChecked
import GoSem.Claim
import GoSem.ClaimJoined
import GoSem.ClaimMapViews
import Derived.JoinedTies
import Derived.KernelRfl
namespace Go.Proofs.Ythelcmjgikfbjaa
/- THE CELL 'sum', in the pinned program and in every row, IS THE sha256 OF THE DUMP (.gsa) THAT YthelcmjgikfbjaaProg.lean LOADS. Nothing in Lean hashes anything: it is a label: what it is worth is what the hold of that sum in a sandbox is worth. -/
noncomputable def Try.pinned : Pinned := { name := "ythelcmjgikfbjaa", sum := "8a4eb1a1224a5b67509958b654bb57c28d5eaf04a00f0d0096f5aa4e8130892f", checked := Try.checked }
namespace Rows
def none {H : Type} : Left H := { results := [], args := [] }

/-- 'quillwortlaw07.PartsOf': WHATEVER THE INPUT: true; the input reads as it did. -/
def partsOfSpec : ChangeSpec := { name := "partsOf", fn := fun _ => fun
  | [d] => { results := [.lit (.bool true)], args := [d] }
  | _ => none }
def partsOfRow : OpenClaim := { program := "ythelcmjgikfbjaa", sum := "8a4eb1a1224a5b67509958b654bb57c28d5eaf04a00f0d0096f5aa4e8130892f", func := "quillwort/quillwortlaw07.PartsOf", spec := "partsOf", inPlace := ["internal/bytealg.IndexByteString"], unfollowed := true, recurses := true, apart := false }
def PartsOfSaid : Prop := partsOfRow.holds Try.pinned (OpenSpec.ofChange partsOfSpec)

/-- ITS FALSE NEIGHBOUR: 'it returns false'. Refute it at one input. -/
def partsOfWrong : ChangeSpec := { name := "partsOf", fn := fun _ => fun
  | [d] => { results := [.lit (.bool false)], args := [d] }
  | _ => none }
def PartsOfWrongFalsely : Prop := partsOfRow.holds Try.pinned (OpenSpec.ofChange partsOfWrong)

/-- 'quillwortlaw07.PartsNest': WHATEVER THE INPUT: true; the input reads as it did. -/
def partsNestSpec : ChangeSpec := { name := "partsNest", fn := fun _ => fun
  | [d] => { results := [.lit (.bool true)], args := [d] }
  | _ => none }
def partsNestRow : OpenClaim := { program := "ythelcmjgikfbjaa", sum := "8a4eb1a1224a5b67509958b654bb57c28d5eaf04a00f0d0096f5aa4e8130892f", func := "quillwort/quillwortlaw07.PartsNest", spec := "partsNest", inPlace := ["internal/bytealg.IndexByteString"], unfollowed := true, recurses := true, apart := false }
def PartsNestSaid : Prop := partsNestRow.holds Try.pinned (OpenSpec.ofChange partsNestSpec)

/-- ITS FALSE NEIGHBOUR: 'it returns false'. Refute it at one input. -/
def partsNestWrong : ChangeSpec := { name := "partsNest", fn := fun _ => fun
  | [d] => { results := [.lit (.bool false)], args := [d] }
  | _ => none }
def PartsNestWrongFalsely : Prop := partsNestRow.holds Try.pinned (OpenSpec.ofChange partsNestWrong)

/-- 'quillwortlaw07.PartsStack': WHATEVER THE INPUT: true; the input reads as it did. -/
def partsStackSpec : ChangeSpec := { name := "partsStack", fn := fun _ => fun
  | [d] => { results := [.lit (.bool true)], args := [d] }
  | _ => none }
def partsStackRow : OpenClaim := { program := "ythelcmjgikfbjaa", sum := "8a4eb1a1224a5b67509958b654bb57c28d5eaf04a00f0d0096f5aa4e8130892f", func := "quillwort/quillwortlaw07.PartsStack", spec := "partsStack", inPlace := ["internal/bytealg.IndexByteString"], unfollowed := true, recurses := true, apart := false }
def PartsStackSaid : Prop := partsStackRow.holds Try.pinned (OpenSpec.ofChange partsStackSpec)

/-- ITS FALSE NEIGHBOUR: 'it returns false'. Refute it at one input. -/
def partsStackWrong : ChangeSpec := { name := "partsStack", fn := fun _ => fun
  | [d] => { results := [.lit (.bool false)], args := [d] }
  | _ => none }
def PartsStackWrongFalsely : Prop := partsStackRow.holds Try.pinned (OpenSpec.ofChange partsStackWrong)

/-- 'quillwortlaw07.PartsPick': WHATEVER THE INPUT: true; the input reads as it did. -/
def partsPickSpec : ChangeSpec := { name := "partsPick", fn := fun _ => fun
  | [d1, d2, d3] => { results := [.lit (.bool true)], args := [d1, d2, d3] }
  | _ => none }
def partsPickRow : OpenClaim := { program := "ythelcmjgikfbjaa", sum := "8a4eb1a1224a5b67509958b654bb57c28d5eaf04a00f0d0096f5aa4e8130892f", func := "quillwort/quillwortlaw07.PartsPick", spec := "partsPick", inPlace := ["internal/bytealg.IndexByteString"], unfollowed := true, recurses := true, apart := false }
def PartsPickSaid : Prop := partsPickRow.holds Try.pinned (OpenSpec.ofChange partsPickSpec)

/-- ITS FALSE NEIGHBOUR: 'it returns false'. Refute it at one input. -/
def partsPickWrong : ChangeSpec := { name := "partsPick", fn := fun _ => fun
  | [d1, d2, d3] => { results := [.lit (.bool false)], args := [d1, d2, d3] }
  | _ => none }
def PartsPickWrongFalsely : Prop := partsPickRow.holds Try.pinned (OpenSpec.ofChange partsPickWrong)

/-- 'quillwortlaw07.PartsInside': WHATEVER THE INPUT: true; the input reads as it did. -/
def partsInsideSpec : ChangeSpec := { name := "partsInside", fn := fun _ => fun
  | [d] => { results := [.lit (.bool true)], args := [d] }
  | _ => none }
def partsInsideRow : OpenClaim := { program := "ythelcmjgikfbjaa", sum := "8a4eb1a1224a5b67509958b654bb57c28d5eaf04a00f0d0096f5aa4e8130892f", func := "quillwort/quillwortlaw07.PartsInside", spec := "partsInside", inPlace := ["internal/bytealg.IndexByteString"], unfollowed := true, recurses := true, apart := false }
def PartsInsideSaid : Prop := partsInsideRow.holds Try.pinned (OpenSpec.ofChange partsInsideSpec)

/-- ITS FALSE NEIGHBOUR: 'it returns false'. Refute it at one input. -/
def partsInsideWrong : ChangeSpec := { name := "partsInside", fn := fun _ => fun
  | [d] => { results := [.lit (.bool false)], args := [d] }
  | _ => none }
def PartsInsideWrongFalsely : Prop := partsInsideRow.holds Try.pinned (OpenSpec.ofChange partsInsideWrong)

/-- 'quillwortlaw07.PartsRows': WHATEVER THE INPUT: true; the input reads as it did. -/
def partsRowsSpec : ChangeSpec := { name := "partsRows", fn := fun _ => fun
  | [d] => { results := [.lit (.bool true)], args := [d] }
  | _ => none }
def partsRowsRow : OpenClaim := { program := "ythelcmjgikfbjaa", sum := "8a4eb1a1224a5b67509958b654bb57c28d5eaf04a00f0d0096f5aa4e8130892f", func := "quillwort/quillwortlaw07.PartsRows", spec := "partsRows", inPlace := ["internal/bytealg.IndexByteString"], unfollowed := true, recurses := true, apart := false }
def PartsRowsSaid : Prop := partsRowsRow.holds Try.pinned (OpenSpec.ofChange partsRowsSpec)

/-- ITS FALSE NEIGHBOUR: 'it returns false'. Refute it at one input. -/
def partsRowsWrong : ChangeSpec := { name := "partsRows", fn := fun _ => fun
  | [d] => { results := [.lit (.bool false)], args := [d] }
  | _ => none }
def PartsRowsWrongFalsely : Prop := partsRowsRow.holds Try.pinned (OpenSpec.ofChange partsRowsWrong)

/-- 'quillwortlaw07.PartsNames': WHATEVER THE INPUT: true; the input reads as it did. -/
def partsNamesSpec : ChangeSpec := { name := "partsNames", fn := fun _ => fun
  | [d] => { results := [.lit (.bool true)], args := [d] }
  | _ => none }
def partsNamesRow : OpenClaim := { program := "ythelcmjgikfbjaa", sum := "8a4eb1a1224a5b67509958b654bb57c28d5eaf04a00f0d0096f5aa4e8130892f", func := "quillwort/quillwortlaw07.PartsNames", spec := "partsNames", inPlace := ["internal/bytealg.IndexByteString"], unfollowed := true, recurses := true, apart := false }
def PartsNamesSaid : Prop := partsNamesRow.holds Try.pinned (OpenSpec.ofChange partsNamesSpec)

/-- ITS FALSE NEIGHBOUR: 'it returns false'. Refute it at one input. -/
def partsNamesWrong : ChangeSpec := { name := "partsNames", fn := fun _ => fun
  | [d] => { results := [.lit (.bool false)], args := [d] }
  | _ => none }
def PartsNamesWrongFalsely : Prop := partsNamesRow.holds Try.pinned (OpenSpec.ofChange partsNamesWrong)

/- THE SECOND FORM. 'bulk': how many values and letters a reading holds, each counted each time it is reached (what is shared counts as often as it is met; a slice's spare places count too). A statement '..UptoSaid' is the law's where the arguments, and the package variables that the reading takes, are together of bulk at most 1048576: NARROWER than '..Said'. Prove '..Said' where nothing that the law and all that it calls make is longer than what came in: it says more and counts as full. Else prove '..UptoSaid'. A law counts once. -/
mutual
def uptoBulk {H : Type} : DataW H → Nat
  | .lit (.string bytes) => bytes.length + 1
  | .lit _ => 1
  | .nil => 1
  | .ptr d => uptoBulk d + 1
  | .slice elems spare => uptoBulkAll elems + uptoBulkAll spare + 1
  | .agg parts => uptoBulkAll parts + 1
  | .iface _ d => uptoBulk d + 1
  | .map entries => uptoBulkEntries entries + 1
  | .held _ => 1
def uptoBulkAll {H : Type} : List (DataW H) → Nat
  | [] => 0
  | d :: r => uptoBulk d + uptoBulkAll r
def uptoBulkEntries {H : Type} : List (Lit × DataW H) → Nat
  | [] => 0
  | x :: r => uptoBulkEntry x + uptoBulkEntries r
def uptoBulkEntry {H : Type} : Lit × DataW H → Nat
  | (.string bytes, d) => bytes.length + uptoBulk d + 1
  | (_, d) => uptoBulk d + 1
 end
def uptoSmall : (H : Type) → List (DataW H) → Bool := fun _ ds => decide (uptoBulkAll ds ≤ 1048576)
def OpenSpec.upto (s : _root_.Go.ChangeSpec) : _root_.Go.OpenSpec := { _root_.Go.OpenSpec.ofChange s with cond := some uptoSmall }

/-- 'quillwortlaw07.PartsOf', WHERE WHAT IT READS IS OF BULK AT MOST 1048576: true; the input reads as it did. -/
def partsOfUptoRow : OpenClaim := { program := "ythelcmjgikfbjaa", sum := "8a4eb1a1224a5b67509958b654bb57c28d5eaf04a00f0d0096f5aa4e8130892f", func := "quillwort/quillwortlaw07.PartsOf", spec := "partsOf", inPlace := ["internal/bytealg.IndexByteString"], unfollowed := true, recurses := true, apart := false, narrowed := true }
def PartsOfUptoSaid : Prop := partsOfUptoRow.holds Try.pinned (OpenSpec.upto partsOfSpec)

/-- 'quillwortlaw07.PartsNest', WHERE WHAT IT READS IS OF BULK AT MOST 1048576: true; the input reads as it did. -/
def partsNestUptoRow : OpenClaim := { program := "ythelcmjgikfbjaa", sum := "8a4eb1a1224a5b67509958b654bb57c28d5eaf04a00f0d0096f5aa4e8130892f", func := "quillwort/quillwortlaw07.PartsNest", spec := "partsNest", inPlace := ["internal/bytealg.IndexByteString"], unfollowed := true, recurses := true, apart := false, narrowed := true }
def PartsNestUptoSaid : Prop := partsNestUptoRow.holds Try.pinned (OpenSpec.upto partsNestSpec)

/-- 'quillwortlaw07.PartsStack', WHERE WHAT IT READS IS OF BULK AT MOST 1048576: true; the input reads as it did. -/
def partsStackUptoRow : OpenClaim := { program := "ythelcmjgikfbjaa", sum := "8a4eb1a1224a5b67509958b654bb57c28d5eaf04a00f0d0096f5aa4e8130892f", func := "quillwort/quillwortlaw07.PartsStack", spec := "partsStack", inPlace := ["internal/bytealg.IndexByteString"], unfollowed := true, recurses := true, apart := false, narrowed := true }
def PartsStackUptoSaid : Prop := partsStackUptoRow.holds Try.pinned (OpenSpec.upto partsStackSpec)

/-- 'quillwortlaw07.PartsPick', WHERE WHAT IT READS IS OF BULK AT MOST 1048576: true; the input reads as it did. -/
def partsPickUptoRow : OpenClaim := { program := "ythelcmjgikfbjaa", sum := "8a4eb1a1224a5b67509958b654bb57c28d5eaf04a00f0d0096f5aa4e8130892f", func := "quillwort/quillwortlaw07.PartsPick", spec := "partsPick", inPlace := ["internal/bytealg.IndexByteString"], unfollowed := true, recurses := true, apart := false, narrowed := true }
def PartsPickUptoSaid : Prop := partsPickUptoRow.holds Try.pinned (OpenSpec.upto partsPickSpec)

/-- 'quillwortlaw07.PartsInside', WHERE WHAT IT READS IS OF BULK AT MOST 1048576: true; the input reads as it did. -/
def partsInsideUptoRow : OpenClaim := { program := "ythelcmjgikfbjaa", sum := "8a4eb1a1224a5b67509958b654bb57c28d5eaf04a00f0d0096f5aa4e8130892f", func := "quillwort/quillwortlaw07.PartsInside", spec := "partsInside", inPlace := ["internal/bytealg.IndexByteString"], unfollowed := true, recurses := true, apart := false, narrowed := true }
def PartsInsideUptoSaid : Prop := partsInsideUptoRow.holds Try.pinned (OpenSpec.upto partsInsideSpec)

/-- 'quillwortlaw07.PartsRows', WHERE WHAT IT READS IS OF BULK AT MOST 1048576: true; the input reads as it did. -/
def partsRowsUptoRow : OpenClaim := { program := "ythelcmjgikfbjaa", sum := "8a4eb1a1224a5b67509958b654bb57c28d5eaf04a00f0d0096f5aa4e8130892f", func := "quillwort/quillwortlaw07.PartsRows", spec := "partsRows", inPlace := ["internal/bytealg.IndexByteString"], unfollowed := true, recurses := true, apart := false, narrowed := true }
def PartsRowsUptoSaid : Prop := partsRowsUptoRow.holds Try.pinned (OpenSpec.upto partsRowsSpec)

/-- 'quillwortlaw07.PartsNames', WHERE WHAT IT READS IS OF BULK AT MOST 1048576: true; the input reads as it did. -/
def partsNamesUptoRow : OpenClaim := { program := "ythelcmjgikfbjaa", sum := "8a4eb1a1224a5b67509958b654bb57c28d5eaf04a00f0d0096f5aa4e8130892f", func := "quillwort/quillwortlaw07.PartsNames", spec := "partsNames", inPlace := ["internal/bytealg.IndexByteString"], unfollowed := true, recurses := true, apart := false, narrowed := true }
def PartsNamesUptoSaid : Prop := partsNamesUptoRow.holds Try.pinned (OpenSpec.upto partsNamesSpec)

end Rows
end Go.Proofs.Ythelcmjgikfbjaa

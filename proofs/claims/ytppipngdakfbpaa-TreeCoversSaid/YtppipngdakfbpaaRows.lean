/-
  No cell of these rows narrows 'for every input' (looked for: loops, veiled, ifaces, maps, wideKeys, modest, calm, conditions, laid).
  DERIVED. THE GIVEN ROWS OF THIS SEAT. 7 by the template 'for every input the law returns true; each argument reads behind the call as it read before'; 0 by the template 'total and deterministic' (their statements: YtppipngdakfbpaaTotals.lean).
  GIVEN WITH THE SEED: the statements are not yours to turn. If you find one false, say at which input.
  Laid BY PROGRAM, IN A SANDBOX (cutbox-rows.mjs): the forced cells as the released guide's own fill.sh prints them over the translation a4970f5f36b916f3… (all of the seat's roots in one cut). By AI agents, Wed Nov 11 2026. No macro, syntax, notation, axiom, sorry.
-/
import Derived.Test.YtppipngdakfbpaaChecked
import GoSem.Claim
import GoSem.ClaimJoined
import GoSem.ClaimMapViews
import Derived.JoinedTies
import Derived.KernelRfl
namespace Go.Proofs.Ytppipngdakfbpaa
/- THE CELL 'sum', in the pinned program and in every row, IS THE sha256 OF THE DUMP (.gsa) THAT YtppipngdakfbpaaProg.lean LOADS. Nothing in Lean hashes anything: it is a label: what it is worth is what the hold of that sum in a sandbox is worth. -/
noncomputable def Try.pinned : Pinned := { name := "ytppipngdakfbpaa", sum := "a4970f5f36b916f35a9f21b71d4736825ece4c9ac265a5848ccc6dd0f62099e3", checked := Try.checked }
namespace Rows
def none {H : Type} : Left H := { results := [], args := [] }

/-- 'quillwortlaw11.TreeChecks': WHATEVER THE INPUT: true; the input reads as it did. -/
def treeChecksSpec : ChangeSpec := { name := "treeChecks", fn := fun _ => fun
  | [d1, d2] => { results := [.lit (.bool true)], args := [d1, d2] }
  | _ => none }
def treeChecksRow : OpenClaim := { program := "ytppipngdakfbpaa", sum := "a4970f5f36b916f35a9f21b71d4736825ece4c9ac265a5848ccc6dd0f62099e3", func := "quillwort/quillwortlaw11.TreeChecks", spec := "treeChecks", inPlace := ["internal/bytealg.IndexByteString"], apart := false }
def TreeChecksSaid : Prop := treeChecksRow.holds Try.pinned (OpenSpec.ofChange treeChecksSpec)

/-- ITS FALSE NEIGHBOUR: 'it returns false'. Refute it at one input. -/
def treeChecksWrong : ChangeSpec := { name := "treeChecks", fn := fun _ => fun
  | [d1, d2] => { results := [.lit (.bool false)], args := [d1, d2] }
  | _ => none }
def TreeChecksWrongFalsely : Prop := treeChecksRow.holds Try.pinned (OpenSpec.ofChange treeChecksWrong)

/-- 'quillwortlaw11.TreeKids': WHATEVER THE INPUT: true; the input reads as it did. -/
def treeKidsSpec : ChangeSpec := { name := "treeKids", fn := fun _ => fun
  | [d1, d2] => { results := [.lit (.bool true)], args := [d1, d2] }
  | _ => none }
def treeKidsRow : OpenClaim := { program := "ytppipngdakfbpaa", sum := "a4970f5f36b916f35a9f21b71d4736825ece4c9ac265a5848ccc6dd0f62099e3", func := "quillwort/quillwortlaw11.TreeKids", spec := "treeKids", inPlace := ["internal/bytealg.IndexByteString"], apart := false }
def TreeKidsSaid : Prop := treeKidsRow.holds Try.pinned (OpenSpec.ofChange treeKidsSpec)

/-- ITS FALSE NEIGHBOUR: 'it returns false'. Refute it at one input. -/
def treeKidsWrong : ChangeSpec := { name := "treeKids", fn := fun _ => fun
  | [d1, d2] => { results := [.lit (.bool false)], args := [d1, d2] }
  | _ => none }
def TreeKidsWrongFalsely : Prop := treeKidsRow.holds Try.pinned (OpenSpec.ofChange treeKidsWrong)

/-- 'quillwortlaw11.TreeCovers': WHATEVER THE INPUT: true; the input reads as it did. -/
def treeCoversSpec : ChangeSpec := { name := "treeCovers", fn := fun _ => fun
  | [d1, d2] => { results := [.lit (.bool true)], args := [d1, d2] }
  | _ => none }
def treeCoversRow : OpenClaim := { program := "ytppipngdakfbpaa", sum := "a4970f5f36b916f35a9f21b71d4736825ece4c9ac265a5848ccc6dd0f62099e3", func := "quillwort/quillwortlaw11.TreeCovers", spec := "treeCovers", inPlace := ["internal/bytealg.IndexByteString"], unfollowed := true, recurses := true, apart := false }
def TreeCoversSaid : Prop := treeCoversRow.holds Try.pinned (OpenSpec.ofChange treeCoversSpec)

/-- ITS FALSE NEIGHBOUR: 'it returns false'. Refute it at one input. -/
def treeCoversWrong : ChangeSpec := { name := "treeCovers", fn := fun _ => fun
  | [d1, d2] => { results := [.lit (.bool false)], args := [d1, d2] }
  | _ => none }
def TreeCoversWrongFalsely : Prop := treeCoversRow.holds Try.pinned (OpenSpec.ofChange treeCoversWrong)

/-- 'quillwortlaw11.TreeAfter': WHATEVER THE INPUT: true; the input reads as it did. -/
def treeAfterSpec : ChangeSpec := { name := "treeAfter", fn := fun _ => fun
  | [d] => { results := [.lit (.bool true)], args := [d] }
  | _ => none }
def treeAfterRow : OpenClaim := { program := "ytppipngdakfbpaa", sum := "a4970f5f36b916f35a9f21b71d4736825ece4c9ac265a5848ccc6dd0f62099e3", func := "quillwort/quillwortlaw11.TreeAfter", spec := "treeAfter", inPlace := ["internal/bytealg.IndexByteString"], unfollowed := true, recurses := true, apart := false }
def TreeAfterSaid : Prop := treeAfterRow.holds Try.pinned (OpenSpec.ofChange treeAfterSpec)

/-- ITS FALSE NEIGHBOUR: 'it returns false'. Refute it at one input. -/
def treeAfterWrong : ChangeSpec := { name := "treeAfter", fn := fun _ => fun
  | [d] => { results := [.lit (.bool false)], args := [d] }
  | _ => none }
def TreeAfterWrongFalsely : Prop := treeAfterRow.holds Try.pinned (OpenSpec.ofChange treeAfterWrong)

/-- 'quillwortlaw11.TreeGrafts': WHATEVER THE INPUT: true; the input reads as it did. -/
def treeGraftsSpec : ChangeSpec := { name := "treeGrafts", fn := fun _ => fun
  | [d1, d2] => { results := [.lit (.bool true)], args := [d1, d2] }
  | _ => none }
def treeGraftsRow : OpenClaim := { program := "ytppipngdakfbpaa", sum := "a4970f5f36b916f35a9f21b71d4736825ece4c9ac265a5848ccc6dd0f62099e3", func := "quillwort/quillwortlaw11.TreeGrafts", spec := "treeGrafts", inPlace := ["internal/bytealg.IndexByteString"], apart := false }
def TreeGraftsSaid : Prop := treeGraftsRow.holds Try.pinned (OpenSpec.ofChange treeGraftsSpec)

/-- ITS FALSE NEIGHBOUR: 'it returns false'. Refute it at one input. -/
def treeGraftsWrong : ChangeSpec := { name := "treeGrafts", fn := fun _ => fun
  | [d1, d2] => { results := [.lit (.bool false)], args := [d1, d2] }
  | _ => none }
def TreeGraftsWrongFalsely : Prop := treeGraftsRow.holds Try.pinned (OpenSpec.ofChange treeGraftsWrong)

/-- 'quillwortlaw11.TreeHangs': WHATEVER THE INPUT: true; the input reads as it did. -/
def treeHangsSpec : ChangeSpec := { name := "treeHangs", fn := fun _ => fun
  | [d1, d2, d3] => { results := [.lit (.bool true)], args := [d1, d2, d3] }
  | _ => none }
def treeHangsRow : OpenClaim := { program := "ytppipngdakfbpaa", sum := "a4970f5f36b916f35a9f21b71d4736825ece4c9ac265a5848ccc6dd0f62099e3", func := "quillwort/quillwortlaw11.TreeHangs", spec := "treeHangs", inPlace := ["internal/bytealg.IndexByteString"], apart := false }
def TreeHangsSaid : Prop := treeHangsRow.holds Try.pinned (OpenSpec.ofChange treeHangsSpec)

/-- ITS FALSE NEIGHBOUR: 'it returns false'. Refute it at one input. -/
def treeHangsWrong : ChangeSpec := { name := "treeHangs", fn := fun _ => fun
  | [d1, d2, d3] => { results := [.lit (.bool false)], args := [d1, d2, d3] }
  | _ => none }
def TreeHangsWrongFalsely : Prop := treeHangsRow.holds Try.pinned (OpenSpec.ofChange treeHangsWrong)

/-- 'quillwortlaw11.TreeReads': WHATEVER THE INPUT: true; the input reads as it did. -/
def treeReadsSpec : ChangeSpec := { name := "treeReads", fn := fun _ => fun
  | [d] => { results := [.lit (.bool true)], args := [d] }
  | _ => none }
def treeReadsRow : OpenClaim := { program := "ytppipngdakfbpaa", sum := "a4970f5f36b916f35a9f21b71d4736825ece4c9ac265a5848ccc6dd0f62099e3", func := "quillwort/quillwortlaw11.TreeReads", spec := "treeReads", inPlace := ["internal/bytealg.IndexByteString"], apart := false }
def TreeReadsSaid : Prop := treeReadsRow.holds Try.pinned (OpenSpec.ofChange treeReadsSpec)

/-- ITS FALSE NEIGHBOUR: 'it returns false'. Refute it at one input. -/
def treeReadsWrong : ChangeSpec := { name := "treeReads", fn := fun _ => fun
  | [d] => { results := [.lit (.bool false)], args := [d] }
  | _ => none }
def TreeReadsWrongFalsely : Prop := treeReadsRow.holds Try.pinned (OpenSpec.ofChange treeReadsWrong)

/- THE SECOND FORM. 'bulk': how many values and letters a reading holds, each counted each time it is reached (what is shared counts as often as it is met; a slice's spare places count too). A statement '..UptoSaid' is the law's where the arguments, and the package variables that the reading takes, are together of bulk at most 1048576: NARROWER than '..Said'. Prove '..Said' where nothing that the law and all that it calls make is longer than what came in: it says more and counts as full. Else prove '..UptoSaid'. A law counts once. -/
mutual
def uptoBulk {H : Type} : DataW H → Nat
  | .lit (.string bytes) => bytes.length + 1
  | .lit _ => 1
  | .nil => 1
  | .ptr d => uptoBulk d + 1
  | .slice elems spare => uptoBulkAll elems + uptoBulkAll spare + 1
  | .agg parts => uptoBulkAll parts + 1
  | .iface _ d => uptoBulk d + 1
  | .map entries => uptoBulkEntries entries + 1
  | .held _ => 1
def uptoBulkAll {H : Type} : List (DataW H) → Nat
  | [] => 0
  | d :: r => uptoBulk d + uptoBulkAll r
def uptoBulkEntries {H : Type} : List (Lit × DataW H) → Nat
  | [] => 0
  | x :: r => uptoBulkEntry x + uptoBulkEntries r
def uptoBulkEntry {H : Type} : Lit × DataW H → Nat
  | (.string bytes, d) => bytes.length + uptoBulk d + 1
  | (_, d) => uptoBulk d + 1
 end
def uptoSmall : (H : Type) → List (DataW H) → Bool := fun _ ds => decide (uptoBulkAll ds ≤ 1048576)
def OpenSpec.upto (s : _root_.Go.ChangeSpec) : _root_.Go.OpenSpec := { _root_.Go.OpenSpec.ofChange s with cond := some uptoSmall }

/-- 'quillwortlaw11.TreeChecks', WHERE WHAT IT READS IS OF BULK AT MOST 1048576: true; the input reads as it did. -/
def treeChecksUptoRow : OpenClaim := { program := "ytppipngdakfbpaa", sum := "a4970f5f36b916f35a9f21b71d4736825ece4c9ac265a5848ccc6dd0f62099e3", func := "quillwort/quillwortlaw11.TreeChecks", spec := "treeChecks", inPlace := ["internal/bytealg.IndexByteString"], apart := false, narrowed := true }
def TreeChecksUptoSaid : Prop := treeChecksUptoRow.holds Try.pinned (OpenSpec.upto treeChecksSpec)

/-- 'quillwortlaw11.TreeKids', WHERE WHAT IT READS IS OF BULK AT MOST 1048576: true; the input reads as it did. -/
def treeKidsUptoRow : OpenClaim := { program := "ytppipngdakfbpaa", sum := "a4970f5f36b916f35a9f21b71d4736825ece4c9ac265a5848ccc6dd0f62099e3", func := "quillwort/quillwortlaw11.TreeKids", spec := "treeKids", inPlace := ["internal/bytealg.IndexByteString"], apart := false, narrowed := true }
def TreeKidsUptoSaid : Prop := treeKidsUptoRow.holds Try.pinned (OpenSpec.upto treeKidsSpec)

/-- 'quillwortlaw11.TreeCovers', WHERE WHAT IT READS IS OF BULK AT MOST 1048576: true; the input reads as it did. -/
def treeCoversUptoRow : OpenClaim := { program := "ytppipngdakfbpaa", sum := "a4970f5f36b916f35a9f21b71d4736825ece4c9ac265a5848ccc6dd0f62099e3", func := "quillwort/quillwortlaw11.TreeCovers", spec := "treeCovers", inPlace := ["internal/bytealg.IndexByteString"], unfollowed := true, recurses := true, apart := false, narrowed := true }
def TreeCoversUptoSaid : Prop := treeCoversUptoRow.holds Try.pinned (OpenSpec.upto treeCoversSpec)

/-- 'quillwortlaw11.TreeAfter', WHERE WHAT IT READS IS OF BULK AT MOST 1048576: true; the input reads as it did. -/
def treeAfterUptoRow : OpenClaim := { program := "ytppipngdakfbpaa", sum := "a4970f5f36b916f35a9f21b71d4736825ece4c9ac265a5848ccc6dd0f62099e3", func := "quillwort/quillwortlaw11.TreeAfter", spec := "treeAfter", inPlace := ["internal/bytealg.IndexByteString"], unfollowed := true, recurses := true, apart := false, narrowed := true }
def TreeAfterUptoSaid : Prop := treeAfterUptoRow.holds Try.pinned (OpenSpec.upto treeAfterSpec)

/-- 'quillwortlaw11.TreeGrafts', WHERE WHAT IT READS IS OF BULK AT MOST 1048576: true; the input reads as it did. -/
def treeGraftsUptoRow : OpenClaim := { program := "ytppipngdakfbpaa", sum := "a4970f5f36b916f35a9f21b71d4736825ece4c9ac265a5848ccc6dd0f62099e3", func := "quillwort/quillwortlaw11.TreeGrafts", spec := "treeGrafts", inPlace := ["internal/bytealg.IndexByteString"], apart := false, narrowed := true }
def TreeGraftsUptoSaid : Prop := treeGraftsUptoRow.holds Try.pinned (OpenSpec.upto treeGraftsSpec)

/-- 'quillwortlaw11.TreeHangs', WHERE WHAT IT READS IS OF BULK AT MOST 1048576: true; the input reads as it did. -/
def treeHangsUptoRow : OpenClaim := { program := "ytppipngdakfbpaa", sum := "a4970f5f36b916f35a9f21b71d4736825ece4c9ac265a5848ccc6dd0f62099e3", func := "quillwort/quillwortlaw11.TreeHangs", spec := "treeHangs", inPlace := ["internal/bytealg.IndexByteString"], apart := false, narrowed := true }
def TreeHangsUptoSaid : Prop := treeHangsUptoRow.holds Try.pinned (OpenSpec.upto treeHangsSpec)

/-- 'quillwortlaw11.TreeReads', WHERE WHAT IT READS IS OF BULK AT MOST 1048576: true; the input reads as it did. -/
def treeReadsUptoRow : OpenClaim := { program := "ytppipngdakfbpaa", sum := "a4970f5f36b916f35a9f21b71d4736825ece4c9ac265a5848ccc6dd0f62099e3", func := "quillwort/quillwortlaw11.TreeReads", spec := "treeReads", inPlace := ["internal/bytealg.IndexByteString"], apart := false, narrowed := true }
def TreeReadsUptoSaid : Prop := treeReadsUptoRow.holds Try.pinned (OpenSpec.upto treeReadsSpec)

end Rows
end Go.Proofs.Ytppipngdakfbpaa

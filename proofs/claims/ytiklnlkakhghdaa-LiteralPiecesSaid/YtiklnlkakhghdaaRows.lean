/-
  No cell of these rows narrows 'for every input' (looked for: loops, veiled, ifaces, maps, wideKeys, modest, calm, conditions, laid).
  DERIVED. THE GIVEN ROWS OF THIS SEAT. 3 by the template 'for every input the law returns true; each argument reads behind the call as it read before'; 0 by the template 'total and deterministic' (their statements: YtiklnlkakhghdaaTotals.lean).
  GIVEN WITH THE SEED: the statements are not yours to turn. If you find one false, say at which input.
  Laid BY PROGRAM, IN A SANDBOX (cutbox-rows.mjs): the forced cells as the released guide's own fill.sh prints them over the translation 026824710de8e9d1… (all of the seat's roots in one cut). By AI agents, Wed Nov 11 2026. No macro, syntax, notation, axiom, sorry.
-/
import Derived.Test.YtiklnlkakhghdaaChecked
import GoSem.Claim
import GoSem.ClaimJoined
import GoSem.ClaimMapViews
import Derived.JoinedTies
import Derived.KernelRfl
namespace Go.Proofs.Ytiklnlkakhghdaa
/- THE CELL 'sum', in the pinned program and in every row, IS THE sha256 OF THE DUMP (.gsa) THAT YtiklnlkakhghdaaProg.lean LOADS. Nothing in Lean hashes anything: it is a label: what it is worth is what the hold of that sum in a sandbox is worth. -/
noncomputable def Try.pinned : Pinned := { name := "ytiklnlkakhghdaa", sum := "026824710de8e9d1f4948aaafd15b264b433aaf1f47eb0a6411028b0717432d5", checked := Try.checked }
namespace Rows
def none {H : Type} : Left H := { results := [], args := [] }

/-- 'quillwortlaw08.LiteralPieces': WHATEVER THE INPUT: true; the input reads as it did. -/
def literalPiecesSpec : ChangeSpec := { name := "literalPieces", fn := fun _ => fun
  | [d] => { results := [.lit (.bool true)], args := [d] }
  | _ => none }
def literalPiecesRow : OpenClaim := { program := "ytiklnlkakhghdaa", sum := "026824710de8e9d1f4948aaafd15b264b433aaf1f47eb0a6411028b0717432d5", func := "quillwort/quillwortlaw08.LiteralPieces", spec := "literalPieces", inPlace := ["internal/bytealg.IndexByteString", "internal/abi.NoEscape"], unfollowed := true, recurses := true, apart := false }
def LiteralPiecesSaid : Prop := literalPiecesRow.holds Try.pinned (OpenSpec.ofChange literalPiecesSpec)

/-- ITS FALSE NEIGHBOUR: 'it returns false'. Refute it at one input. -/
def literalPiecesWrong : ChangeSpec := { name := "literalPieces", fn := fun _ => fun
  | [d] => { results := [.lit (.bool false)], args := [d] }
  | _ => none }
def LiteralPiecesWrongFalsely : Prop := literalPiecesRow.holds Try.pinned (OpenSpec.ofChange literalPiecesWrong)

/-- 'quillwortlaw08.LiteralValues': WHATEVER THE INPUT: true; the input reads as it did. -/
def literalValuesSpec : ChangeSpec := { name := "literalValues", fn := fun _ => fun
  | [d] => { results := [.lit (.bool true)], args := [d] }
  | _ => none }
def literalValuesRow : OpenClaim := { program := "ytiklnlkakhghdaa", sum := "026824710de8e9d1f4948aaafd15b264b433aaf1f47eb0a6411028b0717432d5", func := "quillwort/quillwortlaw08.LiteralValues", spec := "literalValues", inPlace := ["internal/bytealg.IndexByteString", "internal/abi.NoEscape"], unfollowed := true, recurses := true, apart := false }
def LiteralValuesSaid : Prop := literalValuesRow.holds Try.pinned (OpenSpec.ofChange literalValuesSpec)

/-- ITS FALSE NEIGHBOUR: 'it returns false'. Refute it at one input. -/
def literalValuesWrong : ChangeSpec := { name := "literalValues", fn := fun _ => fun
  | [d] => { results := [.lit (.bool false)], args := [d] }
  | _ => none }
def LiteralValuesWrongFalsely : Prop := literalValuesRow.holds Try.pinned (OpenSpec.ofChange literalValuesWrong)

/-- 'quillwortlaw08.LiteralJoins': WHATEVER THE INPUT: true; the input reads as it did. -/
def literalJoinsSpec : ChangeSpec := { name := "literalJoins", fn := fun _ => fun
  | [d1, d2] => { results := [.lit (.bool true)], args := [d1, d2] }
  | _ => none }
def literalJoinsRow : OpenClaim := { program := "ytiklnlkakhghdaa", sum := "026824710de8e9d1f4948aaafd15b264b433aaf1f47eb0a6411028b0717432d5", func := "quillwort/quillwortlaw08.LiteralJoins", spec := "literalJoins", inPlace := ["internal/bytealg.IndexByteString", "internal/abi.NoEscape"], unfollowed := true, recurses := true, apart := false }
def LiteralJoinsSaid : Prop := literalJoinsRow.holds Try.pinned (OpenSpec.ofChange literalJoinsSpec)

/-- ITS FALSE NEIGHBOUR: 'it returns false'. Refute it at one input. -/
def literalJoinsWrong : ChangeSpec := { name := "literalJoins", fn := fun _ => fun
  | [d1, d2] => { results := [.lit (.bool false)], args := [d1, d2] }
  | _ => none }
def LiteralJoinsWrongFalsely : Prop := literalJoinsRow.holds Try.pinned (OpenSpec.ofChange literalJoinsWrong)

/- THE SECOND FORM. 'bulk': how many values and letters a reading holds, each counted each time it is reached (what is shared counts as often as it is met; a slice's spare places count too). A statement '..UptoSaid' is the law's where the arguments, and the package variables that the reading takes, are together of bulk at most 1048576: NARROWER than '..Said'. Prove '..Said' where nothing that the law and all that it calls make is longer than what came in: it says more and counts as full. Else prove '..UptoSaid'. A law counts once. -/
mutual
def uptoBulk {H : Type} : DataW H → Nat
  | .lit (.string bytes) => bytes.length + 1
  | .lit _ => 1
  | .nil => 1
  | .ptr d => uptoBulk d + 1
  | .slice elems spare => uptoBulkAll elems + uptoBulkAll spare + 1
  | .agg parts => uptoBulkAll parts + 1
  | .iface _ d => uptoBulk d + 1
  | .map entries => uptoBulkEntries entries + 1
  | .held _ => 1
def uptoBulkAll {H : Type} : List (DataW H) → Nat
  | [] => 0
  | d :: r => uptoBulk d + uptoBulkAll r
def uptoBulkEntries {H : Type} : List (Lit × DataW H) → Nat
  | [] => 0
  | x :: r => uptoBulkEntry x + uptoBulkEntries r
def uptoBulkEntry {H : Type} : Lit × DataW H → Nat
  | (.string bytes, d) => bytes.length + uptoBulk d + 1
  | (_, d) => uptoBulk d + 1
 end
def uptoSmall : (H : Type) → List (DataW H) → Bool := fun _ ds => decide (uptoBulkAll ds ≤ 1048576)
def OpenSpec.upto (s : _root_.Go.ChangeSpec) : _root_.Go.OpenSpec := { _root_.Go.OpenSpec.ofChange s with cond := some uptoSmall }

/-- 'quillwortlaw08.LiteralPieces', WHERE WHAT IT READS IS OF BULK AT MOST 1048576: true; the input reads as it did. -/
def literalPiecesUptoRow : OpenClaim := { program := "ytiklnlkakhghdaa", sum := "026824710de8e9d1f4948aaafd15b264b433aaf1f47eb0a6411028b0717432d5", func := "quillwort/quillwortlaw08.LiteralPieces", spec := "literalPieces", inPlace := ["internal/bytealg.IndexByteString", "internal/abi.NoEscape"], unfollowed := true, recurses := true, apart := false, narrowed := true }
def LiteralPiecesUptoSaid : Prop := literalPiecesUptoRow.holds Try.pinned (OpenSpec.upto literalPiecesSpec)

/-- 'quillwortlaw08.LiteralValues', WHERE WHAT IT READS IS OF BULK AT MOST 1048576: true; the input reads as it did. -/
def literalValuesUptoRow : OpenClaim := { program := "ytiklnlkakhghdaa", sum := "026824710de8e9d1f4948aaafd15b264b433aaf1f47eb0a6411028b0717432d5", func := "quillwort/quillwortlaw08.LiteralValues", spec := "literalValues", inPlace := ["internal/bytealg.IndexByteString", "internal/abi.NoEscape"], unfollowed := true, recurses := true, apart := false, narrowed := true }
def LiteralValuesUptoSaid : Prop := literalValuesUptoRow.holds Try.pinned (OpenSpec.upto literalValuesSpec)

/-- 'quillwortlaw08.LiteralJoins', WHERE WHAT IT READS IS OF BULK AT MOST 1048576: true; the input reads as it did. -/
def literalJoinsUptoRow : OpenClaim := { program := "ytiklnlkakhghdaa", sum := "026824710de8e9d1f4948aaafd15b264b433aaf1f47eb0a6411028b0717432d5", func := "quillwort/quillwortlaw08.LiteralJoins", spec := "literalJoins", inPlace := ["internal/bytealg.IndexByteString", "internal/abi.NoEscape"], unfollowed := true, recurses := true, apart := false, narrowed := true }
def LiteralJoinsUptoSaid : Prop := literalJoinsUptoRow.holds Try.pinned (OpenSpec.upto literalJoinsSpec)

end Rows
end Go.Proofs.Ytiklnlkakhghdaa

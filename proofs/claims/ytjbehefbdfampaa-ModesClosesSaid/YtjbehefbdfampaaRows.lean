/-
  No cell of these rows narrows 'for every input' (looked for: loops, veiled, ifaces, maps, wideKeys, modest, calm, conditions, laid).
  DERIVED. THE GIVEN ROWS OF THIS SEAT. 7 by the template 'for every input the law returns true; each argument reads behind the call as it read before'; 0 by the template 'total and deterministic' (their statements: YtjbehefbdfampaaTotals.lean).
  GIVEN WITH THE SEED: the statements are not yours to turn. If you find one false, say at which input.
  Laid BY PROGRAM, IN A SANDBOX (cutbox-rows.mjs): the forced cells as the released guide's own fill.sh prints them over the translation 34f206abdad5ab23… (all of the seat's roots in one cut). By AI agents, Wed Nov 11 2026. No macro, syntax, notation, axiom, sorry.
-/
import Derived.Test.YtjbehefbdfampaaChecked
import GoSem.Claim
import GoSem.ClaimJoined
import GoSem.ClaimMapViews
import Derived.JoinedTies
import Derived.KernelRfl
namespace Go.Proofs.Ytjbehefbdfampaa
/- THE CELL 'sum', in the pinned program and in every row, IS THE sha256 OF THE DUMP (.gsa) THAT YtjbehefbdfampaaProg.lean LOADS. Nothing in Lean hashes anything: it is a label: what it is worth is what the hold of that sum in a sandbox is worth. -/
noncomputable def Try.pinned : Pinned := { name := "ytjbehefbdfampaa", sum := "34f206abdad5ab2343c99af7800c19c7e7c0f42553ffe043d73c8eee4338ab8d", checked := Try.checked }
namespace Rows
def none {H : Type} : Left H := { results := [], args := [] }

/-- 'quillwortlaw06.ModesRun': WHATEVER THE INPUT: true; the input reads as it did. -/
def modesRunSpec : ChangeSpec := { name := "modesRun", fn := fun _ => fun
  | [d] => { results := [.lit (.bool true)], args := [d] }
  | _ => none }
def modesRunRow : OpenClaim := { program := "ytjbehefbdfampaa", sum := "34f206abdad5ab2343c99af7800c19c7e7c0f42553ffe043d73c8eee4338ab8d", func := "quillwort/quillwortlaw06.ModesRun", spec := "modesRun", inPlace := ["internal/bytealg.IndexByteString", "internal/abi.NoEscape"], apart := false }
def ModesRunSaid : Prop := modesRunRow.holds Try.pinned (OpenSpec.ofChange modesRunSpec)

/-- ITS FALSE NEIGHBOUR: 'it returns false'. Refute it at one input. -/
def modesRunWrong : ChangeSpec := { name := "modesRun", fn := fun _ => fun
  | [d] => { results := [.lit (.bool false)], args := [d] }
  | _ => none }
def ModesRunWrongFalsely : Prop := modesRunRow.holds Try.pinned (OpenSpec.ofChange modesRunWrong)

/-- 'quillwortlaw06.ModesAhead': WHATEVER THE INPUT: true; the input reads as it did. -/
def modesAheadSpec : ChangeSpec := { name := "modesAhead", fn := fun _ => fun
  | [d] => { results := [.lit (.bool true)], args := [d] }
  | _ => none }
def modesAheadRow : OpenClaim := { program := "ytjbehefbdfampaa", sum := "34f206abdad5ab2343c99af7800c19c7e7c0f42553ffe043d73c8eee4338ab8d", func := "quillwort/quillwortlaw06.ModesAhead", spec := "modesAhead", inPlace := ["internal/bytealg.IndexByteString", "internal/abi.NoEscape"], apart := false }
def ModesAheadSaid : Prop := modesAheadRow.holds Try.pinned (OpenSpec.ofChange modesAheadSpec)

/-- ITS FALSE NEIGHBOUR: 'it returns false'. Refute it at one input. -/
def modesAheadWrong : ChangeSpec := { name := "modesAhead", fn := fun _ => fun
  | [d] => { results := [.lit (.bool false)], args := [d] }
  | _ => none }
def ModesAheadWrongFalsely : Prop := modesAheadRow.holds Try.pinned (OpenSpec.ofChange modesAheadWrong)

/-- 'quillwortlaw06.ModesEnd': WHATEVER THE INPUT: true; the input reads as it did. -/
def modesEndSpec : ChangeSpec := { name := "modesEnd", fn := fun _ => fun
  | [d1, d2] => { results := [.lit (.bool true)], args := [d1, d2] }
  | _ => none }
def modesEndRow : OpenClaim := { program := "ytjbehefbdfampaa", sum := "34f206abdad5ab2343c99af7800c19c7e7c0f42553ffe043d73c8eee4338ab8d", func := "quillwort/quillwortlaw06.ModesEnd", spec := "modesEnd", inPlace := ["internal/bytealg.IndexByteString", "internal/abi.NoEscape"], apart := false }
def ModesEndSaid : Prop := modesEndRow.holds Try.pinned (OpenSpec.ofChange modesEndSpec)

/-- ITS FALSE NEIGHBOUR: 'it returns false'. Refute it at one input. -/
def modesEndWrong : ChangeSpec := { name := "modesEnd", fn := fun _ => fun
  | [d1, d2] => { results := [.lit (.bool false)], args := [d1, d2] }
  | _ => none }
def ModesEndWrongFalsely : Prop := modesEndRow.holds Try.pinned (OpenSpec.ofChange modesEndWrong)

/-- 'quillwortlaw06.ModesCloses': WHATEVER THE INPUT: true; the input reads as it did. -/
def modesClosesSpec : ChangeSpec := { name := "modesCloses", fn := fun _ => fun
  | [d] => { results := [.lit (.bool true)], args := [d] }
  | _ => none }
def modesClosesRow : OpenClaim := { program := "ytjbehefbdfampaa", sum := "34f206abdad5ab2343c99af7800c19c7e7c0f42553ffe043d73c8eee4338ab8d", func := "quillwort/quillwortlaw06.ModesCloses", spec := "modesCloses", inPlace := ["internal/bytealg.IndexByteString", "internal/abi.NoEscape"], unfollowed := true, recurses := true, apart := false }
def ModesClosesSaid : Prop := modesClosesRow.holds Try.pinned (OpenSpec.ofChange modesClosesSpec)

/-- ITS FALSE NEIGHBOUR: 'it returns false'. Refute it at one input. -/
def modesClosesWrong : ChangeSpec := { name := "modesCloses", fn := fun _ => fun
  | [d] => { results := [.lit (.bool false)], args := [d] }
  | _ => none }
def ModesClosesWrongFalsely : Prop := modesClosesRow.holds Try.pinned (OpenSpec.ofChange modesClosesWrong)

/-- 'quillwortlaw06.ModesShow': WHATEVER THE INPUT: true; the input reads as it did. -/
def modesShowSpec : ChangeSpec := { name := "modesShow", fn := fun _ => fun
  | [d] => { results := [.lit (.bool true)], args := [d] }
  | _ => none }
def modesShowRow : OpenClaim := { program := "ytjbehefbdfampaa", sum := "34f206abdad5ab2343c99af7800c19c7e7c0f42553ffe043d73c8eee4338ab8d", func := "quillwort/quillwortlaw06.ModesShow", spec := "modesShow", inPlace := ["internal/bytealg.IndexByteString", "internal/abi.NoEscape"], apart := false }
def ModesShowSaid : Prop := modesShowRow.holds Try.pinned (OpenSpec.ofChange modesShowSpec)

/-- ITS FALSE NEIGHBOUR: 'it returns false'. Refute it at one input. -/
def modesShowWrong : ChangeSpec := { name := "modesShow", fn := fun _ => fun
  | [d] => { results := [.lit (.bool false)], args := [d] }
  | _ => none }
def ModesShowWrongFalsely : Prop := modesShowRow.holds Try.pinned (OpenSpec.ofChange modesShowWrong)

/-- 'quillwortlaw06.ModesInner': WHATEVER THE INPUT: true; the input reads as it did. -/
def modesInnerSpec : ChangeSpec := { name := "modesInner", fn := fun _ => fun
  | [d1, d2] => { results := [.lit (.bool true)], args := [d1, d2] }
  | _ => none }
def modesInnerRow : OpenClaim := { program := "ytjbehefbdfampaa", sum := "34f206abdad5ab2343c99af7800c19c7e7c0f42553ffe043d73c8eee4338ab8d", func := "quillwort/quillwortlaw06.ModesInner", spec := "modesInner", inPlace := ["internal/bytealg.IndexByteString", "internal/abi.NoEscape"], apart := false }
def ModesInnerSaid : Prop := modesInnerRow.holds Try.pinned (OpenSpec.ofChange modesInnerSpec)

/-- ITS FALSE NEIGHBOUR: 'it returns false'. Refute it at one input. -/
def modesInnerWrong : ChangeSpec := { name := "modesInner", fn := fun _ => fun
  | [d1, d2] => { results := [.lit (.bool false)], args := [d1, d2] }
  | _ => none }
def ModesInnerWrongFalsely : Prop := modesInnerRow.holds Try.pinned (OpenSpec.ofChange modesInnerWrong)

/-- 'quillwortlaw06.ModesQuoted': WHATEVER THE INPUT: true; the input reads as it did. -/
def modesQuotedSpec : ChangeSpec := { name := "modesQuoted", fn := fun _ => fun
  | [d1, d2] => { results := [.lit (.bool true)], args := [d1, d2] }
  | _ => none }
def modesQuotedRow : OpenClaim := { program := "ytjbehefbdfampaa", sum := "34f206abdad5ab2343c99af7800c19c7e7c0f42553ffe043d73c8eee4338ab8d", func := "quillwort/quillwortlaw06.ModesQuoted", spec := "modesQuoted", inPlace := ["internal/bytealg.IndexByteString", "internal/abi.NoEscape"], apart := false }
def ModesQuotedSaid : Prop := modesQuotedRow.holds Try.pinned (OpenSpec.ofChange modesQuotedSpec)

/-- ITS FALSE NEIGHBOUR: 'it returns false'. Refute it at one input. -/
def modesQuotedWrong : ChangeSpec := { name := "modesQuoted", fn := fun _ => fun
  | [d1, d2] => { results := [.lit (.bool false)], args := [d1, d2] }
  | _ => none }
def ModesQuotedWrongFalsely : Prop := modesQuotedRow.holds Try.pinned (OpenSpec.ofChange modesQuotedWrong)

/- THE SECOND FORM. 'bulk': how many values and letters a reading holds, each counted each time it is reached (what is shared counts as often as it is met; a slice's spare places count too). A statement '..UptoSaid' is the law's where the arguments, and the package variables that the reading takes, are together of bulk at most 1048576: NARROWER than '..Said'. Prove '..Said' where nothing that the law and all that it calls make is longer than what came in: it says more and counts as full. Else prove '..UptoSaid'. A law counts once. -/
mutual
def uptoBulk {H : Type} : DataW H → Nat
  | .lit (.string bytes) => bytes.length + 1
  | .lit _ => 1
  | .nil => 1
  | .ptr d => uptoBulk d + 1
  | .slice elems spare => uptoBulkAll elems + uptoBulkAll spare + 1
  | .agg parts => uptoBulkAll parts + 1
  | .iface _ d => uptoBulk d + 1
  | .map entries => uptoBulkEntries entries + 1
  | .held _ => 1
def uptoBulkAll {H : Type} : List (DataW H) → Nat
  | [] => 0
  | d :: r => uptoBulk d + uptoBulkAll r
def uptoBulkEntries {H : Type} : List (Lit × DataW H) → Nat
  | [] => 0
  | x :: r => uptoBulkEntry x + uptoBulkEntries r
def uptoBulkEntry {H : Type} : Lit × DataW H → Nat
  | (.string bytes, d) => bytes.length + uptoBulk d + 1
  | (_, d) => uptoBulk d + 1
 end
def uptoSmall : (H : Type) → List (DataW H) → Bool := fun _ ds => decide (uptoBulkAll ds ≤ 1048576)
def OpenSpec.upto (s : _root_.Go.ChangeSpec) : _root_.Go.OpenSpec := { _root_.Go.OpenSpec.ofChange s with cond := some uptoSmall }

/-- 'quillwortlaw06.ModesRun', WHERE WHAT IT READS IS OF BULK AT MOST 1048576: true; the input reads as it did. -/
def modesRunUptoRow : OpenClaim := { program := "ytjbehefbdfampaa", sum := "34f206abdad5ab2343c99af7800c19c7e7c0f42553ffe043d73c8eee4338ab8d", func := "quillwort/quillwortlaw06.ModesRun", spec := "modesRun", inPlace := ["internal/bytealg.IndexByteString", "internal/abi.NoEscape"], apart := false, narrowed := true }
def ModesRunUptoSaid : Prop := modesRunUptoRow.holds Try.pinned (OpenSpec.upto modesRunSpec)

/-- 'quillwortlaw06.ModesAhead', WHERE WHAT IT READS IS OF BULK AT MOST 1048576: true; the input reads as it did. -/
def modesAheadUptoRow : OpenClaim := { program := "ytjbehefbdfampaa", sum := "34f206abdad5ab2343c99af7800c19c7e7c0f42553ffe043d73c8eee4338ab8d", func := "quillwort/quillwortlaw06.ModesAhead", spec := "modesAhead", inPlace := ["internal/bytealg.IndexByteString", "internal/abi.NoEscape"], apart := false, narrowed := true }
def ModesAheadUptoSaid : Prop := modesAheadUptoRow.holds Try.pinned (OpenSpec.upto modesAheadSpec)

/-- 'quillwortlaw06.ModesEnd', WHERE WHAT IT READS IS OF BULK AT MOST 1048576: true; the input reads as it did. -/
def modesEndUptoRow : OpenClaim := { program := "ytjbehefbdfampaa", sum := "34f206abdad5ab2343c99af7800c19c7e7c0f42553ffe043d73c8eee4338ab8d", func := "quillwort/quillwortlaw06.ModesEnd", spec := "modesEnd", inPlace := ["internal/bytealg.IndexByteString", "internal/abi.NoEscape"], apart := false, narrowed := true }
def ModesEndUptoSaid : Prop := modesEndUptoRow.holds Try.pinned (OpenSpec.upto modesEndSpec)

/-- 'quillwortlaw06.ModesCloses', WHERE WHAT IT READS IS OF BULK AT MOST 1048576: true; the input reads as it did. -/
def modesClosesUptoRow : OpenClaim := { program := "ytjbehefbdfampaa", sum := "34f206abdad5ab2343c99af7800c19c7e7c0f42553ffe043d73c8eee4338ab8d", func := "quillwort/quillwortlaw06.ModesCloses", spec := "modesCloses", inPlace := ["internal/bytealg.IndexByteString", "internal/abi.NoEscape"], unfollowed := true, recurses := true, apart := false, narrowed := true }
def ModesClosesUptoSaid : Prop := modesClosesUptoRow.holds Try.pinned (OpenSpec.upto modesClosesSpec)

/-- 'quillwortlaw06.ModesShow', WHERE WHAT IT READS IS OF BULK AT MOST 1048576: true; the input reads as it did. -/
def modesShowUptoRow : OpenClaim := { program := "ytjbehefbdfampaa", sum := "34f206abdad5ab2343c99af7800c19c7e7c0f42553ffe043d73c8eee4338ab8d", func := "quillwort/quillwortlaw06.ModesShow", spec := "modesShow", inPlace := ["internal/bytealg.IndexByteString", "internal/abi.NoEscape"], apart := false, narrowed := true }
def ModesShowUptoSaid : Prop := modesShowUptoRow.holds Try.pinned (OpenSpec.upto modesShowSpec)

/-- 'quillwortlaw06.ModesInner', WHERE WHAT IT READS IS OF BULK AT MOST 1048576: true; the input reads as it did. -/
def modesInnerUptoRow : OpenClaim := { program := "ytjbehefbdfampaa", sum := "34f206abdad5ab2343c99af7800c19c7e7c0f42553ffe043d73c8eee4338ab8d", func := "quillwort/quillwortlaw06.ModesInner", spec := "modesInner", inPlace := ["internal/bytealg.IndexByteString", "internal/abi.NoEscape"], apart := false, narrowed := true }
def ModesInnerUptoSaid : Prop := modesInnerUptoRow.holds Try.pinned (OpenSpec.upto modesInnerSpec)

/-- 'quillwortlaw06.ModesQuoted', WHERE WHAT IT READS IS OF BULK AT MOST 1048576: true; the input reads as it did. -/
def modesQuotedUptoRow : OpenClaim := { program := "ytjbehefbdfampaa", sum := "34f206abdad5ab2343c99af7800c19c7e7c0f42553ffe043d73c8eee4338ab8d", func := "quillwort/quillwortlaw06.ModesQuoted", spec := "modesQuoted", inPlace := ["internal/bytealg.IndexByteString", "internal/abi.NoEscape"], apart := false, narrowed := true }
def ModesQuotedUptoSaid : Prop := modesQuotedUptoRow.holds Try.pinned (OpenSpec.upto modesQuotedSpec)

end Rows
end Go.Proofs.Ytjbehefbdfampaa

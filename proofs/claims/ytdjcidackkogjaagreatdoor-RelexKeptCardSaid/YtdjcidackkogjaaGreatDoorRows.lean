/-
  NARROWER THAN 'FOR EVERY INPUT', by the rows' own cells (each row's printed sentence says how): RelexFollows: laid · RelexKept: laid · RelexAhead: laid · RelexLeaves: laid · RelexHistory: laid · RelexUndone: laid.
  DERIVED. THE GIVEN ROWS OF THIS SEAT. 6 by the template 'for every input the law returns true; each argument reads behind the call as it read before'; 0 by the template 'total and deterministic' (their statements: YtdjcidackkogjaaGreatDoorTotals.lean).
  GIVEN WITH THE SEED: the statements are not yours to turn. If you find one false, say at which input.
  Laid BY PROGRAM, IN A SANDBOX (cutbox-rows.mjs): the forced cells as the released guide's own fill.sh prints them over the translation a50c3d55f4cdf917… (all of the seat's roots in one cut). By AI agents, Wed Nov 11 2026. No macro, syntax, notation, axiom, sorry.
-/
import Derived.Test.YtdjcidackkogjaaGreatDoorChecked
import GoSem.PinnedTables
import GoSem.Claim
import GoSem.ClaimJoined
import GoSem.ClaimMapViews
import Derived.JoinedTies
import Derived.KernelRfl
namespace Go.Proofs.YtdjcidackkogjaaGreatDoor
/- THE CELL 'sum', in the pinned program and in every row, IS THE sha256 OF THE DUMP (.gsa) THAT YtdjcidackkogjaaGreatDoorProg.lean LOADS. Nothing in Lean hashes anything: it is a label: what it is worth is what the hold of that sum in a sandbox is worth. -/
noncomputable def Tryz.pinned : Pinned := { name := "ytdjcidackkogjaagreatdoor", sum := "a50c3d55f4cdf917be5f2254d626865736a7af1051734648841e6aca962e520a", checked := Tryz.checked }
namespace Rows
def none {H : Type} : Left H := { results := [], args := [] }

/- WHAT THE LISTED PACKAGE-LEVEL VARIABLES READ AS WHEN THE CALL BEGINS. Each datum BY PROGRAM (the guide's laid-datum.mjs) off the statement by which the dump's own 'gosem.cut.vars' lays the variable. In a bare row this is a premise. The card (YtdjcidackkogjaaGreatDoorCards.lean) ties it to the program's text. -/
def laid_unicode_utf8_acceptRanges {H : Type} : DataW H := .agg [.agg [.lit (.int .u8 128), .lit (.int .u8 191)], .agg [.lit (.int .u8 160), .lit (.int .u8 191)], .agg [.lit (.int .u8 128), .lit (.int .u8 159)], .agg [.lit (.int .u8 144), .lit (.int .u8 191)], .agg [.lit (.int .u8 128), .lit (.int .u8 143)], .agg [.lit (.int .u8 0), .lit (.int .u8 0)], .agg [.lit (.int .u8 0), .lit (.int .u8 0)], .agg [.lit (.int .u8 0), .lit (.int .u8 0)], .agg [.lit (.int .u8 0), .lit (.int .u8 0)], .agg [.lit (.int .u8 0), .lit (.int .u8 0)], .agg [.lit (.int .u8 0), .lit (.int .u8 0)], .agg [.lit (.int .u8 0), .lit (.int .u8 0)], .agg [.lit (.int .u8 0), .lit (.int .u8 0)], .agg [.lit (.int .u8 0), .lit (.int .u8 0)], .agg [.lit (.int .u8 0), .lit (.int .u8 0)], .agg [.lit (.int .u8 0), .lit (.int .u8 0)]]
def laid_quillwort_oper_texts {H : Type} : DataW H := .agg [.lit (.string []), .lit (.string [38, 38]), .lit (.string [124, 124]), .lit (.string [59, 59]), .lit (.string [60, 60]), .lit (.string [60, 60, 45]), .lit (.string [62, 62]), .lit (.string [60, 38]), .lit (.string [62, 38]), .lit (.string [60, 62]), .lit (.string [62, 124]), .lit (.string [60]), .lit (.string [62]), .lit (.string [38]), .lit (.string [59]), .lit (.string [124]), .lit (.string [40]), .lit (.string [41])]
/-- One of Go's own tables, pinned by name: the form's constant. -/
def laid_unicode_utf8_first : DataW Unit := Go.Pinned.utf8First

/-- 'quillwortlaw10.RelexFollows': WHATEVER THE INPUT: true; the input reads as it did. -/
def relexFollowsSpec : ChangeSpec := { name := "relexFollows", fn := fun _ => fun
  | [d1, d2] => { results := [.lit (.bool true)], args := [d1, d2] }
  | _ => none }
def relexFollowsRow : OpenClaim := { program := "ytdjcidackkogjaagreatdoor", sum := "a50c3d55f4cdf917be5f2254d626865736a7af1051734648841e6aca962e520a", func := "quillwort/quillwortlaw10.RelexFollows", spec := "relexFollows", inPlace := ["internal/bytealg.IndexByteString", "internal/bytealg.IndexString", "internal/abi.NoEscape"], unfollowed := true, recurses := true, named := ["unicode/utf8.first", "unicode/utf8.acceptRanges", "internal/bytealg.MaxLen", "quillwort/oper.texts"], apart := false, laid := [("unicode/utf8.acceptRanges", laid_unicode_utf8_acceptRanges), ("quillwort/oper.texts", laid_quillwort_oper_texts), ("unicode/utf8.first", laid_unicode_utf8_first)] }
def RelexFollowsSaid : Prop := relexFollowsRow.holds Tryz.pinned (OpenSpec.ofChange relexFollowsSpec)

/-- ITS FALSE NEIGHBOUR: 'it returns false'. Refute it at one input. -/
def relexFollowsWrong : ChangeSpec := { name := "relexFollows", fn := fun _ => fun
  | [d1, d2] => { results := [.lit (.bool false)], args := [d1, d2] }
  | _ => none }
def RelexFollowsWrongFalsely : Prop := relexFollowsRow.holds Tryz.pinned (OpenSpec.ofChange relexFollowsWrong)

/-- 'quillwortlaw10.RelexKept': WHATEVER THE INPUT: true; the input reads as it did. -/
def relexKeptSpec : ChangeSpec := { name := "relexKept", fn := fun _ => fun
  | [d1, d2] => { results := [.lit (.bool true)], args := [d1, d2] }
  | _ => none }
def relexKeptRow : OpenClaim := { program := "ytdjcidackkogjaagreatdoor", sum := "a50c3d55f4cdf917be5f2254d626865736a7af1051734648841e6aca962e520a", func := "quillwort/quillwortlaw10.RelexKept", spec := "relexKept", inPlace := ["internal/bytealg.IndexByteString", "internal/bytealg.IndexString", "internal/abi.NoEscape"], unfollowed := true, recurses := true, named := ["unicode/utf8.first", "unicode/utf8.acceptRanges", "internal/bytealg.MaxLen", "quillwort/oper.texts"], apart := false, laid := [("unicode/utf8.acceptRanges", laid_unicode_utf8_acceptRanges), ("quillwort/oper.texts", laid_quillwort_oper_texts), ("unicode/utf8.first", laid_unicode_utf8_first)] }
def RelexKeptSaid : Prop := relexKeptRow.holds Tryz.pinned (OpenSpec.ofChange relexKeptSpec)

/-- ITS FALSE NEIGHBOUR: 'it returns false'. Refute it at one input. -/
def relexKeptWrong : ChangeSpec := { name := "relexKept", fn := fun _ => fun
  | [d1, d2] => { results := [.lit (.bool false)], args := [d1, d2] }
  | _ => none }
def RelexKeptWrongFalsely : Prop := relexKeptRow.holds Tryz.pinned (OpenSpec.ofChange relexKeptWrong)

/-- 'quillwortlaw10.RelexAhead': WHATEVER THE INPUT: true; the input reads as it did. -/
def relexAheadSpec : ChangeSpec := { name := "relexAhead", fn := fun _ => fun
  | [d1, d2, d3] => { results := [.lit (.bool true)], args := [d1, d2, d3] }
  | _ => none }
def relexAheadRow : OpenClaim := { program := "ytdjcidackkogjaagreatdoor", sum := "a50c3d55f4cdf917be5f2254d626865736a7af1051734648841e6aca962e520a", func := "quillwort/quillwortlaw10.RelexAhead", spec := "relexAhead", inPlace := ["internal/bytealg.IndexByteString", "internal/bytealg.IndexString", "internal/abi.NoEscape"], unfollowed := true, recurses := true, named := ["unicode/utf8.first", "unicode/utf8.acceptRanges", "internal/bytealg.MaxLen", "quillwort/oper.texts"], apart := false, laid := [("unicode/utf8.acceptRanges", laid_unicode_utf8_acceptRanges), ("quillwort/oper.texts", laid_quillwort_oper_texts), ("unicode/utf8.first", laid_unicode_utf8_first)] }
def RelexAheadSaid : Prop := relexAheadRow.holds Tryz.pinned (OpenSpec.ofChange relexAheadSpec)

/-- ITS FALSE NEIGHBOUR: 'it returns false'. Refute it at one input. -/
def relexAheadWrong : ChangeSpec := { name := "relexAhead", fn := fun _ => fun
  | [d1, d2, d3] => { results := [.lit (.bool false)], args := [d1, d2, d3] }
  | _ => none }
def RelexAheadWrongFalsely : Prop := relexAheadRow.holds Tryz.pinned (OpenSpec.ofChange relexAheadWrong)

/-- 'quillwortlaw10.RelexLeaves': WHATEVER THE INPUT: true; the input reads as it did. -/
def relexLeavesSpec : ChangeSpec := { name := "relexLeaves", fn := fun _ => fun
  | [d1, d2] => { results := [.lit (.bool true)], args := [d1, d2] }
  | _ => none }
def relexLeavesRow : OpenClaim := { program := "ytdjcidackkogjaagreatdoor", sum := "a50c3d55f4cdf917be5f2254d626865736a7af1051734648841e6aca962e520a", func := "quillwort/quillwortlaw10.RelexLeaves", spec := "relexLeaves", inPlace := ["internal/bytealg.IndexByteString", "internal/bytealg.IndexString", "internal/abi.NoEscape"], unfollowed := true, recurses := true, named := ["unicode/utf8.first", "unicode/utf8.acceptRanges", "internal/bytealg.MaxLen", "quillwort/oper.texts"], apart := false, laid := [("unicode/utf8.acceptRanges", laid_unicode_utf8_acceptRanges), ("quillwort/oper.texts", laid_quillwort_oper_texts), ("unicode/utf8.first", laid_unicode_utf8_first)] }
def RelexLeavesSaid : Prop := relexLeavesRow.holds Tryz.pinned (OpenSpec.ofChange relexLeavesSpec)

/-- ITS FALSE NEIGHBOUR: 'it returns false'. Refute it at one input. -/
def relexLeavesWrong : ChangeSpec := { name := "relexLeaves", fn := fun _ => fun
  | [d1, d2] => { results := [.lit (.bool false)], args := [d1, d2] }
  | _ => none }
def RelexLeavesWrongFalsely : Prop := relexLeavesRow.holds Tryz.pinned (OpenSpec.ofChange relexLeavesWrong)

/-- 'quillwortlaw10.RelexHistory': WHATEVER THE INPUT: true; the input reads as it did. -/
def relexHistorySpec : ChangeSpec := { name := "relexHistory", fn := fun _ => fun
  | [d1, d2] => { results := [.lit (.bool true)], args := [d1, d2] }
  | _ => none }
def relexHistoryRow : OpenClaim := { program := "ytdjcidackkogjaagreatdoor", sum := "a50c3d55f4cdf917be5f2254d626865736a7af1051734648841e6aca962e520a", func := "quillwort/quillwortlaw10.RelexHistory", spec := "relexHistory", inPlace := ["internal/bytealg.IndexByteString", "internal/bytealg.IndexString", "internal/abi.NoEscape"], unfollowed := true, recurses := true, named := ["unicode/utf8.first", "unicode/utf8.acceptRanges", "internal/bytealg.MaxLen", "quillwort/oper.texts"], apart := false, laid := [("unicode/utf8.acceptRanges", laid_unicode_utf8_acceptRanges), ("quillwort/oper.texts", laid_quillwort_oper_texts), ("unicode/utf8.first", laid_unicode_utf8_first)] }
def RelexHistorySaid : Prop := relexHistoryRow.holds Tryz.pinned (OpenSpec.ofChange relexHistorySpec)

/-- ITS FALSE NEIGHBOUR: 'it returns false'. Refute it at one input. -/
def relexHistoryWrong : ChangeSpec := { name := "relexHistory", fn := fun _ => fun
  | [d1, d2] => { results := [.lit (.bool false)], args := [d1, d2] }
  | _ => none }
def RelexHistoryWrongFalsely : Prop := relexHistoryRow.holds Tryz.pinned (OpenSpec.ofChange relexHistoryWrong)

/-- 'quillwortlaw10.RelexUndone': WHATEVER THE INPUT: true; the input reads as it did. -/
def relexUndoneSpec : ChangeSpec := { name := "relexUndone", fn := fun _ => fun
  | [d1, d2] => { results := [.lit (.bool true)], args := [d1, d2] }
  | _ => none }
def relexUndoneRow : OpenClaim := { program := "ytdjcidackkogjaagreatdoor", sum := "a50c3d55f4cdf917be5f2254d626865736a7af1051734648841e6aca962e520a", func := "quillwort/quillwortlaw10.RelexUndone", spec := "relexUndone", inPlace := ["internal/bytealg.IndexByteString", "internal/bytealg.IndexString", "internal/abi.NoEscape"], unfollowed := true, recurses := true, named := ["unicode/utf8.first", "unicode/utf8.acceptRanges", "internal/bytealg.MaxLen", "quillwort/oper.texts"], apart := false, laid := [("unicode/utf8.acceptRanges", laid_unicode_utf8_acceptRanges), ("quillwort/oper.texts", laid_quillwort_oper_texts), ("unicode/utf8.first", laid_unicode_utf8_first)] }
def RelexUndoneSaid : Prop := relexUndoneRow.holds Tryz.pinned (OpenSpec.ofChange relexUndoneSpec)

/-- ITS FALSE NEIGHBOUR: 'it returns false'. Refute it at one input. -/
def relexUndoneWrong : ChangeSpec := { name := "relexUndone", fn := fun _ => fun
  | [d1, d2] => { results := [.lit (.bool false)], args := [d1, d2] }
  | _ => none }
def RelexUndoneWrongFalsely : Prop := relexUndoneRow.holds Tryz.pinned (OpenSpec.ofChange relexUndoneWrong)

/- THE SECOND FORM. 'bulk': how many values and letters a reading holds, each counted each time it is reached (what is shared counts as often as it is met; a slice's spare places count too). A statement '..UptoSaid' is the law's where the arguments, and the package variables that the reading takes, are together of bulk at most 1048576: NARROWER than '..Said'. Prove '..Said' where nothing that the law and all that it calls make is longer than what came in: it says more and counts as full. Else prove '..UptoSaid'. A law counts once. -/
mutual
def uptoBulk {H : Type} : DataW H → Nat
  | .lit (.string bytes) => bytes.length + 1
  | .lit _ => 1
  | .nil => 1
  | .ptr d => uptoBulk d + 1
  | .slice elems spare => uptoBulkAll elems + uptoBulkAll spare + 1
  | .agg parts => uptoBulkAll parts + 1
  | .iface _ d => uptoBulk d + 1
  | .map entries => uptoBulkEntries entries + 1
  | .held _ => 1
def uptoBulkAll {H : Type} : List (DataW H) → Nat
  | [] => 0
  | d :: r => uptoBulk d + uptoBulkAll r
def uptoBulkEntries {H : Type} : List (Lit × DataW H) → Nat
  | [] => 0
  | x :: r => uptoBulkEntry x + uptoBulkEntries r
def uptoBulkEntry {H : Type} : Lit × DataW H → Nat
  | (.string bytes, d) => bytes.length + uptoBulk d + 1
  | (_, d) => uptoBulk d + 1
 end
def uptoSmall : (H : Type) → List (DataW H) → Bool := fun _ ds => decide (uptoBulkAll ds ≤ 1048576)
def OpenSpec.upto (s : _root_.Go.ChangeSpec) : _root_.Go.OpenSpec := { _root_.Go.OpenSpec.ofChange s with cond := some uptoSmall }

/-- 'quillwortlaw10.RelexFollows', WHERE WHAT IT READS IS OF BULK AT MOST 1048576: true; the input reads as it did. -/
def relexFollowsUptoRow : OpenClaim := { program := "ytdjcidackkogjaagreatdoor", sum := "a50c3d55f4cdf917be5f2254d626865736a7af1051734648841e6aca962e520a", func := "quillwort/quillwortlaw10.RelexFollows", spec := "relexFollows", inPlace := ["internal/bytealg.IndexByteString", "internal/bytealg.IndexString", "internal/abi.NoEscape"], unfollowed := true, recurses := true, named := ["unicode/utf8.first", "unicode/utf8.acceptRanges", "internal/bytealg.MaxLen", "quillwort/oper.texts"], apart := false, laid := [("unicode/utf8.acceptRanges", laid_unicode_utf8_acceptRanges), ("quillwort/oper.texts", laid_quillwort_oper_texts), ("unicode/utf8.first", laid_unicode_utf8_first)], narrowed := true }
def RelexFollowsUptoSaid : Prop := relexFollowsUptoRow.holds Tryz.pinned (OpenSpec.upto relexFollowsSpec)

/-- 'quillwortlaw10.RelexKept', WHERE WHAT IT READS IS OF BULK AT MOST 1048576: true; the input reads as it did. -/
def relexKeptUptoRow : OpenClaim := { program := "ytdjcidackkogjaagreatdoor", sum := "a50c3d55f4cdf917be5f2254d626865736a7af1051734648841e6aca962e520a", func := "quillwort/quillwortlaw10.RelexKept", spec := "relexKept", inPlace := ["internal/bytealg.IndexByteString", "internal/bytealg.IndexString", "internal/abi.NoEscape"], unfollowed := true, recurses := true, named := ["unicode/utf8.first", "unicode/utf8.acceptRanges", "internal/bytealg.MaxLen", "quillwort/oper.texts"], apart := false, laid := [("unicode/utf8.acceptRanges", laid_unicode_utf8_acceptRanges), ("quillwort/oper.texts", laid_quillwort_oper_texts), ("unicode/utf8.first", laid_unicode_utf8_first)], narrowed := true }
def RelexKeptUptoSaid : Prop := relexKeptUptoRow.holds Tryz.pinned (OpenSpec.upto relexKeptSpec)

/-- 'quillwortlaw10.RelexAhead', WHERE WHAT IT READS IS OF BULK AT MOST 1048576: true; the input reads as it did. -/
def relexAheadUptoRow : OpenClaim := { program := "ytdjcidackkogjaagreatdoor", sum := "a50c3d55f4cdf917be5f2254d626865736a7af1051734648841e6aca962e520a", func := "quillwort/quillwortlaw10.RelexAhead", spec := "relexAhead", inPlace := ["internal/bytealg.IndexByteString", "internal/bytealg.IndexString", "internal/abi.NoEscape"], unfollowed := true, recurses := true, named := ["unicode/utf8.first", "unicode/utf8.acceptRanges", "internal/bytealg.MaxLen", "quillwort/oper.texts"], apart := false, laid := [("unicode/utf8.acceptRanges", laid_unicode_utf8_acceptRanges), ("quillwort/oper.texts", laid_quillwort_oper_texts), ("unicode/utf8.first", laid_unicode_utf8_first)], narrowed := true }
def RelexAheadUptoSaid : Prop := relexAheadUptoRow.holds Tryz.pinned (OpenSpec.upto relexAheadSpec)

/-- 'quillwortlaw10.RelexLeaves', WHERE WHAT IT READS IS OF BULK AT MOST 1048576: true; the input reads as it did. -/
def relexLeavesUptoRow : OpenClaim := { program := "ytdjcidackkogjaagreatdoor", sum := "a50c3d55f4cdf917be5f2254d626865736a7af1051734648841e6aca962e520a", func := "quillwort/quillwortlaw10.RelexLeaves", spec := "relexLeaves", inPlace := ["internal/bytealg.IndexByteString", "internal/bytealg.IndexString", "internal/abi.NoEscape"], unfollowed := true, recurses := true, named := ["unicode/utf8.first", "unicode/utf8.acceptRanges", "internal/bytealg.MaxLen", "quillwort/oper.texts"], apart := false, laid := [("unicode/utf8.acceptRanges", laid_unicode_utf8_acceptRanges), ("quillwort/oper.texts", laid_quillwort_oper_texts), ("unicode/utf8.first", laid_unicode_utf8_first)], narrowed := true }
def RelexLeavesUptoSaid : Prop := relexLeavesUptoRow.holds Tryz.pinned (OpenSpec.upto relexLeavesSpec)

/-- 'quillwortlaw10.RelexHistory', WHERE WHAT IT READS IS OF BULK AT MOST 1048576: true; the input reads as it did. -/
def relexHistoryUptoRow : OpenClaim := { program := "ytdjcidackkogjaagreatdoor", sum := "a50c3d55f4cdf917be5f2254d626865736a7af1051734648841e6aca962e520a", func := "quillwort/quillwortlaw10.RelexHistory", spec := "relexHistory", inPlace := ["internal/bytealg.IndexByteString", "internal/bytealg.IndexString", "internal/abi.NoEscape"], unfollowed := true, recurses := true, named := ["unicode/utf8.first", "unicode/utf8.acceptRanges", "internal/bytealg.MaxLen", "quillwort/oper.texts"], apart := false, laid := [("unicode/utf8.acceptRanges", laid_unicode_utf8_acceptRanges), ("quillwort/oper.texts", laid_quillwort_oper_texts), ("unicode/utf8.first", laid_unicode_utf8_first)], narrowed := true }
def RelexHistoryUptoSaid : Prop := relexHistoryUptoRow.holds Tryz.pinned (OpenSpec.upto relexHistorySpec)

/-- 'quillwortlaw10.RelexUndone', WHERE WHAT IT READS IS OF BULK AT MOST 1048576: true; the input reads as it did. -/
def relexUndoneUptoRow : OpenClaim := { program := "ytdjcidackkogjaagreatdoor", sum := "a50c3d55f4cdf917be5f2254d626865736a7af1051734648841e6aca962e520a", func := "quillwort/quillwortlaw10.RelexUndone", spec := "relexUndone", inPlace := ["internal/bytealg.IndexByteString", "internal/bytealg.IndexString", "internal/abi.NoEscape"], unfollowed := true, recurses := true, named := ["unicode/utf8.first", "unicode/utf8.acceptRanges", "internal/bytealg.MaxLen", "quillwort/oper.texts"], apart := false, laid := [("unicode/utf8.acceptRanges", laid_unicode_utf8_acceptRanges), ("quillwort/oper.texts", laid_quillwort_oper_texts), ("unicode/utf8.first", laid_unicode_utf8_first)], narrowed := true }
def RelexUndoneUptoSaid : Prop := relexUndoneUptoRow.holds Tryz.pinned (OpenSpec.upto relexUndoneSpec)

end Rows
end Go.Proofs.YtdjcidackkogjaaGreatDoor

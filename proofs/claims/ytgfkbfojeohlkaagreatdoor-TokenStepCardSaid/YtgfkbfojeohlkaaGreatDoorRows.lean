/-
  NARROWER THAN 'FOR EVERY INPUT', by the rows' own cells (each row's printed sentence says how): TokenLex: laid · TokenTile: laid · TokenStep: laid · TokenAhead: laid · TokenLeaves: laid · TokenRaw: laid · TokenHere: laid · TokenSame: laid · RelexFollows: laid · RelexKept: laid · RelexAhead: laid · RelexLeaves: laid · RelexHistory: laid · RelexUndone: laid.
  DERIVED. THE GIVEN ROWS OF THIS SEAT. 14 by the template 'for every input the law returns true; each argument reads behind the call as it read before'; 0 by the template 'total and deterministic' (their statements: YtgfkbfojeohlkaaGreatDoorTotals.lean).
  GIVEN WITH THE SEED: the statements are not yours to turn. If you find one false, say at which input.
  Laid BY PROGRAM, IN A SANDBOX (cutbox-rows.mjs): the forced cells as the released guide's own fill.sh prints them over the translation fbb6b8511de19017… (all of the seat's roots in one cut). By AI agents, Wed Nov 11 2026. No macro, syntax, notation, axiom, sorry.
-/
import Derived.Test.YtgfkbfojeohlkaaGreatDoorChecked
import GoSem.PinnedTables
import GoSem.Claim
import GoSem.ClaimJoined
import GoSem.ClaimMapViews
import Derived.JoinedTies
import Derived.KernelRfl
namespace Go.Proofs.YtgfkbfojeohlkaaGreatDoor
/- THE CELL 'sum', in the pinned program and in every row, IS THE sha256 OF THE DUMP (.gsa) THAT YtgfkbfojeohlkaaGreatDoorProg.lean LOADS. Nothing in Lean hashes anything: it is a label: what it is worth is what the hold of that sum in a sandbox is worth. -/
noncomputable def Tryz.pinned : Pinned := { name := "ytgfkbfojeohlkaagreatdoor", sum := "fbb6b8511de19017e91035a08ef1bd5d52694b5d8657c88fe3709e86fefc5cdd", checked := Tryz.checked }
namespace Rows
def none {H : Type} : Left H := { results := [], args := [] }

/- WHAT THE LISTED PACKAGE-LEVEL VARIABLES READ AS WHEN THE CALL BEGINS. Each datum BY PROGRAM (the guide's laid-datum.mjs) off the statement by which the dump's own 'gosem.cut.vars' lays the variable. In a bare row this is a premise. The card (YtgfkbfojeohlkaaGreatDoorCards.lean) ties it to the program's text. -/
def laid_unicode_utf8_acceptRanges {H : Type} : DataW H := .agg [.agg [.lit (.int .u8 128), .lit (.int .u8 191)], .agg [.lit (.int .u8 160), .lit (.int .u8 191)], .agg [.lit (.int .u8 128), .lit (.int .u8 159)], .agg [.lit (.int .u8 144), .lit (.int .u8 191)], .agg [.lit (.int .u8 128), .lit (.int .u8 143)], .agg [.lit (.int .u8 0), .lit (.int .u8 0)], .agg [.lit (.int .u8 0), .lit (.int .u8 0)], .agg [.lit (.int .u8 0), .lit (.int .u8 0)], .agg [.lit (.int .u8 0), .lit (.int .u8 0)], .agg [.lit (.int .u8 0), .lit (.int .u8 0)], .agg [.lit (.int .u8 0), .lit (.int .u8 0)], .agg [.lit (.int .u8 0), .lit (.int .u8 0)], .agg [.lit (.int .u8 0), .lit (.int .u8 0)], .agg [.lit (.int .u8 0), .lit (.int .u8 0)], .agg [.lit (.int .u8 0), .lit (.int .u8 0)], .agg [.lit (.int .u8 0), .lit (.int .u8 0)]]
def laid_quillwort_oper_texts {H : Type} : DataW H := .agg [.lit (.string []), .lit (.string [38, 38]), .lit (.string [124, 124]), .lit (.string [59, 59]), .lit (.string [60, 60]), .lit (.string [60, 60, 45]), .lit (.string [62, 62]), .lit (.string [60, 38]), .lit (.string [62, 38]), .lit (.string [60, 62]), .lit (.string [62, 124]), .lit (.string [60]), .lit (.string [62]), .lit (.string [38]), .lit (.string [59]), .lit (.string [124]), .lit (.string [40]), .lit (.string [41])]
/-- One of Go's own tables, pinned by name: the form's constant. -/
def laid_unicode_utf8_first : DataW Unit := Go.Pinned.utf8First

/-- 'quillwortlaw09.TokenLex': WHATEVER THE INPUT: true; the input reads as it did. -/
def tokenLexSpec : ChangeSpec := { name := "tokenLex", fn := fun _ => fun
  | [d] => { results := [.lit (.bool true)], args := [d] }
  | _ => none }
def tokenLexRow : OpenClaim := { program := "ytgfkbfojeohlkaagreatdoor", sum := "fbb6b8511de19017e91035a08ef1bd5d52694b5d8657c88fe3709e86fefc5cdd", func := "quillwort/quillwortlaw09.TokenLex", spec := "tokenLex", inPlace := ["internal/bytealg.IndexByteString", "internal/bytealg.IndexString", "internal/abi.NoEscape"], unfollowed := true, recurses := true, named := ["unicode/utf8.first", "unicode/utf8.acceptRanges", "internal/bytealg.MaxLen", "quillwort/oper.texts"], apart := false, laid := [("unicode/utf8.acceptRanges", laid_unicode_utf8_acceptRanges), ("quillwort/oper.texts", laid_quillwort_oper_texts), ("unicode/utf8.first", laid_unicode_utf8_first)] }
def TokenLexSaid : Prop := tokenLexRow.holds Tryz.pinned (OpenSpec.ofChange tokenLexSpec)

/-- ITS FALSE NEIGHBOUR: 'it returns false'. Refute it at one input. -/
def tokenLexWrong : ChangeSpec := { name := "tokenLex", fn := fun _ => fun
  | [d] => { results := [.lit (.bool false)], args := [d] }
  | _ => none }
def TokenLexWrongFalsely : Prop := tokenLexRow.holds Tryz.pinned (OpenSpec.ofChange tokenLexWrong)

/-- 'quillwortlaw09.TokenTile': WHATEVER THE INPUT: true; the input reads as it did. -/
def tokenTileSpec : ChangeSpec := { name := "tokenTile", fn := fun _ => fun
  | [d] => { results := [.lit (.bool true)], args := [d] }
  | _ => none }
def tokenTileRow : OpenClaim := { program := "ytgfkbfojeohlkaagreatdoor", sum := "fbb6b8511de19017e91035a08ef1bd5d52694b5d8657c88fe3709e86fefc5cdd", func := "quillwort/quillwortlaw09.TokenTile", spec := "tokenTile", inPlace := ["internal/bytealg.IndexByteString", "internal/bytealg.IndexString", "internal/abi.NoEscape"], unfollowed := true, recurses := true, named := ["unicode/utf8.first", "unicode/utf8.acceptRanges", "internal/bytealg.MaxLen", "quillwort/oper.texts"], apart := false, laid := [("unicode/utf8.acceptRanges", laid_unicode_utf8_acceptRanges), ("quillwort/oper.texts", laid_quillwort_oper_texts), ("unicode/utf8.first", laid_unicode_utf8_first)] }
def TokenTileSaid : Prop := tokenTileRow.holds Tryz.pinned (OpenSpec.ofChange tokenTileSpec)

/-- ITS FALSE NEIGHBOUR: 'it returns false'. Refute it at one input. -/
def tokenTileWrong : ChangeSpec := { name := "tokenTile", fn := fun _ => fun
  | [d] => { results := [.lit (.bool false)], args := [d] }
  | _ => none }
def TokenTileWrongFalsely : Prop := tokenTileRow.holds Tryz.pinned (OpenSpec.ofChange tokenTileWrong)

/-- 'quillwortlaw09.TokenStep': WHATEVER THE INPUT: true; the input reads as it did. -/
def tokenStepSpec : ChangeSpec := { name := "tokenStep", fn := fun _ => fun
  | [d1, d2] => { results := [.lit (.bool true)], args := [d1, d2] }
  | _ => none }
def tokenStepRow : OpenClaim := { program := "ytgfkbfojeohlkaagreatdoor", sum := "fbb6b8511de19017e91035a08ef1bd5d52694b5d8657c88fe3709e86fefc5cdd", func := "quillwort/quillwortlaw09.TokenStep", spec := "tokenStep", inPlace := ["internal/bytealg.IndexByteString", "internal/bytealg.IndexString", "internal/abi.NoEscape"], unfollowed := true, recurses := true, named := ["unicode/utf8.first", "unicode/utf8.acceptRanges", "internal/bytealg.MaxLen", "quillwort/oper.texts"], apart := false, laid := [("unicode/utf8.acceptRanges", laid_unicode_utf8_acceptRanges), ("quillwort/oper.texts", laid_quillwort_oper_texts), ("unicode/utf8.first", laid_unicode_utf8_first)] }
def TokenStepSaid : Prop := tokenStepRow.holds Tryz.pinned (OpenSpec.ofChange tokenStepSpec)

/-- ITS FALSE NEIGHBOUR: 'it returns false'. Refute it at one input. -/
def tokenStepWrong : ChangeSpec := { name := "tokenStep", fn := fun _ => fun
  | [d1, d2] => { results := [.lit (.bool false)], args := [d1, d2] }
  | _ => none }
def TokenStepWrongFalsely : Prop := tokenStepRow.holds Tryz.pinned (OpenSpec.ofChange tokenStepWrong)

/-- 'quillwortlaw09.TokenAhead': WHATEVER THE INPUT: true; the input reads as it did. -/
def tokenAheadSpec : ChangeSpec := { name := "tokenAhead", fn := fun _ => fun
  | [d1, d2, d3] => { results := [.lit (.bool true)], args := [d1, d2, d3] }
  | _ => none }
def tokenAheadRow : OpenClaim := { program := "ytgfkbfojeohlkaagreatdoor", sum := "fbb6b8511de19017e91035a08ef1bd5d52694b5d8657c88fe3709e86fefc5cdd", func := "quillwort/quillwortlaw09.TokenAhead", spec := "tokenAhead", inPlace := ["internal/bytealg.IndexByteString", "internal/bytealg.IndexString", "internal/abi.NoEscape"], unfollowed := true, recurses := true, named := ["unicode/utf8.first", "unicode/utf8.acceptRanges", "internal/bytealg.MaxLen", "quillwort/oper.texts"], apart := false, laid := [("unicode/utf8.acceptRanges", laid_unicode_utf8_acceptRanges), ("quillwort/oper.texts", laid_quillwort_oper_texts), ("unicode/utf8.first", laid_unicode_utf8_first)] }
def TokenAheadSaid : Prop := tokenAheadRow.holds Tryz.pinned (OpenSpec.ofChange tokenAheadSpec)

/-- ITS FALSE NEIGHBOUR: 'it returns false'. Refute it at one input. -/
def tokenAheadWrong : ChangeSpec := { name := "tokenAhead", fn := fun _ => fun
  | [d1, d2, d3] => { results := [.lit (.bool false)], args := [d1, d2, d3] }
  | _ => none }
def TokenAheadWrongFalsely : Prop := tokenAheadRow.holds Tryz.pinned (OpenSpec.ofChange tokenAheadWrong)

/-- 'quillwortlaw09.TokenLeaves': WHATEVER THE INPUT: true; the input reads as it did. -/
def tokenLeavesSpec : ChangeSpec := { name := "tokenLeaves", fn := fun _ => fun
  | [d] => { results := [.lit (.bool true)], args := [d] }
  | _ => none }
def tokenLeavesRow : OpenClaim := { program := "ytgfkbfojeohlkaagreatdoor", sum := "fbb6b8511de19017e91035a08ef1bd5d52694b5d8657c88fe3709e86fefc5cdd", func := "quillwort/quillwortlaw09.TokenLeaves", spec := "tokenLeaves", inPlace := ["internal/bytealg.IndexByteString", "internal/bytealg.IndexString", "internal/abi.NoEscape"], unfollowed := true, recurses := true, named := ["unicode/utf8.first", "unicode/utf8.acceptRanges", "internal/bytealg.MaxLen", "quillwort/oper.texts"], apart := false, laid := [("unicode/utf8.acceptRanges", laid_unicode_utf8_acceptRanges), ("quillwort/oper.texts", laid_quillwort_oper_texts), ("unicode/utf8.first", laid_unicode_utf8_first)] }
def TokenLeavesSaid : Prop := tokenLeavesRow.holds Tryz.pinned (OpenSpec.ofChange tokenLeavesSpec)

/-- ITS FALSE NEIGHBOUR: 'it returns false'. Refute it at one input. -/
def tokenLeavesWrong : ChangeSpec := { name := "tokenLeaves", fn := fun _ => fun
  | [d] => { results := [.lit (.bool false)], args := [d] }
  | _ => none }
def TokenLeavesWrongFalsely : Prop := tokenLeavesRow.holds Tryz.pinned (OpenSpec.ofChange tokenLeavesWrong)

/-- 'quillwortlaw09.TokenRaw': WHATEVER THE INPUT: true; the input reads as it did. -/
def tokenRawSpec : ChangeSpec := { name := "tokenRaw", fn := fun _ => fun
  | [d1, d2, d3] => { results := [.lit (.bool true)], args := [d1, d2, d3] }
  | _ => none }
def tokenRawRow : OpenClaim := { program := "ytgfkbfojeohlkaagreatdoor", sum := "fbb6b8511de19017e91035a08ef1bd5d52694b5d8657c88fe3709e86fefc5cdd", func := "quillwort/quillwortlaw09.TokenRaw", spec := "tokenRaw", inPlace := ["internal/bytealg.IndexByteString", "internal/bytealg.IndexString", "internal/abi.NoEscape"], unfollowed := true, recurses := true, named := ["unicode/utf8.first", "unicode/utf8.acceptRanges", "internal/bytealg.MaxLen", "quillwort/oper.texts"], apart := false, laid := [("unicode/utf8.acceptRanges", laid_unicode_utf8_acceptRanges), ("quillwort/oper.texts", laid_quillwort_oper_texts), ("unicode/utf8.first", laid_unicode_utf8_first)] }
def TokenRawSaid : Prop := tokenRawRow.holds Tryz.pinned (OpenSpec.ofChange tokenRawSpec)

/-- ITS FALSE NEIGHBOUR: 'it returns false'. Refute it at one input. -/
def tokenRawWrong : ChangeSpec := { name := "tokenRaw", fn := fun _ => fun
  | [d1, d2, d3] => { results := [.lit (.bool false)], args := [d1, d2, d3] }
  | _ => none }
def TokenRawWrongFalsely : Prop := tokenRawRow.holds Tryz.pinned (OpenSpec.ofChange tokenRawWrong)

/-- 'quillwortlaw09.TokenHere': WHATEVER THE INPUT: true; the input reads as it did. -/
def tokenHereSpec : ChangeSpec := { name := "tokenHere", fn := fun _ => fun
  | [d1, d2, d3, d4] => { results := [.lit (.bool true)], args := [d1, d2, d3, d4] }
  | _ => none }
def tokenHereRow : OpenClaim := { program := "ytgfkbfojeohlkaagreatdoor", sum := "fbb6b8511de19017e91035a08ef1bd5d52694b5d8657c88fe3709e86fefc5cdd", func := "quillwort/quillwortlaw09.TokenHere", spec := "tokenHere", inPlace := ["internal/bytealg.IndexByteString", "internal/bytealg.IndexString", "internal/abi.NoEscape"], unfollowed := true, recurses := true, named := ["unicode/utf8.first", "unicode/utf8.acceptRanges", "internal/bytealg.MaxLen", "quillwort/oper.texts"], apart := false, laid := [("unicode/utf8.acceptRanges", laid_unicode_utf8_acceptRanges), ("quillwort/oper.texts", laid_quillwort_oper_texts), ("unicode/utf8.first", laid_unicode_utf8_first)] }
def TokenHereSaid : Prop := tokenHereRow.holds Tryz.pinned (OpenSpec.ofChange tokenHereSpec)

/-- ITS FALSE NEIGHBOUR: 'it returns false'. Refute it at one input. -/
def tokenHereWrong : ChangeSpec := { name := "tokenHere", fn := fun _ => fun
  | [d1, d2, d3, d4] => { results := [.lit (.bool false)], args := [d1, d2, d3, d4] }
  | _ => none }
def TokenHereWrongFalsely : Prop := tokenHereRow.holds Tryz.pinned (OpenSpec.ofChange tokenHereWrong)

/-- 'quillwortlaw09.TokenSame': WHATEVER THE INPUT: true; the input reads as it did. -/
def tokenSameSpec : ChangeSpec := { name := "tokenSame", fn := fun _ => fun
  | [d1, d2] => { results := [.lit (.bool true)], args := [d1, d2] }
  | _ => none }
def tokenSameRow : OpenClaim := { program := "ytgfkbfojeohlkaagreatdoor", sum := "fbb6b8511de19017e91035a08ef1bd5d52694b5d8657c88fe3709e86fefc5cdd", func := "quillwort/quillwortlaw09.TokenSame", spec := "tokenSame", inPlace := ["internal/bytealg.IndexByteString", "internal/bytealg.IndexString", "internal/abi.NoEscape"], unfollowed := true, recurses := true, named := ["unicode/utf8.first", "unicode/utf8.acceptRanges", "internal/bytealg.MaxLen", "quillwort/oper.texts"], apart := false, laid := [("unicode/utf8.acceptRanges", laid_unicode_utf8_acceptRanges), ("quillwort/oper.texts", laid_quillwort_oper_texts), ("unicode/utf8.first", laid_unicode_utf8_first)] }
def TokenSameSaid : Prop := tokenSameRow.holds Tryz.pinned (OpenSpec.ofChange tokenSameSpec)

/-- ITS FALSE NEIGHBOUR: 'it returns false'. Refute it at one input. -/
def tokenSameWrong : ChangeSpec := { name := "tokenSame", fn := fun _ => fun
  | [d1, d2] => { results := [.lit (.bool false)], args := [d1, d2] }
  | _ => none }
def TokenSameWrongFalsely : Prop := tokenSameRow.holds Tryz.pinned (OpenSpec.ofChange tokenSameWrong)

/-- 'quillwortlaw10.RelexFollows': WHATEVER THE INPUT: true; the input reads as it did. -/
def relexFollowsSpec : ChangeSpec := { name := "relexFollows", fn := fun _ => fun
  | [d1, d2] => { results := [.lit (.bool true)], args := [d1, d2] }
  | _ => none }
def relexFollowsRow : OpenClaim := { program := "ytgfkbfojeohlkaagreatdoor", sum := "fbb6b8511de19017e91035a08ef1bd5d52694b5d8657c88fe3709e86fefc5cdd", func := "quillwort/quillwortlaw10.RelexFollows", spec := "relexFollows", inPlace := ["internal/bytealg.IndexByteString", "internal/bytealg.IndexString", "internal/abi.NoEscape"], unfollowed := true, recurses := true, named := ["unicode/utf8.first", "unicode/utf8.acceptRanges", "internal/bytealg.MaxLen", "quillwort/oper.texts"], apart := false, laid := [("unicode/utf8.acceptRanges", laid_unicode_utf8_acceptRanges), ("quillwort/oper.texts", laid_quillwort_oper_texts), ("unicode/utf8.first", laid_unicode_utf8_first)] }
def RelexFollowsSaid : Prop := relexFollowsRow.holds Tryz.pinned (OpenSpec.ofChange relexFollowsSpec)

/-- ITS FALSE NEIGHBOUR: 'it returns false'. Refute it at one input. -/
def relexFollowsWrong : ChangeSpec := { name := "relexFollows", fn := fun _ => fun
  | [d1, d2] => { results := [.lit (.bool false)], args := [d1, d2] }
  | _ => none }
def RelexFollowsWrongFalsely : Prop := relexFollowsRow.holds Tryz.pinned (OpenSpec.ofChange relexFollowsWrong)

/-- 'quillwortlaw10.RelexKept': WHATEVER THE INPUT: true; the input reads as it did. -/
def relexKeptSpec : ChangeSpec := { name := "relexKept", fn := fun _ => fun
  | [d1, d2] => { results := [.lit (.bool true)], args := [d1, d2] }
  | _ => none }
def relexKeptRow : OpenClaim := { program := "ytgfkbfojeohlkaagreatdoor", sum := "fbb6b8511de19017e91035a08ef1bd5d52694b5d8657c88fe3709e86fefc5cdd", func := "quillwort/quillwortlaw10.RelexKept", spec := "relexKept", inPlace := ["internal/bytealg.IndexByteString", "internal/bytealg.IndexString", "internal/abi.NoEscape"], unfollowed := true, recurses := true, named := ["unicode/utf8.first", "unicode/utf8.acceptRanges", "internal/bytealg.MaxLen", "quillwort/oper.texts"], apart := false, laid := [("unicode/utf8.acceptRanges", laid_unicode_utf8_acceptRanges), ("quillwort/oper.texts", laid_quillwort_oper_texts), ("unicode/utf8.first", laid_unicode_utf8_first)] }
def RelexKeptSaid : Prop := relexKeptRow.holds Tryz.pinned (OpenSpec.ofChange relexKeptSpec)

/-- ITS FALSE NEIGHBOUR: 'it returns false'. Refute it at one input. -/
def relexKeptWrong : ChangeSpec := { name := "relexKept", fn := fun _ => fun
  | [d1, d2] => { results := [.lit (.bool false)], args := [d1, d2] }
  | _ => none }
def RelexKeptWrongFalsely : Prop := relexKeptRow.holds Tryz.pinned (OpenSpec.ofChange relexKeptWrong)

/-- 'quillwortlaw10.RelexAhead': WHATEVER THE INPUT: true; the input reads as it did. -/
def relexAheadSpec : ChangeSpec := { name := "relexAhead", fn := fun _ => fun
  | [d1, d2, d3] => { results := [.lit (.bool true)], args := [d1, d2, d3] }
  | _ => none }
def relexAheadRow : OpenClaim := { program := "ytgfkbfojeohlkaagreatdoor", sum := "fbb6b8511de19017e91035a08ef1bd5d52694b5d8657c88fe3709e86fefc5cdd", func := "quillwort/quillwortlaw10.RelexAhead", spec := "relexAhead", inPlace := ["internal/bytealg.IndexByteString", "internal/bytealg.IndexString", "internal/abi.NoEscape"], unfollowed := true, recurses := true, named := ["unicode/utf8.first", "unicode/utf8.acceptRanges", "internal/bytealg.MaxLen", "quillwort/oper.texts"], apart := false, laid := [("unicode/utf8.acceptRanges", laid_unicode_utf8_acceptRanges), ("quillwort/oper.texts", laid_quillwort_oper_texts), ("unicode/utf8.first", laid_unicode_utf8_first)] }
def RelexAheadSaid : Prop := relexAheadRow.holds Tryz.pinned (OpenSpec.ofChange relexAheadSpec)

/-- ITS FALSE NEIGHBOUR: 'it returns false'. Refute it at one input. -/
def relexAheadWrong : ChangeSpec := { name := "relexAhead", fn := fun _ => fun
  | [d1, d2, d3] => { results := [.lit (.bool false)], args := [d1, d2, d3] }
  | _ => none }
def RelexAheadWrongFalsely : Prop := relexAheadRow.holds Tryz.pinned (OpenSpec.ofChange relexAheadWrong)

/-- 'quillwortlaw10.RelexLeaves': WHATEVER THE INPUT: true; the input reads as it did. -/
def relexLeavesSpec : ChangeSpec := { name := "relexLeaves", fn := fun _ => fun
  | [d1, d2] => { results := [.lit (.bool true)], args := [d1, d2] }
  | _ => none }
def relexLeavesRow : OpenClaim := { program := "ytgfkbfojeohlkaagreatdoor", sum := "fbb6b8511de19017e91035a08ef1bd5d52694b5d8657c88fe3709e86fefc5cdd", func := "quillwort/quillwortlaw10.RelexLeaves", spec := "relexLeaves", inPlace := ["internal/bytealg.IndexByteString", "internal/bytealg.IndexString", "internal/abi.NoEscape"], unfollowed := true, recurses := true, named := ["unicode/utf8.first", "unicode/utf8.acceptRanges", "internal/bytealg.MaxLen", "quillwort/oper.texts"], apart := false, laid := [("unicode/utf8.acceptRanges", laid_unicode_utf8_acceptRanges), ("quillwort/oper.texts", laid_quillwort_oper_texts), ("unicode/utf8.first", laid_unicode_utf8_first)] }
def RelexLeavesSaid : Prop := relexLeavesRow.holds Tryz.pinned (OpenSpec.ofChange relexLeavesSpec)

/-- ITS FALSE NEIGHBOUR: 'it returns false'. Refute it at one input. -/
def relexLeavesWrong : ChangeSpec := { name := "relexLeaves", fn := fun _ => fun
  | [d1, d2] => { results := [.lit (.bool false)], args := [d1, d2] }
  | _ => none }
def RelexLeavesWrongFalsely : Prop := relexLeavesRow.holds Tryz.pinned (OpenSpec.ofChange relexLeavesWrong)

/-- 'quillwortlaw10.RelexHistory': WHATEVER THE INPUT: true; the input reads as it did. -/
def relexHistorySpec : ChangeSpec := { name := "relexHistory", fn := fun _ => fun
  | [d1, d2] => { results := [.lit (.bool true)], args := [d1, d2] }
  | _ => none }
def relexHistoryRow : OpenClaim := { program := "ytgfkbfojeohlkaagreatdoor", sum := "fbb6b8511de19017e91035a08ef1bd5d52694b5d8657c88fe3709e86fefc5cdd", func := "quillwort/quillwortlaw10.RelexHistory", spec := "relexHistory", inPlace := ["internal/bytealg.IndexByteString", "internal/bytealg.IndexString", "internal/abi.NoEscape"], unfollowed := true, recurses := true, named := ["unicode/utf8.first", "unicode/utf8.acceptRanges", "internal/bytealg.MaxLen", "quillwort/oper.texts"], apart := false, laid := [("unicode/utf8.acceptRanges", laid_unicode_utf8_acceptRanges), ("quillwort/oper.texts", laid_quillwort_oper_texts), ("unicode/utf8.first", laid_unicode_utf8_first)] }
def RelexHistorySaid : Prop := relexHistoryRow.holds Tryz.pinned (OpenSpec.ofChange relexHistorySpec)

/-- ITS FALSE NEIGHBOUR: 'it returns false'. Refute it at one input. -/
def relexHistoryWrong : ChangeSpec := { name := "relexHistory", fn := fun _ => fun
  | [d1, d2] => { results := [.lit (.bool false)], args := [d1, d2] }
  | _ => none }
def RelexHistoryWrongFalsely : Prop := relexHistoryRow.holds Tryz.pinned (OpenSpec.ofChange relexHistoryWrong)

/-- 'quillwortlaw10.RelexUndone': WHATEVER THE INPUT: true; the input reads as it did. -/
def relexUndoneSpec : ChangeSpec := { name := "relexUndone", fn := fun _ => fun
  | [d1, d2] => { results := [.lit (.bool true)], args := [d1, d2] }
  | _ => none }
def relexUndoneRow : OpenClaim := { program := "ytgfkbfojeohlkaagreatdoor", sum := "fbb6b8511de19017e91035a08ef1bd5d52694b5d8657c88fe3709e86fefc5cdd", func := "quillwort/quillwortlaw10.RelexUndone", spec := "relexUndone", inPlace := ["internal/bytealg.IndexByteString", "internal/bytealg.IndexString", "internal/abi.NoEscape"], unfollowed := true, recurses := true, named := ["unicode/utf8.first", "unicode/utf8.acceptRanges", "internal/bytealg.MaxLen", "quillwort/oper.texts"], apart := false, laid := [("unicode/utf8.acceptRanges", laid_unicode_utf8_acceptRanges), ("quillwort/oper.texts", laid_quillwort_oper_texts), ("unicode/utf8.first", laid_unicode_utf8_first)] }
def RelexUndoneSaid : Prop := relexUndoneRow.holds Tryz.pinned (OpenSpec.ofChange relexUndoneSpec)

/-- ITS FALSE NEIGHBOUR: 'it returns false'. Refute it at one input. -/
def relexUndoneWrong : ChangeSpec := { name := "relexUndone", fn := fun _ => fun
  | [d1, d2] => { results := [.lit (.bool false)], args := [d1, d2] }
  | _ => none }
def RelexUndoneWrongFalsely : Prop := relexUndoneRow.holds Tryz.pinned (OpenSpec.ofChange relexUndoneWrong)

/- THE SECOND FORM. 'bulk': how many values and letters a reading holds, each counted each time it is reached (what is shared counts as often as it is met; a slice's spare places count too). A statement '..UptoSaid' is the law's where the arguments, and the package variables that the reading takes, are together of bulk at most 1048576: NARROWER than '..Said'. Prove '..Said' where nothing that the law and all that it calls make is longer than what came in: it says more and counts as full. Else prove '..UptoSaid'. A law counts once. -/
mutual
def uptoBulk {H : Type} : DataW H → Nat
  | .lit (.string bytes) => bytes.length + 1
  | .lit _ => 1
  | .nil => 1
  | .ptr d => uptoBulk d + 1
  | .slice elems spare => uptoBulkAll elems + uptoBulkAll spare + 1
  | .agg parts => uptoBulkAll parts + 1
  | .iface _ d => uptoBulk d + 1
  | .map entries => uptoBulkEntries entries + 1
  | .held _ => 1
def uptoBulkAll {H : Type} : List (DataW H) → Nat
  | [] => 0
  | d :: r => uptoBulk d + uptoBulkAll r
def uptoBulkEntries {H : Type} : List (Lit × DataW H) → Nat
  | [] => 0
  | x :: r => uptoBulkEntry x + uptoBulkEntries r
def uptoBulkEntry {H : Type} : Lit × DataW H → Nat
  | (.string bytes, d) => bytes.length + uptoBulk d + 1
  | (_, d) => uptoBulk d + 1
 end
def uptoSmall : (H : Type) → List (DataW H) → Bool := fun _ ds => decide (uptoBulkAll ds ≤ 1048576)
def OpenSpec.upto (s : _root_.Go.ChangeSpec) : _root_.Go.OpenSpec := { _root_.Go.OpenSpec.ofChange s with cond := some uptoSmall }

/-- 'quillwortlaw09.TokenLex', WHERE WHAT IT READS IS OF BULK AT MOST 1048576: true; the input reads as it did. -/
def tokenLexUptoRow : OpenClaim := { program := "ytgfkbfojeohlkaagreatdoor", sum := "fbb6b8511de19017e91035a08ef1bd5d52694b5d8657c88fe3709e86fefc5cdd", func := "quillwort/quillwortlaw09.TokenLex", spec := "tokenLex", inPlace := ["internal/bytealg.IndexByteString", "internal/bytealg.IndexString", "internal/abi.NoEscape"], unfollowed := true, recurses := true, named := ["unicode/utf8.first", "unicode/utf8.acceptRanges", "internal/bytealg.MaxLen", "quillwort/oper.texts"], apart := false, laid := [("unicode/utf8.acceptRanges", laid_unicode_utf8_acceptRanges), ("quillwort/oper.texts", laid_quillwort_oper_texts), ("unicode/utf8.first", laid_unicode_utf8_first)], narrowed := true }
def TokenLexUptoSaid : Prop := tokenLexUptoRow.holds Tryz.pinned (OpenSpec.upto tokenLexSpec)

/-- 'quillwortlaw09.TokenTile', WHERE WHAT IT READS IS OF BULK AT MOST 1048576: true; the input reads as it did. -/
def tokenTileUptoRow : OpenClaim := { program := "ytgfkbfojeohlkaagreatdoor", sum := "fbb6b8511de19017e91035a08ef1bd5d52694b5d8657c88fe3709e86fefc5cdd", func := "quillwort/quillwortlaw09.TokenTile", spec := "tokenTile", inPlace := ["internal/bytealg.IndexByteString", "internal/bytealg.IndexString", "internal/abi.NoEscape"], unfollowed := true, recurses := true, named := ["unicode/utf8.first", "unicode/utf8.acceptRanges", "internal/bytealg.MaxLen", "quillwort/oper.texts"], apart := false, laid := [("unicode/utf8.acceptRanges", laid_unicode_utf8_acceptRanges), ("quillwort/oper.texts", laid_quillwort_oper_texts), ("unicode/utf8.first", laid_unicode_utf8_first)], narrowed := true }
def TokenTileUptoSaid : Prop := tokenTileUptoRow.holds Tryz.pinned (OpenSpec.upto tokenTileSpec)

/-- 'quillwortlaw09.TokenStep', WHERE WHAT IT READS IS OF BULK AT MOST 1048576: true; the input reads as it did. -/
def tokenStepUptoRow : OpenClaim := { program := "ytgfkbfojeohlkaagreatdoor", sum := "fbb6b8511de19017e91035a08ef1bd5d52694b5d8657c88fe3709e86fefc5cdd", func := "quillwort/quillwortlaw09.TokenStep", spec := "tokenStep", inPlace := ["internal/bytealg.IndexByteString", "internal/bytealg.IndexString", "internal/abi.NoEscape"], unfollowed := true, recurses := true, named := ["unicode/utf8.first", "unicode/utf8.acceptRanges", "internal/bytealg.MaxLen", "quillwort/oper.texts"], apart := false, laid := [("unicode/utf8.acceptRanges", laid_unicode_utf8_acceptRanges), ("quillwort/oper.texts", laid_quillwort_oper_texts), ("unicode/utf8.first", laid_unicode_utf8_first)], narrowed := true }
def TokenStepUptoSaid : Prop := tokenStepUptoRow.holds Tryz.pinned (OpenSpec.upto tokenStepSpec)

/-- 'quillwortlaw09.TokenAhead', WHERE WHAT IT READS IS OF BULK AT MOST 1048576: true; the input reads as it did. -/
def tokenAheadUptoRow : OpenClaim := { program := "ytgfkbfojeohlkaagreatdoor", sum := "fbb6b8511de19017e91035a08ef1bd5d52694b5d8657c88fe3709e86fefc5cdd", func := "quillwort/quillwortlaw09.TokenAhead", spec := "tokenAhead", inPlace := ["internal/bytealg.IndexByteString", "internal/bytealg.IndexString", "internal/abi.NoEscape"], unfollowed := true, recurses := true, named := ["unicode/utf8.first", "unicode/utf8.acceptRanges", "internal/bytealg.MaxLen", "quillwort/oper.texts"], apart := false, laid := [("unicode/utf8.acceptRanges", laid_unicode_utf8_acceptRanges), ("quillwort/oper.texts", laid_quillwort_oper_texts), ("unicode/utf8.first", laid_unicode_utf8_first)], narrowed := true }
def TokenAheadUptoSaid : Prop := tokenAheadUptoRow.holds Tryz.pinned (OpenSpec.upto tokenAheadSpec)

/-- 'quillwortlaw09.TokenLeaves', WHERE WHAT IT READS IS OF BULK AT MOST 1048576: true; the input reads as it did. -/
def tokenLeavesUptoRow : OpenClaim := { program := "ytgfkbfojeohlkaagreatdoor", sum := "fbb6b8511de19017e91035a08ef1bd5d52694b5d8657c88fe3709e86fefc5cdd", func := "quillwort/quillwortlaw09.TokenLeaves", spec := "tokenLeaves", inPlace := ["internal/bytealg.IndexByteString", "internal/bytealg.IndexString", "internal/abi.NoEscape"], unfollowed := true, recurses := true, named := ["unicode/utf8.first", "unicode/utf8.acceptRanges", "internal/bytealg.MaxLen", "quillwort/oper.texts"], apart := false, laid := [("unicode/utf8.acceptRanges", laid_unicode_utf8_acceptRanges), ("quillwort/oper.texts", laid_quillwort_oper_texts), ("unicode/utf8.first", laid_unicode_utf8_first)], narrowed := true }
def TokenLeavesUptoSaid : Prop := tokenLeavesUptoRow.holds Tryz.pinned (OpenSpec.upto tokenLeavesSpec)

/-- 'quillwortlaw09.TokenRaw', WHERE WHAT IT READS IS OF BULK AT MOST 1048576: true; the input reads as it did. -/
def tokenRawUptoRow : OpenClaim := { program := "ytgfkbfojeohlkaagreatdoor", sum := "fbb6b8511de19017e91035a08ef1bd5d52694b5d8657c88fe3709e86fefc5cdd", func := "quillwort/quillwortlaw09.TokenRaw", spec := "tokenRaw", inPlace := ["internal/bytealg.IndexByteString", "internal/bytealg.IndexString", "internal/abi.NoEscape"], unfollowed := true, recurses := true, named := ["unicode/utf8.first", "unicode/utf8.acceptRanges", "internal/bytealg.MaxLen", "quillwort/oper.texts"], apart := false, laid := [("unicode/utf8.acceptRanges", laid_unicode_utf8_acceptRanges), ("quillwort/oper.texts", laid_quillwort_oper_texts), ("unicode/utf8.first", laid_unicode_utf8_first)], narrowed := true }
def TokenRawUptoSaid : Prop := tokenRawUptoRow.holds Tryz.pinned (OpenSpec.upto tokenRawSpec)

/-- 'quillwortlaw09.TokenHere', WHERE WHAT IT READS IS OF BULK AT MOST 1048576: true; the input reads as it did. -/
def tokenHereUptoRow : OpenClaim := { program := "ytgfkbfojeohlkaagreatdoor", sum := "fbb6b8511de19017e91035a08ef1bd5d52694b5d8657c88fe3709e86fefc5cdd", func := "quillwort/quillwortlaw09.TokenHere", spec := "tokenHere", inPlace := ["internal/bytealg.IndexByteString", "internal/bytealg.IndexString", "internal/abi.NoEscape"], unfollowed := true, recurses := true, named := ["unicode/utf8.first", "unicode/utf8.acceptRanges", "internal/bytealg.MaxLen", "quillwort/oper.texts"], apart := false, laid := [("unicode/utf8.acceptRanges", laid_unicode_utf8_acceptRanges), ("quillwort/oper.texts", laid_quillwort_oper_texts), ("unicode/utf8.first", laid_unicode_utf8_first)], narrowed := true }
def TokenHereUptoSaid : Prop := tokenHereUptoRow.holds Tryz.pinned (OpenSpec.upto tokenHereSpec)

/-- 'quillwortlaw09.TokenSame', WHERE WHAT IT READS IS OF BULK AT MOST 1048576: true; the input reads as it did. -/
def tokenSameUptoRow : OpenClaim := { program := "ytgfkbfojeohlkaagreatdoor", sum := "fbb6b8511de19017e91035a08ef1bd5d52694b5d8657c88fe3709e86fefc5cdd", func := "quillwort/quillwortlaw09.TokenSame", spec := "tokenSame", inPlace := ["internal/bytealg.IndexByteString", "internal/bytealg.IndexString", "internal/abi.NoEscape"], unfollowed := true, recurses := true, named := ["unicode/utf8.first", "unicode/utf8.acceptRanges", "internal/bytealg.MaxLen", "quillwort/oper.texts"], apart := false, laid := [("unicode/utf8.acceptRanges", laid_unicode_utf8_acceptRanges), ("quillwort/oper.texts", laid_quillwort_oper_texts), ("unicode/utf8.first", laid_unicode_utf8_first)], narrowed := true }
def TokenSameUptoSaid : Prop := tokenSameUptoRow.holds Tryz.pinned (OpenSpec.upto tokenSameSpec)

/-- 'quillwortlaw10.RelexFollows', WHERE WHAT IT READS IS OF BULK AT MOST 1048576: true; the input reads as it did. -/
def relexFollowsUptoRow : OpenClaim := { program := "ytgfkbfojeohlkaagreatdoor", sum := "fbb6b8511de19017e91035a08ef1bd5d52694b5d8657c88fe3709e86fefc5cdd", func := "quillwort/quillwortlaw10.RelexFollows", spec := "relexFollows", inPlace := ["internal/bytealg.IndexByteString", "internal/bytealg.IndexString", "internal/abi.NoEscape"], unfollowed := true, recurses := true, named := ["unicode/utf8.first", "unicode/utf8.acceptRanges", "internal/bytealg.MaxLen", "quillwort/oper.texts"], apart := false, laid := [("unicode/utf8.acceptRanges", laid_unicode_utf8_acceptRanges), ("quillwort/oper.texts", laid_quillwort_oper_texts), ("unicode/utf8.first", laid_unicode_utf8_first)], narrowed := true }
def RelexFollowsUptoSaid : Prop := relexFollowsUptoRow.holds Tryz.pinned (OpenSpec.upto relexFollowsSpec)

/-- 'quillwortlaw10.RelexKept', WHERE WHAT IT READS IS OF BULK AT MOST 1048576: true; the input reads as it did. -/
def relexKeptUptoRow : OpenClaim := { program := "ytgfkbfojeohlkaagreatdoor", sum := "fbb6b8511de19017e91035a08ef1bd5d52694b5d8657c88fe3709e86fefc5cdd", func := "quillwort/quillwortlaw10.RelexKept", spec := "relexKept", inPlace := ["internal/bytealg.IndexByteString", "internal/bytealg.IndexString", "internal/abi.NoEscape"], unfollowed := true, recurses := true, named := ["unicode/utf8.first", "unicode/utf8.acceptRanges", "internal/bytealg.MaxLen", "quillwort/oper.texts"], apart := false, laid := [("unicode/utf8.acceptRanges", laid_unicode_utf8_acceptRanges), ("quillwort/oper.texts", laid_quillwort_oper_texts), ("unicode/utf8.first", laid_unicode_utf8_first)], narrowed := true }
def RelexKeptUptoSaid : Prop := relexKeptUptoRow.holds Tryz.pinned (OpenSpec.upto relexKeptSpec)

/-- 'quillwortlaw10.RelexAhead', WHERE WHAT IT READS IS OF BULK AT MOST 1048576: true; the input reads as it did. -/
def relexAheadUptoRow : OpenClaim := { program := "ytgfkbfojeohlkaagreatdoor", sum := "fbb6b8511de19017e91035a08ef1bd5d52694b5d8657c88fe3709e86fefc5cdd", func := "quillwort/quillwortlaw10.RelexAhead", spec := "relexAhead", inPlace := ["internal/bytealg.IndexByteString", "internal/bytealg.IndexString", "internal/abi.NoEscape"], unfollowed := true, recurses := true, named := ["unicode/utf8.first", "unicode/utf8.acceptRanges", "internal/bytealg.MaxLen", "quillwort/oper.texts"], apart := false, laid := [("unicode/utf8.acceptRanges", laid_unicode_utf8_acceptRanges), ("quillwort/oper.texts", laid_quillwort_oper_texts), ("unicode/utf8.first", laid_unicode_utf8_first)], narrowed := true }
def RelexAheadUptoSaid : Prop := relexAheadUptoRow.holds Tryz.pinned (OpenSpec.upto relexAheadSpec)

/-- 'quillwortlaw10.RelexLeaves', WHERE WHAT IT READS IS OF BULK AT MOST 1048576: true; the input reads as it did. -/
def relexLeavesUptoRow : OpenClaim := { program := "ytgfkbfojeohlkaagreatdoor", sum := "fbb6b8511de19017e91035a08ef1bd5d52694b5d8657c88fe3709e86fefc5cdd", func := "quillwort/quillwortlaw10.RelexLeaves", spec := "relexLeaves", inPlace := ["internal/bytealg.IndexByteString", "internal/bytealg.IndexString", "internal/abi.NoEscape"], unfollowed := true, recurses := true, named := ["unicode/utf8.first", "unicode/utf8.acceptRanges", "internal/bytealg.MaxLen", "quillwort/oper.texts"], apart := false, laid := [("unicode/utf8.acceptRanges", laid_unicode_utf8_acceptRanges), ("quillwort/oper.texts", laid_quillwort_oper_texts), ("unicode/utf8.first", laid_unicode_utf8_first)], narrowed := true }
def RelexLeavesUptoSaid : Prop := relexLeavesUptoRow.holds Tryz.pinned (OpenSpec.upto relexLeavesSpec)

/-- 'quillwortlaw10.RelexHistory', WHERE WHAT IT READS IS OF BULK AT MOST 1048576: true; the input reads as it did. -/
def relexHistoryUptoRow : OpenClaim := { program := "ytgfkbfojeohlkaagreatdoor", sum := "fbb6b8511de19017e91035a08ef1bd5d52694b5d8657c88fe3709e86fefc5cdd", func := "quillwort/quillwortlaw10.RelexHistory", spec := "relexHistory", inPlace := ["internal/bytealg.IndexByteString", "internal/bytealg.IndexString", "internal/abi.NoEscape"], unfollowed := true, recurses := true, named := ["unicode/utf8.first", "unicode/utf8.acceptRanges", "internal/bytealg.MaxLen", "quillwort/oper.texts"], apart := false, laid := [("unicode/utf8.acceptRanges", laid_unicode_utf8_acceptRanges), ("quillwort/oper.texts", laid_quillwort_oper_texts), ("unicode/utf8.first", laid_unicode_utf8_first)], narrowed := true }
def RelexHistoryUptoSaid : Prop := relexHistoryUptoRow.holds Tryz.pinned (OpenSpec.upto relexHistorySpec)

/-- 'quillwortlaw10.RelexUndone', WHERE WHAT IT READS IS OF BULK AT MOST 1048576: true; the input reads as it did. -/
def relexUndoneUptoRow : OpenClaim := { program := "ytgfkbfojeohlkaagreatdoor", sum := "fbb6b8511de19017e91035a08ef1bd5d52694b5d8657c88fe3709e86fefc5cdd", func := "quillwort/quillwortlaw10.RelexUndone", spec := "relexUndone", inPlace := ["internal/bytealg.IndexByteString", "internal/bytealg.IndexString", "internal/abi.NoEscape"], unfollowed := true, recurses := true, named := ["unicode/utf8.first", "unicode/utf8.acceptRanges", "internal/bytealg.MaxLen", "quillwort/oper.texts"], apart := false, laid := [("unicode/utf8.acceptRanges", laid_unicode_utf8_acceptRanges), ("quillwort/oper.texts", laid_quillwort_oper_texts), ("unicode/utf8.first", laid_unicode_utf8_first)], narrowed := true }
def RelexUndoneUptoSaid : Prop := relexUndoneUptoRow.holds Tryz.pinned (OpenSpec.upto relexUndoneSpec)

end Rows
end Go.Proofs.YtgfkbfojeohlkaaGreatDoor

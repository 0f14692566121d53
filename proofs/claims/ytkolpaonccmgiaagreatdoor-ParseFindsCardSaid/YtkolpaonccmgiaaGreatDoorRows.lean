/-
  NARROWER THAN 'FOR EVERY INPUT', by the rows' own cells (each row's printed sentence says how): ParseTrees: laid · ParseFinds: laid · ParseShape: laid · ParseTexts: laid · ParseFaults: laid · ParseLines: laid · ParseCommands: laid.
  DERIVED. THE GIVEN ROWS OF THIS SEAT. 7 by the template 'for every input the law returns true; each argument reads behind the call as it read before'; 0 by the template 'total and deterministic' (their statements: YtkolpaonccmgiaaGreatDoorTotals.lean).
  GIVEN WITH THE SEED: the statements are not yours to turn. If you find one false, say at which input.
  Laid BY PROGRAM, IN A SANDBOX (cutbox-rows.mjs): the forced cells as the released guide's own fill.sh prints them over the translation e22fbf8ca95e73e1… (all of the seat's roots in one cut). By AI agents, Wed Nov 11 2026. No macro, syntax, notation, axiom, sorry.
-/
import Derived.Test.YtkolpaonccmgiaaGreatDoorChecked
import GoSem.PinnedTables
import GoSem.Claim
import GoSem.ClaimJoined
import GoSem.ClaimMapViews
import Derived.JoinedTies
import Derived.KernelRfl
namespace Go.Proofs.YtkolpaonccmgiaaGreatDoor
/- THE CELL 'sum', in the pinned program and in every row, IS THE sha256 OF THE DUMP (.gsa) THAT YtkolpaonccmgiaaGreatDoorProg.lean LOADS. Nothing in Lean hashes anything: it is a label: what it is worth is what the hold of that sum in a sandbox is worth. -/
noncomputable def Tryz.pinned : Pinned := { name := "ytkolpaonccmgiaagreatdoor", sum := "e22fbf8ca95e73e1d36f454200655c061f1bf80c0033f1d50ca762a8b70a9a2a", checked := Tryz.checked }
namespace Rows
def none {H : Type} : Left H := { results := [], args := [] }

/- WHAT THE LISTED PACKAGE-LEVEL VARIABLES READ AS WHEN THE CALL BEGINS. Each datum BY PROGRAM (the guide's laid-datum.mjs) off the statement by which the dump's own 'gosem.cut.vars' lays the variable. In a bare row this is a premise. The card (YtkolpaonccmgiaaGreatDoorCards.lean) ties it to the program's text. -/
def laid_unicode_utf8_acceptRanges {H : Type} : DataW H := .agg [.agg [.lit (.int .u8 128), .lit (.int .u8 191)], .agg [.lit (.int .u8 160), .lit (.int .u8 191)], .agg [.lit (.int .u8 128), .lit (.int .u8 159)], .agg [.lit (.int .u8 144), .lit (.int .u8 191)], .agg [.lit (.int .u8 128), .lit (.int .u8 143)], .agg [.lit (.int .u8 0), .lit (.int .u8 0)], .agg [.lit (.int .u8 0), .lit (.int .u8 0)], .agg [.lit (.int .u8 0), .lit (.int .u8 0)], .agg [.lit (.int .u8 0), .lit (.int .u8 0)], .agg [.lit (.int .u8 0), .lit (.int .u8 0)], .agg [.lit (.int .u8 0), .lit (.int .u8 0)], .agg [.lit (.int .u8 0), .lit (.int .u8 0)], .agg [.lit (.int .u8 0), .lit (.int .u8 0)], .agg [.lit (.int .u8 0), .lit (.int .u8 0)], .agg [.lit (.int .u8 0), .lit (.int .u8 0)], .agg [.lit (.int .u8 0), .lit (.int .u8 0)]]
def laid_quillwort_oper_texts {H : Type} : DataW H := .agg [.lit (.string []), .lit (.string [38, 38]), .lit (.string [124, 124]), .lit (.string [59, 59]), .lit (.string [60, 60]), .lit (.string [60, 60, 45]), .lit (.string [62, 62]), .lit (.string [60, 38]), .lit (.string [62, 38]), .lit (.string [60, 62]), .lit (.string [62, 124]), .lit (.string [60]), .lit (.string [62]), .lit (.string [38]), .lit (.string [59]), .lit (.string [124]), .lit (.string [40]), .lit (.string [41])]
/-- One of Go's own tables, pinned by name: the form's constant. -/
def laid_unicode_utf8_first : DataW Unit := Go.Pinned.utf8First

/-- 'quillwortlaw13.ParseTrees': WHATEVER THE INPUT: true; the input reads as it did. -/
def parseTreesSpec : ChangeSpec := { name := "parseTrees", fn := fun _ => fun
  | [d] => { results := [.lit (.bool true)], args := [d] }
  | _ => none }
def parseTreesRow : OpenClaim := { program := "ytkolpaonccmgiaagreatdoor", sum := "e22fbf8ca95e73e1d36f454200655c061f1bf80c0033f1d50ca762a8b70a9a2a", func := "quillwort/quillwortlaw13.ParseTrees", spec := "parseTrees", inPlace := ["internal/bytealg.IndexByteString", "internal/bytealg.IndexString", "internal/abi.NoEscape"], unfollowed := true, recurses := true, named := ["unicode/utf8.first", "unicode/utf8.acceptRanges", "internal/bytealg.MaxLen", "quillwort/oper.texts"], apart := false, laid := [("unicode/utf8.acceptRanges", laid_unicode_utf8_acceptRanges), ("quillwort/oper.texts", laid_quillwort_oper_texts), ("unicode/utf8.first", laid_unicode_utf8_first)] }
def ParseTreesSaid : Prop := parseTreesRow.holds Tryz.pinned (OpenSpec.ofChange parseTreesSpec)

/-- ITS FALSE NEIGHBOUR: 'it returns false'. Refute it at one input. -/
def parseTreesWrong : ChangeSpec := { name := "parseTrees", fn := fun _ => fun
  | [d] => { results := [.lit (.bool false)], args := [d] }
  | _ => none }
def ParseTreesWrongFalsely : Prop := parseTreesRow.holds Tryz.pinned (OpenSpec.ofChange parseTreesWrong)

/-- 'quillwortlaw13.ParseFinds': WHATEVER THE INPUT: true; the input reads as it did. -/
def parseFindsSpec : ChangeSpec := { name := "parseFinds", fn := fun _ => fun
  | [d1, d2] => { results := [.lit (.bool true)], args := [d1, d2] }
  | _ => none }
def parseFindsRow : OpenClaim := { program := "ytkolpaonccmgiaagreatdoor", sum := "e22fbf8ca95e73e1d36f454200655c061f1bf80c0033f1d50ca762a8b70a9a2a", func := "quillwort/quillwortlaw13.ParseFinds", spec := "parseFinds", inPlace := ["internal/bytealg.IndexByteString", "internal/bytealg.IndexString", "internal/abi.NoEscape"], unfollowed := true, recurses := true, named := ["unicode/utf8.first", "unicode/utf8.acceptRanges", "internal/bytealg.MaxLen", "quillwort/oper.texts"], apart := false, laid := [("unicode/utf8.acceptRanges", laid_unicode_utf8_acceptRanges), ("quillwort/oper.texts", laid_quillwort_oper_texts), ("unicode/utf8.first", laid_unicode_utf8_first)] }
def ParseFindsSaid : Prop := parseFindsRow.holds Tryz.pinned (OpenSpec.ofChange parseFindsSpec)

/-- ITS FALSE NEIGHBOUR: 'it returns false'. Refute it at one input. -/
def parseFindsWrong : ChangeSpec := { name := "parseFinds", fn := fun _ => fun
  | [d1, d2] => { results := [.lit (.bool false)], args := [d1, d2] }
  | _ => none }
def ParseFindsWrongFalsely : Prop := parseFindsRow.holds Tryz.pinned (OpenSpec.ofChange parseFindsWrong)

/-- 'quillwortlaw13.ParseShape': WHATEVER THE INPUT: true; the input reads as it did. -/
def parseShapeSpec : ChangeSpec := { name := "parseShape", fn := fun _ => fun
  | [d] => { results := [.lit (.bool true)], args := [d] }
  | _ => none }
def parseShapeRow : OpenClaim := { program := "ytkolpaonccmgiaagreatdoor", sum := "e22fbf8ca95e73e1d36f454200655c061f1bf80c0033f1d50ca762a8b70a9a2a", func := "quillwort/quillwortlaw13.ParseShape", spec := "parseShape", inPlace := ["internal/bytealg.IndexByteString", "internal/bytealg.IndexString", "internal/abi.NoEscape"], unfollowed := true, recurses := true, named := ["unicode/utf8.first", "unicode/utf8.acceptRanges", "internal/bytealg.MaxLen", "quillwort/oper.texts"], apart := false, laid := [("unicode/utf8.acceptRanges", laid_unicode_utf8_acceptRanges), ("quillwort/oper.texts", laid_quillwort_oper_texts), ("unicode/utf8.first", laid_unicode_utf8_first)] }
def ParseShapeSaid : Prop := parseShapeRow.holds Tryz.pinned (OpenSpec.ofChange parseShapeSpec)

/-- ITS FALSE NEIGHBOUR: 'it returns false'. Refute it at one input. -/
def parseShapeWrong : ChangeSpec := { name := "parseShape", fn := fun _ => fun
  | [d] => { results := [.lit (.bool false)], args := [d] }
  | _ => none }
def ParseShapeWrongFalsely : Prop := parseShapeRow.holds Tryz.pinned (OpenSpec.ofChange parseShapeWrong)

/-- 'quillwortlaw13.ParseTexts': WHATEVER THE INPUT: true; the input reads as it did. -/
def parseTextsSpec : ChangeSpec := { name := "parseTexts", fn := fun _ => fun
  | [d] => { results := [.lit (.bool true)], args := [d] }
  | _ => none }
def parseTextsRow : OpenClaim := { program := "ytkolpaonccmgiaagreatdoor", sum := "e22fbf8ca95e73e1d36f454200655c061f1bf80c0033f1d50ca762a8b70a9a2a", func := "quillwort/quillwortlaw13.ParseTexts", spec := "parseTexts", inPlace := ["internal/bytealg.IndexByteString", "internal/bytealg.IndexString", "internal/abi.NoEscape"], unfollowed := true, recurses := true, named := ["unicode/utf8.first", "unicode/utf8.acceptRanges", "internal/bytealg.MaxLen", "quillwort/oper.texts"], apart := false, laid := [("unicode/utf8.acceptRanges", laid_unicode_utf8_acceptRanges), ("quillwort/oper.texts", laid_quillwort_oper_texts), ("unicode/utf8.first", laid_unicode_utf8_first)] }
def ParseTextsSaid : Prop := parseTextsRow.holds Tryz.pinned (OpenSpec.ofChange parseTextsSpec)

/-- ITS FALSE NEIGHBOUR: 'it returns false'. Refute it at one input. -/
def parseTextsWrong : ChangeSpec := { name := "parseTexts", fn := fun _ => fun
  | [d] => { results := [.lit (.bool false)], args := [d] }
  | _ => none }
def ParseTextsWrongFalsely : Prop := parseTextsRow.holds Tryz.pinned (OpenSpec.ofChange parseTextsWrong)

/-- 'quillwortlaw13.ParseFaults': WHATEVER THE INPUT: true; the input reads as it did. -/
def parseFaultsSpec : ChangeSpec := { name := "parseFaults", fn := fun _ => fun
  | [d] => { results := [.lit (.bool true)], args := [d] }
  | _ => none }
def parseFaultsRow : OpenClaim := { program := "ytkolpaonccmgiaagreatdoor", sum := "e22fbf8ca95e73e1d36f454200655c061f1bf80c0033f1d50ca762a8b70a9a2a", func := "quillwort/quillwortlaw13.ParseFaults", spec := "parseFaults", inPlace := ["internal/bytealg.IndexByteString", "internal/bytealg.IndexString", "internal/abi.NoEscape"], unfollowed := true, recurses := true, named := ["unicode/utf8.first", "unicode/utf8.acceptRanges", "internal/bytealg.MaxLen", "quillwort/oper.texts"], apart := false, laid := [("unicode/utf8.acceptRanges", laid_unicode_utf8_acceptRanges), ("quillwort/oper.texts", laid_quillwort_oper_texts), ("unicode/utf8.first", laid_unicode_utf8_first)] }
def ParseFaultsSaid : Prop := parseFaultsRow.holds Tryz.pinned (OpenSpec.ofChange parseFaultsSpec)

/-- ITS FALSE NEIGHBOUR: 'it returns false'. Refute it at one input. -/
def parseFaultsWrong : ChangeSpec := { name := "parseFaults", fn := fun _ => fun
  | [d] => { results := [.lit (.bool false)], args := [d] }
  | _ => none }
def ParseFaultsWrongFalsely : Prop := parseFaultsRow.holds Tryz.pinned (OpenSpec.ofChange parseFaultsWrong)

/-- 'quillwortlaw13.ParseLines': WHATEVER THE INPUT: true; the input reads as it did. -/
def parseLinesSpec : ChangeSpec := { name := "parseLines", fn := fun _ => fun
  | [d1, d2] => { results := [.lit (.bool true)], args := [d1, d2] }
  | _ => none }
def parseLinesRow : OpenClaim := { program := "ytkolpaonccmgiaagreatdoor", sum := "e22fbf8ca95e73e1d36f454200655c061f1bf80c0033f1d50ca762a8b70a9a2a", func := "quillwort/quillwortlaw13.ParseLines", spec := "parseLines", inPlace := ["internal/bytealg.IndexByteString", "internal/bytealg.IndexString", "internal/abi.NoEscape"], unfollowed := true, recurses := true, named := ["unicode/utf8.first", "unicode/utf8.acceptRanges", "internal/bytealg.MaxLen", "quillwort/oper.texts"], apart := false, laid := [("unicode/utf8.acceptRanges", laid_unicode_utf8_acceptRanges), ("quillwort/oper.texts", laid_quillwort_oper_texts), ("unicode/utf8.first", laid_unicode_utf8_first)] }
def ParseLinesSaid : Prop := parseLinesRow.holds Tryz.pinned (OpenSpec.ofChange parseLinesSpec)

/-- ITS FALSE NEIGHBOUR: 'it returns false'. Refute it at one input. -/
def parseLinesWrong : ChangeSpec := { name := "parseLines", fn := fun _ => fun
  | [d1, d2] => { results := [.lit (.bool false)], args := [d1, d2] }
  | _ => none }
def ParseLinesWrongFalsely : Prop := parseLinesRow.holds Tryz.pinned (OpenSpec.ofChange parseLinesWrong)

/-- 'quillwortlaw13.ParseCommands': WHATEVER THE INPUT: true; the input reads as it did. -/
def parseCommandsSpec : ChangeSpec := { name := "parseCommands", fn := fun _ => fun
  | [d1, d2] => { results := [.lit (.bool true)], args := [d1, d2] }
  | _ => none }
def parseCommandsRow : OpenClaim := { program := "ytkolpaonccmgiaagreatdoor", sum := "e22fbf8ca95e73e1d36f454200655c061f1bf80c0033f1d50ca762a8b70a9a2a", func := "quillwort/quillwortlaw13.ParseCommands", spec := "parseCommands", inPlace := ["internal/bytealg.IndexByteString", "internal/bytealg.IndexString", "internal/abi.NoEscape"], unfollowed := true, recurses := true, named := ["unicode/utf8.first", "unicode/utf8.acceptRanges", "internal/bytealg.MaxLen", "quillwort/oper.texts"], apart := false, laid := [("unicode/utf8.acceptRanges", laid_unicode_utf8_acceptRanges), ("quillwort/oper.texts", laid_quillwort_oper_texts), ("unicode/utf8.first", laid_unicode_utf8_first)] }
def ParseCommandsSaid : Prop := parseCommandsRow.holds Tryz.pinned (OpenSpec.ofChange parseCommandsSpec)

/-- ITS FALSE NEIGHBOUR: 'it returns false'. Refute it at one input. -/
def parseCommandsWrong : ChangeSpec := { name := "parseCommands", fn := fun _ => fun
  | [d1, d2] => { results := [.lit (.bool false)], args := [d1, d2] }
  | _ => none }
def ParseCommandsWrongFalsely : Prop := parseCommandsRow.holds Tryz.pinned (OpenSpec.ofChange parseCommandsWrong)

/- THE SECOND FORM. 'bulk': how many values and letters a reading holds, each counted each time it is reached (what is shared counts as often as it is met; a slice's spare places count too). A statement '..UptoSaid' is the law's where the arguments, and the package variables that the reading takes, are together of bulk at most 1048576: NARROWER than '..Said'. Prove '..Said' where nothing that the law and all that it calls make is longer than what came in: it says more and counts as full. Else prove '..UptoSaid'. A law counts once. -/
mutual
def uptoBulk {H : Type} : DataW H → Nat
  | .lit (.string bytes) => bytes.length + 1
  | .lit _ => 1
  | .nil => 1
  | .ptr d => uptoBulk d + 1
  | .slice elems spare => uptoBulkAll elems + uptoBulkAll spare + 1
  | .agg parts => uptoBulkAll parts + 1
  | .iface _ d => uptoBulk d + 1
  | .map entries => uptoBulkEntries entries + 1
  | .held _ => 1
def uptoBulkAll {H : Type} : List (DataW H) → Nat
  | [] => 0
  | d :: r => uptoBulk d + uptoBulkAll r
def uptoBulkEntries {H : Type} : List (Lit × DataW H) → Nat
  | [] => 0
  | x :: r => uptoBulkEntry x + uptoBulkEntries r
def uptoBulkEntry {H : Type} : Lit × DataW H → Nat
  | (.string bytes, d) => bytes.length + uptoBulk d + 1
  | (_, d) => uptoBulk d + 1
 end
def uptoSmall : (H : Type) → List (DataW H) → Bool := fun _ ds => decide (uptoBulkAll ds ≤ 1048576)
def OpenSpec.upto (s : _root_.Go.ChangeSpec) : _root_.Go.OpenSpec := { _root_.Go.OpenSpec.ofChange s with cond := some uptoSmall }

/-- 'quillwortlaw13.ParseTrees', WHERE WHAT IT READS IS OF BULK AT MOST 1048576: true; the input reads as it did. -/
def parseTreesUptoRow : OpenClaim := { program := "ytkolpaonccmgiaagreatdoor", sum := "e22fbf8ca95e73e1d36f454200655c061f1bf80c0033f1d50ca762a8b70a9a2a", func := "quillwort/quillwortlaw13.ParseTrees", spec := "parseTrees", inPlace := ["internal/bytealg.IndexByteString", "internal/bytealg.IndexString", "internal/abi.NoEscape"], unfollowed := true, recurses := true, named := ["unicode/utf8.first", "unicode/utf8.acceptRanges", "internal/bytealg.MaxLen", "quillwort/oper.texts"], apart := false, laid := [("unicode/utf8.acceptRanges", laid_unicode_utf8_acceptRanges), ("quillwort/oper.texts", laid_quillwort_oper_texts), ("unicode/utf8.first", laid_unicode_utf8_first)], narrowed := true }
def ParseTreesUptoSaid : Prop := parseTreesUptoRow.holds Tryz.pinned (OpenSpec.upto parseTreesSpec)

/-- 'quillwortlaw13.ParseFinds', WHERE WHAT IT READS IS OF BULK AT MOST 1048576: true; the input reads as it did. -/
def parseFindsUptoRow : OpenClaim := { program := "ytkolpaonccmgiaagreatdoor", sum := "e22fbf8ca95e73e1d36f454200655c061f1bf80c0033f1d50ca762a8b70a9a2a", func := "quillwort/quillwortlaw13.ParseFinds", spec := "parseFinds", inPlace := ["internal/bytealg.IndexByteString", "internal/bytealg.IndexString", "internal/abi.NoEscape"], unfollowed := true, recurses := true, named := ["unicode/utf8.first", "unicode/utf8.acceptRanges", "internal/bytealg.MaxLen", "quillwort/oper.texts"], apart := false, laid := [("unicode/utf8.acceptRanges", laid_unicode_utf8_acceptRanges), ("quillwort/oper.texts", laid_quillwort_oper_texts), ("unicode/utf8.first", laid_unicode_utf8_first)], narrowed := true }
def ParseFindsUptoSaid : Prop := parseFindsUptoRow.holds Tryz.pinned (OpenSpec.upto parseFindsSpec)

/-- 'quillwortlaw13.ParseShape', WHERE WHAT IT READS IS OF BULK AT MOST 1048576: true; the input reads as it did. -/
def parseShapeUptoRow : OpenClaim := { program := "ytkolpaonccmgiaagreatdoor", sum := "e22fbf8ca95e73e1d36f454200655c061f1bf80c0033f1d50ca762a8b70a9a2a", func := "quillwort/quillwortlaw13.ParseShape", spec := "parseShape", inPlace := ["internal/bytealg.IndexByteString", "internal/bytealg.IndexString", "internal/abi.NoEscape"], unfollowed := true, recurses := true, named := ["unicode/utf8.first", "unicode/utf8.acceptRanges", "internal/bytealg.MaxLen", "quillwort/oper.texts"], apart := false, laid := [("unicode/utf8.acceptRanges", laid_unicode_utf8_acceptRanges), ("quillwort/oper.texts", laid_quillwort_oper_texts), ("unicode/utf8.first", laid_unicode_utf8_first)], narrowed := true }
def ParseShapeUptoSaid : Prop := parseShapeUptoRow.holds Tryz.pinned (OpenSpec.upto parseShapeSpec)

/-- 'quillwortlaw13.ParseTexts', WHERE WHAT IT READS IS OF BULK AT MOST 1048576: true; the input reads as it did. -/
def parseTextsUptoRow : OpenClaim := { program := "ytkolpaonccmgiaagreatdoor", sum := "e22fbf8ca95e73e1d36f454200655c061f1bf80c0033f1d50ca762a8b70a9a2a", func := "quillwort/quillwortlaw13.ParseTexts", spec := "parseTexts", inPlace := ["internal/bytealg.IndexByteString", "internal/bytealg.IndexString", "internal/abi.NoEscape"], unfollowed := true, recurses := true, named := ["unicode/utf8.first", "unicode/utf8.acceptRanges", "internal/bytealg.MaxLen", "quillwort/oper.texts"], apart := false, laid := [("unicode/utf8.acceptRanges", laid_unicode_utf8_acceptRanges), ("quillwort/oper.texts", laid_quillwort_oper_texts), ("unicode/utf8.first", laid_unicode_utf8_first)], narrowed := true }
def ParseTextsUptoSaid : Prop := parseTextsUptoRow.holds Tryz.pinned (OpenSpec.upto parseTextsSpec)

/-- 'quillwortlaw13.ParseFaults', WHERE WHAT IT READS IS OF BULK AT MOST 1048576: true; the input reads as it did. -/
def parseFaultsUptoRow : OpenClaim := { program := "ytkolpaonccmgiaagreatdoor", sum := "e22fbf8ca95e73e1d36f454200655c061f1bf80c0033f1d50ca762a8b70a9a2a", func := "quillwort/quillwortlaw13.ParseFaults", spec := "parseFaults", inPlace := ["internal/bytealg.IndexByteString", "internal/bytealg.IndexString", "internal/abi.NoEscape"], unfollowed := true, recurses := true, named := ["unicode/utf8.first", "unicode/utf8.acceptRanges", "internal/bytealg.MaxLen", "quillwort/oper.texts"], apart := false, laid := [("unicode/utf8.acceptRanges", laid_unicode_utf8_acceptRanges), ("quillwort/oper.texts", laid_quillwort_oper_texts), ("unicode/utf8.first", laid_unicode_utf8_first)], narrowed := true }
def ParseFaultsUptoSaid : Prop := parseFaultsUptoRow.holds Tryz.pinned (OpenSpec.upto parseFaultsSpec)

/-- 'quillwortlaw13.ParseLines', WHERE WHAT IT READS IS OF BULK AT MOST 1048576: true; the input reads as it did. -/
def parseLinesUptoRow : OpenClaim := { program := "ytkolpaonccmgiaagreatdoor", sum := "e22fbf8ca95e73e1d36f454200655c061f1bf80c0033f1d50ca762a8b70a9a2a", func := "quillwort/quillwortlaw13.ParseLines", spec := "parseLines", inPlace := ["internal/bytealg.IndexByteString", "internal/bytealg.IndexString", "internal/abi.NoEscape"], unfollowed := true, recurses := true, named := ["unicode/utf8.first", "unicode/utf8.acceptRanges", "internal/bytealg.MaxLen", "quillwort/oper.texts"], apart := false, laid := [("unicode/utf8.acceptRanges", laid_unicode_utf8_acceptRanges), ("quillwort/oper.texts", laid_quillwort_oper_texts), ("unicode/utf8.first", laid_unicode_utf8_first)], narrowed := true }
def ParseLinesUptoSaid : Prop := parseLinesUptoRow.holds Tryz.pinned (OpenSpec.upto parseLinesSpec)

/-- 'quillwortlaw13.ParseCommands', WHERE WHAT IT READS IS OF BULK AT MOST 1048576: true; the input reads as it did. -/
def parseCommandsUptoRow : OpenClaim := { program := "ytkolpaonccmgiaagreatdoor", sum := "e22fbf8ca95e73e1d36f454200655c061f1bf80c0033f1d50ca762a8b70a9a2a", func := "quillwort/quillwortlaw13.ParseCommands", spec := "parseCommands", inPlace := ["internal/bytealg.IndexByteString", "internal/bytealg.IndexString", "internal/abi.NoEscape"], unfollowed := true, recurses := true, named := ["unicode/utf8.first", "unicode/utf8.acceptRanges", "internal/bytealg.MaxLen", "quillwort/oper.texts"], apart := false, laid := [("unicode/utf8.acceptRanges", laid_unicode_utf8_acceptRanges), ("quillwort/oper.texts", laid_quillwort_oper_texts), ("unicode/utf8.first", laid_unicode_utf8_first)], narrowed := true }
def ParseCommandsUptoSaid : Prop := parseCommandsUptoRow.holds Tryz.pinned (OpenSpec.upto parseCommandsSpec)

end Rows
end Go.Proofs.YtkolpaonccmgiaaGreatDoor

/-
  DERIVED. GIVEN WITH THE SEED: THE CARDS: each row of YtkolpaonccmgiaaGreatDoorRows.lean that lists a variable, with what it lists TIED to the program's text (the seventh form; the later family's looks); each row that meets fmt, with fmt's text TOLD by the authors' own Lean function (tested against real Go, not proved from fmt's source: count such statements apart). THE CARD IS WHAT COUNTS. Prove the row's statement (the work); the ties are given (YtkolpaonccmgiaaGreatDoorTie.lean); close each card by the builder's one call (the guide's Derived/Test/ToyasCard.lean, 'card_holds'). Laid BY PROGRAM, IN A SANDBOX (cutbox-door.mjs). By AI agents, Wed Nov 11 2026. No macro, syntax, notation, axiom, sorry.
-/
import Derived.Test.YtkolpaonccmgiaaGreatDoorRows
import GoSem.ClaimSeven
namespace Go.Proofs.YtkolpaonccmgiaaGreatDoor
namespace Rows

/-- THE TIED CARD OF 'quillwortlaw13.ParseTrees'. -/
def parseTreesCard : Claim7 := { stood := { row := parseTreesRow, standIns := [], harness := (true, "9fc80b2b7012d4e4f7dc5458d33f294cbc713dd206133f80e6994aaf3cb5c785"), looks := false }, kinds := [], alts := [], laidByText := true, laidKinds := [.data, .data, .pinned], laidTests := true, laidLooks := .later }
def ParseTreesCardSaid : Prop := Claim7.holds Tryz.pinned (.plain (OpenSpec.ofChange parseTreesSpec)) parseTreesCard

/-- THE TIED CARD OF 'quillwortlaw13.ParseFinds'. -/
def parseFindsCard : Claim7 := { stood := { row := parseFindsRow, standIns := [], harness := (true, "9fc80b2b7012d4e4f7dc5458d33f294cbc713dd206133f80e6994aaf3cb5c785"), looks := false }, kinds := [], alts := [], laidByText := true, laidKinds := [.data, .data, .pinned], laidTests := true, laidLooks := .later }
def ParseFindsCardSaid : Prop := Claim7.holds Tryz.pinned (.plain (OpenSpec.ofChange parseFindsSpec)) parseFindsCard

/-- THE TIED CARD OF 'quillwortlaw13.ParseShape'. -/
def parseShapeCard : Claim7 := { stood := { row := parseShapeRow, standIns := [], harness := (true, "9fc80b2b7012d4e4f7dc5458d33f294cbc713dd206133f80e6994aaf3cb5c785"), looks := false }, kinds := [], alts := [], laidByText := true, laidKinds := [.data, .data, .pinned], laidTests := true, laidLooks := .later }
def ParseShapeCardSaid : Prop := Claim7.holds Tryz.pinned (.plain (OpenSpec.ofChange parseShapeSpec)) parseShapeCard

/-- THE TIED CARD OF 'quillwortlaw13.ParseTexts'. -/
def parseTextsCard : Claim7 := { stood := { row := parseTextsRow, standIns := [], harness := (true, "9fc80b2b7012d4e4f7dc5458d33f294cbc713dd206133f80e6994aaf3cb5c785"), looks := false }, kinds := [], alts := [], laidByText := true, laidKinds := [.data, .data, .pinned], laidTests := true, laidLooks := .later }
def ParseTextsCardSaid : Prop := Claim7.holds Tryz.pinned (.plain (OpenSpec.ofChange parseTextsSpec)) parseTextsCard

/-- THE TIED CARD OF 'quillwortlaw13.ParseFaults'. -/
def parseFaultsCard : Claim7 := { stood := { row := parseFaultsRow, standIns := [], harness := (true, "9fc80b2b7012d4e4f7dc5458d33f294cbc713dd206133f80e6994aaf3cb5c785"), looks := false }, kinds := [], alts := [], laidByText := true, laidKinds := [.data, .data, .pinned], laidTests := true, laidLooks := .later }
def ParseFaultsCardSaid : Prop := Claim7.holds Tryz.pinned (.plain (OpenSpec.ofChange parseFaultsSpec)) parseFaultsCard

/-- THE TIED CARD OF 'quillwortlaw13.ParseLines'. -/
def parseLinesCard : Claim7 := { stood := { row := parseLinesRow, standIns := [], harness := (true, "9fc80b2b7012d4e4f7dc5458d33f294cbc713dd206133f80e6994aaf3cb5c785"), looks := false }, kinds := [], alts := [], laidByText := true, laidKinds := [.data, .data, .pinned], laidTests := true, laidLooks := .later }
def ParseLinesCardSaid : Prop := Claim7.holds Tryz.pinned (.plain (OpenSpec.ofChange parseLinesSpec)) parseLinesCard

/-- THE TIED CARD OF 'quillwortlaw13.ParseCommands'. -/
def parseCommandsCard : Claim7 := { stood := { row := parseCommandsRow, standIns := [], harness := (true, "9fc80b2b7012d4e4f7dc5458d33f294cbc713dd206133f80e6994aaf3cb5c785"), looks := false }, kinds := [], alts := [], laidByText := true, laidKinds := [.data, .data, .pinned], laidTests := true, laidLooks := .later }
def ParseCommandsCardSaid : Prop := Claim7.holds Tryz.pinned (.plain (OpenSpec.ofChange parseCommandsSpec)) parseCommandsCard

/-- THE SECOND FORM's CARD OF 'quillwortlaw13.ParseTrees'. -/
def parseTreesUptoCard : Claim7 := { stood := { row := parseTreesUptoRow, standIns := [], harness := (true, "9fc80b2b7012d4e4f7dc5458d33f294cbc713dd206133f80e6994aaf3cb5c785"), looks := false }, kinds := [], alts := [], laidByText := true, laidKinds := [.data, .data, .pinned], laidTests := true, laidLooks := .later }
def ParseTreesUptoCardSaid : Prop := Claim7.holds Tryz.pinned (.plain (OpenSpec.upto parseTreesSpec)) parseTreesUptoCard

/-- THE SECOND FORM's CARD OF 'quillwortlaw13.ParseFinds'. -/
def parseFindsUptoCard : Claim7 := { stood := { row := parseFindsUptoRow, standIns := [], harness := (true, "9fc80b2b7012d4e4f7dc5458d33f294cbc713dd206133f80e6994aaf3cb5c785"), looks := false }, kinds := [], alts := [], laidByText := true, laidKinds := [.data, .data, .pinned], laidTests := true, laidLooks := .later }
def ParseFindsUptoCardSaid : Prop := Claim7.holds Tryz.pinned (.plain (OpenSpec.upto parseFindsSpec)) parseFindsUptoCard

/-- THE SECOND FORM's CARD OF 'quillwortlaw13.ParseShape'. -/
def parseShapeUptoCard : Claim7 := { stood := { row := parseShapeUptoRow, standIns := [], harness := (true, "9fc80b2b7012d4e4f7dc5458d33f294cbc713dd206133f80e6994aaf3cb5c785"), looks := false }, kinds := [], alts := [], laidByText := true, laidKinds := [.data, .data, .pinned], laidTests := true, laidLooks := .later }
def ParseShapeUptoCardSaid : Prop := Claim7.holds Tryz.pinned (.plain (OpenSpec.upto parseShapeSpec)) parseShapeUptoCard

/-- THE SECOND FORM's CARD OF 'quillwortlaw13.ParseTexts'. -/
def parseTextsUptoCard : Claim7 := { stood := { row := parseTextsUptoRow, standIns := [], harness := (true, "9fc80b2b7012d4e4f7dc5458d33f294cbc713dd206133f80e6994aaf3cb5c785"), looks := false }, kinds := [], alts := [], laidByText := true, laidKinds := [.data, .data, .pinned], laidTests := true, laidLooks := .later }
def ParseTextsUptoCardSaid : Prop := Claim7.holds Tryz.pinned (.plain (OpenSpec.upto parseTextsSpec)) parseTextsUptoCard

/-- THE SECOND FORM's CARD OF 'quillwortlaw13.ParseFaults'. -/
def parseFaultsUptoCard : Claim7 := { stood := { row := parseFaultsUptoRow, standIns := [], harness := (true, "9fc80b2b7012d4e4f7dc5458d33f294cbc713dd206133f80e6994aaf3cb5c785"), looks := false }, kinds := [], alts := [], laidByText := true, laidKinds := [.data, .data, .pinned], laidTests := true, laidLooks := .later }
def ParseFaultsUptoCardSaid : Prop := Claim7.holds Tryz.pinned (.plain (OpenSpec.upto parseFaultsSpec)) parseFaultsUptoCard

/-- THE SECOND FORM's CARD OF 'quillwortlaw13.ParseLines'. -/
def parseLinesUptoCard : Claim7 := { stood := { row := parseLinesUptoRow, standIns := [], harness := (true, "9fc80b2b7012d4e4f7dc5458d33f294cbc713dd206133f80e6994aaf3cb5c785"), looks := false }, kinds := [], alts := [], laidByText := true, laidKinds := [.data, .data, .pinned], laidTests := true, laidLooks := .later }
def ParseLinesUptoCardSaid : Prop := Claim7.holds Tryz.pinned (.plain (OpenSpec.upto parseLinesSpec)) parseLinesUptoCard

/-- THE SECOND FORM's CARD OF 'quillwortlaw13.ParseCommands'. -/
def parseCommandsUptoCard : Claim7 := { stood := { row := parseCommandsUptoRow, standIns := [], harness := (true, "9fc80b2b7012d4e4f7dc5458d33f294cbc713dd206133f80e6994aaf3cb5c785"), looks := false }, kinds := [], alts := [], laidByText := true, laidKinds := [.data, .data, .pinned], laidTests := true, laidLooks := .later }
def ParseCommandsUptoCardSaid : Prop := Claim7.holds Tryz.pinned (.plain (OpenSpec.upto parseCommandsSpec)) parseCommandsUptoCard
end Rows
end Go.Proofs.YtkolpaonccmgiaaGreatDoor

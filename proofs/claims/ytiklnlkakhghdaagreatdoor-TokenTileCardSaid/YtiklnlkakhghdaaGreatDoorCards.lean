/-
  DERIVED. GIVEN WITH THE SEED: THE CARDS: each row of YtiklnlkakhghdaaGreatDoorRows.lean that lists a variable, with what it lists TIED to the program's text (the seventh form; the later family's looks); each row that meets fmt, with fmt's text TOLD by the authors' own Lean function (tested against real Go, not proved from fmt's source: count such statements apart). THE CARD IS WHAT COUNTS. Prove the row's statement (the work); the ties are given (YtiklnlkakhghdaaGreatDoorTie.lean); close each card by the builder's one call (the guide's Derived/Test/ToyasCard.lean, 'card_holds'). Laid BY PROGRAM, IN A SANDBOX (cutbox-door.mjs). By AI agents, Wed Nov 11 2026. No macro, syntax, notation, axiom, sorry.
-/
import Derived.Test.YtiklnlkakhghdaaGreatDoorRows
import GoSem.ClaimSeven
namespace Go.Proofs.YtiklnlkakhghdaaGreatDoor
namespace Rows

/-- THE TIED CARD OF 'quillwortlaw09.TokenLex'. -/
def tokenLexCard : Claim7 := { stood := { row := tokenLexRow, standIns := [], harness := (true, "32d65010354382eb5a3e99fbb02523abfb9f27075c235b40bc928295a4dc5e3a"), looks := false }, kinds := [], alts := [], laidByText := true, laidKinds := [.data, .data, .pinned], laidTests := true, laidLooks := .later }
def TokenLexCardSaid : Prop := Claim7.holds Tryz.pinned (.plain (OpenSpec.ofChange tokenLexSpec)) tokenLexCard

/-- THE TIED CARD OF 'quillwortlaw09.TokenTile'. -/
def tokenTileCard : Claim7 := { stood := { row := tokenTileRow, standIns := [], harness := (true, "32d65010354382eb5a3e99fbb02523abfb9f27075c235b40bc928295a4dc5e3a"), looks := false }, kinds := [], alts := [], laidByText := true, laidKinds := [.data, .data, .pinned], laidTests := true, laidLooks := .later }
def TokenTileCardSaid : Prop := Claim7.holds Tryz.pinned (.plain (OpenSpec.ofChange tokenTileSpec)) tokenTileCard

/-- THE TIED CARD OF 'quillwortlaw09.TokenStep'. -/
def tokenStepCard : Claim7 := { stood := { row := tokenStepRow, standIns := [], harness := (true, "32d65010354382eb5a3e99fbb02523abfb9f27075c235b40bc928295a4dc5e3a"), looks := false }, kinds := [], alts := [], laidByText := true, laidKinds := [.data, .data, .pinned], laidTests := true, laidLooks := .later }
def TokenStepCardSaid : Prop := Claim7.holds Tryz.pinned (.plain (OpenSpec.ofChange tokenStepSpec)) tokenStepCard

/-- THE TIED CARD OF 'quillwortlaw09.TokenAhead'. -/
def tokenAheadCard : Claim7 := { stood := { row := tokenAheadRow, standIns := [], harness := (true, "32d65010354382eb5a3e99fbb02523abfb9f27075c235b40bc928295a4dc5e3a"), looks := false }, kinds := [], alts := [], laidByText := true, laidKinds := [.data, .data, .pinned], laidTests := true, laidLooks := .later }
def TokenAheadCardSaid : Prop := Claim7.holds Tryz.pinned (.plain (OpenSpec.ofChange tokenAheadSpec)) tokenAheadCard

/-- THE TIED CARD OF 'quillwortlaw09.TokenLeaves'. -/
def tokenLeavesCard : Claim7 := { stood := { row := tokenLeavesRow, standIns := [], harness := (true, "32d65010354382eb5a3e99fbb02523abfb9f27075c235b40bc928295a4dc5e3a"), looks := false }, kinds := [], alts := [], laidByText := true, laidKinds := [.data, .data, .pinned], laidTests := true, laidLooks := .later }
def TokenLeavesCardSaid : Prop := Claim7.holds Tryz.pinned (.plain (OpenSpec.ofChange tokenLeavesSpec)) tokenLeavesCard

/-- THE TIED CARD OF 'quillwortlaw09.TokenRaw'. -/
def tokenRawCard : Claim7 := { stood := { row := tokenRawRow, standIns := [], harness := (true, "32d65010354382eb5a3e99fbb02523abfb9f27075c235b40bc928295a4dc5e3a"), looks := false }, kinds := [], alts := [], laidByText := true, laidKinds := [.data, .data, .pinned], laidTests := true, laidLooks := .later }
def TokenRawCardSaid : Prop := Claim7.holds Tryz.pinned (.plain (OpenSpec.ofChange tokenRawSpec)) tokenRawCard

/-- THE TIED CARD OF 'quillwortlaw09.TokenHere'. -/
def tokenHereCard : Claim7 := { stood := { row := tokenHereRow, standIns := [], harness := (true, "32d65010354382eb5a3e99fbb02523abfb9f27075c235b40bc928295a4dc5e3a"), looks := false }, kinds := [], alts := [], laidByText := true, laidKinds := [.data, .data, .pinned], laidTests := true, laidLooks := .later }
def TokenHereCardSaid : Prop := Claim7.holds Tryz.pinned (.plain (OpenSpec.ofChange tokenHereSpec)) tokenHereCard

/-- THE TIED CARD OF 'quillwortlaw09.TokenSame'. -/
def tokenSameCard : Claim7 := { stood := { row := tokenSameRow, standIns := [], harness := (true, "32d65010354382eb5a3e99fbb02523abfb9f27075c235b40bc928295a4dc5e3a"), looks := false }, kinds := [], alts := [], laidByText := true, laidKinds := [.data, .data, .pinned], laidTests := true, laidLooks := .later }
def TokenSameCardSaid : Prop := Claim7.holds Tryz.pinned (.plain (OpenSpec.ofChange tokenSameSpec)) tokenSameCard

/-- THE SECOND FORM's CARD OF 'quillwortlaw09.TokenLex'. -/
def tokenLexUptoCard : Claim7 := { stood := { row := tokenLexUptoRow, standIns := [], harness := (true, "32d65010354382eb5a3e99fbb02523abfb9f27075c235b40bc928295a4dc5e3a"), looks := false }, kinds := [], alts := [], laidByText := true, laidKinds := [.data, .data, .pinned], laidTests := true, laidLooks := .later }
def TokenLexUptoCardSaid : Prop := Claim7.holds Tryz.pinned (.plain (OpenSpec.upto tokenLexSpec)) tokenLexUptoCard

/-- THE SECOND FORM's CARD OF 'quillwortlaw09.TokenTile'. -/
def tokenTileUptoCard : Claim7 := { stood := { row := tokenTileUptoRow, standIns := [], harness := (true, "32d65010354382eb5a3e99fbb02523abfb9f27075c235b40bc928295a4dc5e3a"), looks := false }, kinds := [], alts := [], laidByText := true, laidKinds := [.data, .data, .pinned], laidTests := true, laidLooks := .later }
def TokenTileUptoCardSaid : Prop := Claim7.holds Tryz.pinned (.plain (OpenSpec.upto tokenTileSpec)) tokenTileUptoCard

/-- THE SECOND FORM's CARD OF 'quillwortlaw09.TokenStep'. -/
def tokenStepUptoCard : Claim7 := { stood := { row := tokenStepUptoRow, standIns := [], harness := (true, "32d65010354382eb5a3e99fbb02523abfb9f27075c235b40bc928295a4dc5e3a"), looks := false }, kinds := [], alts := [], laidByText := true, laidKinds := [.data, .data, .pinned], laidTests := true, laidLooks := .later }
def TokenStepUptoCardSaid : Prop := Claim7.holds Tryz.pinned (.plain (OpenSpec.upto tokenStepSpec)) tokenStepUptoCard

/-- THE SECOND FORM's CARD OF 'quillwortlaw09.TokenAhead'. -/
def tokenAheadUptoCard : Claim7 := { stood := { row := tokenAheadUptoRow, standIns := [], harness := (true, "32d65010354382eb5a3e99fbb02523abfb9f27075c235b40bc928295a4dc5e3a"), looks := false }, kinds := [], alts := [], laidByText := true, laidKinds := [.data, .data, .pinned], laidTests := true, laidLooks := .later }
def TokenAheadUptoCardSaid : Prop := Claim7.holds Tryz.pinned (.plain (OpenSpec.upto tokenAheadSpec)) tokenAheadUptoCard

/-- THE SECOND FORM's CARD OF 'quillwortlaw09.TokenLeaves'. -/
def tokenLeavesUptoCard : Claim7 := { stood := { row := tokenLeavesUptoRow, standIns := [], harness := (true, "32d65010354382eb5a3e99fbb02523abfb9f27075c235b40bc928295a4dc5e3a"), looks := false }, kinds := [], alts := [], laidByText := true, laidKinds := [.data, .data, .pinned], laidTests := true, laidLooks := .later }
def TokenLeavesUptoCardSaid : Prop := Claim7.holds Tryz.pinned (.plain (OpenSpec.upto tokenLeavesSpec)) tokenLeavesUptoCard

/-- THE SECOND FORM's CARD OF 'quillwortlaw09.TokenRaw'. -/
def tokenRawUptoCard : Claim7 := { stood := { row := tokenRawUptoRow, standIns := [], harness := (true, "32d65010354382eb5a3e99fbb02523abfb9f27075c235b40bc928295a4dc5e3a"), looks := false }, kinds := [], alts := [], laidByText := true, laidKinds := [.data, .data, .pinned], laidTests := true, laidLooks := .later }
def TokenRawUptoCardSaid : Prop := Claim7.holds Tryz.pinned (.plain (OpenSpec.upto tokenRawSpec)) tokenRawUptoCard

/-- THE SECOND FORM's CARD OF 'quillwortlaw09.TokenHere'. -/
def tokenHereUptoCard : Claim7 := { stood := { row := tokenHereUptoRow, standIns := [], harness := (true, "32d65010354382eb5a3e99fbb02523abfb9f27075c235b40bc928295a4dc5e3a"), looks := false }, kinds := [], alts := [], laidByText := true, laidKinds := [.data, .data, .pinned], laidTests := true, laidLooks := .later }
def TokenHereUptoCardSaid : Prop := Claim7.holds Tryz.pinned (.plain (OpenSpec.upto tokenHereSpec)) tokenHereUptoCard

/-- THE SECOND FORM's CARD OF 'quillwortlaw09.TokenSame'. -/
def tokenSameUptoCard : Claim7 := { stood := { row := tokenSameUptoRow, standIns := [], harness := (true, "32d65010354382eb5a3e99fbb02523abfb9f27075c235b40bc928295a4dc5e3a"), looks := false }, kinds := [], alts := [], laidByText := true, laidKinds := [.data, .data, .pinned], laidTests := true, laidLooks := .later }
def TokenSameUptoCardSaid : Prop := Claim7.holds Tryz.pinned (.plain (OpenSpec.upto tokenSameSpec)) tokenSameUptoCard
end Rows
end Go.Proofs.YtiklnlkakhghdaaGreatDoor

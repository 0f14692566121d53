/-
  DERIVED. GIVEN WITH THE SEED: THE CARDS: each row of YtgfkbfojeohlkaaGreatDoorRows.lean that lists a variable, with what it lists TIED to the program's text (the seventh form; the later family's looks); each row that meets fmt, with fmt's text TOLD by the authors' own Lean function (tested against real Go, not proved from fmt's source: count such statements apart). THE CARD IS WHAT COUNTS. Prove the row's statement (the work); the ties are given (YtgfkbfojeohlkaaGreatDoorTie.lean); close each card by the builder's one call (the guide's Derived/Test/ToyasCard.lean, 'card_holds'). Laid BY PROGRAM, IN A SANDBOX (cutbox-door.mjs). By AI agents, Wed Nov 11 2026. No macro, syntax, notation, axiom, sorry.
-/
import Derived.Test.YtgfkbfojeohlkaaGreatDoorRows
import GoSem.ClaimSeven
namespace Go.Proofs.YtgfkbfojeohlkaaGreatDoor
namespace Rows

/-- THE TIED CARD OF 'quillwortlaw09.TokenLex'. -/
def tokenLexCard : Claim7 := { stood := { row := tokenLexRow, standIns := [], harness := (true, "0828c31d7b6d265536ec3347485455329fd6b4cc42279fd72ccfbdad2de90f0e"), looks := false }, kinds := [], alts := [], laidByText := true, laidKinds := [.data, .data, .pinned], laidTests := true, laidLooks := .later }
def TokenLexCardSaid : Prop := Claim7.holds Tryz.pinned (.plain (OpenSpec.ofChange tokenLexSpec)) tokenLexCard

/-- THE TIED CARD OF 'quillwortlaw09.TokenTile'. -/
def tokenTileCard : Claim7 := { stood := { row := tokenTileRow, standIns := [], harness := (true, "0828c31d7b6d265536ec3347485455329fd6b4cc42279fd72ccfbdad2de90f0e"), looks := false }, kinds := [], alts := [], laidByText := true, laidKinds := [.data, .data, .pinned], laidTests := true, laidLooks := .later }
def TokenTileCardSaid : Prop := Claim7.holds Tryz.pinned (.plain (OpenSpec.ofChange tokenTileSpec)) tokenTileCard

/-- THE TIED CARD OF 'quillwortlaw09.TokenStep'. -/
def tokenStepCard : Claim7 := { stood := { row := tokenStepRow, standIns := [], harness := (true, "0828c31d7b6d265536ec3347485455329fd6b4cc42279fd72ccfbdad2de90f0e"), looks := false }, kinds := [], alts := [], laidByText := true, laidKinds := [.data, .data, .pinned], laidTests := true, laidLooks := .later }
def TokenStepCardSaid : Prop := Claim7.holds Tryz.pinned (.plain (OpenSpec.ofChange tokenStepSpec)) tokenStepCard

/-- THE TIED CARD OF 'quillwortlaw09.TokenAhead'. -/
def tokenAheadCard : Claim7 := { stood := { row := tokenAheadRow, standIns := [], harness := (true, "0828c31d7b6d265536ec3347485455329fd6b4cc42279fd72ccfbdad2de90f0e"), looks := false }, kinds := [], alts := [], laidByText := true, laidKinds := [.data, .data, .pinned], laidTests := true, laidLooks := .later }
def TokenAheadCardSaid : Prop := Claim7.holds Tryz.pinned (.plain (OpenSpec.ofChange tokenAheadSpec)) tokenAheadCard

/-- THE TIED CARD OF 'quillwortlaw09.TokenLeaves'. -/
def tokenLeavesCard : Claim7 := { stood := { row := tokenLeavesRow, standIns := [], harness := (true, "0828c31d7b6d265536ec3347485455329fd6b4cc42279fd72ccfbdad2de90f0e"), looks := false }, kinds := [], alts := [], laidByText := true, laidKinds := [.data, .data, .pinned], laidTests := true, laidLooks := .later }
def TokenLeavesCardSaid : Prop := Claim7.holds Tryz.pinned (.plain (OpenSpec.ofChange tokenLeavesSpec)) tokenLeavesCard

/-- THE TIED CARD OF 'quillwortlaw09.TokenRaw'. -/
def tokenRawCard : Claim7 := { stood := { row := tokenRawRow, standIns := [], harness := (true, "0828c31d7b6d265536ec3347485455329fd6b4cc42279fd72ccfbdad2de90f0e"), looks := false }, kinds := [], alts := [], laidByText := true, laidKinds := [.data, .data, .pinned], laidTests := true, laidLooks := .later }
def TokenRawCardSaid : Prop := Claim7.holds Tryz.pinned (.plain (OpenSpec.ofChange tokenRawSpec)) tokenRawCard

/-- THE TIED CARD OF 'quillwortlaw09.TokenHere'. -/
def tokenHereCard : Claim7 := { stood := { row := tokenHereRow, standIns := [], harness := (true, "0828c31d7b6d265536ec3347485455329fd6b4cc42279fd72ccfbdad2de90f0e"), looks := false }, kinds := [], alts := [], laidByText := true, laidKinds := [.data, .data, .pinned], laidTests := true, laidLooks := .later }
def TokenHereCardSaid : Prop := Claim7.holds Tryz.pinned (.plain (OpenSpec.ofChange tokenHereSpec)) tokenHereCard

/-- THE TIED CARD OF 'quillwortlaw09.TokenSame'. -/
def tokenSameCard : Claim7 := { stood := { row := tokenSameRow, standIns := [], harness := (true, "0828c31d7b6d265536ec3347485455329fd6b4cc42279fd72ccfbdad2de90f0e"), looks := false }, kinds := [], alts := [], laidByText := true, laidKinds := [.data, .data, .pinned], laidTests := true, laidLooks := .later }
def TokenSameCardSaid : Prop := Claim7.holds Tryz.pinned (.plain (OpenSpec.ofChange tokenSameSpec)) tokenSameCard

/-- THE TIED CARD OF 'quillwortlaw10.RelexFollows'. -/
def relexFollowsCard : Claim7 := { stood := { row := relexFollowsRow, standIns := [], harness := (true, "0828c31d7b6d265536ec3347485455329fd6b4cc42279fd72ccfbdad2de90f0e"), looks := false }, kinds := [], alts := [], laidByText := true, laidKinds := [.data, .data, .pinned], laidTests := true, laidLooks := .later }
def RelexFollowsCardSaid : Prop := Claim7.holds Tryz.pinned (.plain (OpenSpec.ofChange relexFollowsSpec)) relexFollowsCard

/-- THE TIED CARD OF 'quillwortlaw10.RelexKept'. -/
def relexKeptCard : Claim7 := { stood := { row := relexKeptRow, standIns := [], harness := (true, "0828c31d7b6d265536ec3347485455329fd6b4cc42279fd72ccfbdad2de90f0e"), looks := false }, kinds := [], alts := [], laidByText := true, laidKinds := [.data, .data, .pinned], laidTests := true, laidLooks := .later }
def RelexKeptCardSaid : Prop := Claim7.holds Tryz.pinned (.plain (OpenSpec.ofChange relexKeptSpec)) relexKeptCard

/-- THE TIED CARD OF 'quillwortlaw10.RelexAhead'. -/
def relexAheadCard : Claim7 := { stood := { row := relexAheadRow, standIns := [], harness := (true, "0828c31d7b6d265536ec3347485455329fd6b4cc42279fd72ccfbdad2de90f0e"), looks := false }, kinds := [], alts := [], laidByText := true, laidKinds := [.data, .data, .pinned], laidTests := true, laidLooks := .later }
def RelexAheadCardSaid : Prop := Claim7.holds Tryz.pinned (.plain (OpenSpec.ofChange relexAheadSpec)) relexAheadCard

/-- THE TIED CARD OF 'quillwortlaw10.RelexLeaves'. -/
def relexLeavesCard : Claim7 := { stood := { row := relexLeavesRow, standIns := [], harness := (true, "0828c31d7b6d265536ec3347485455329fd6b4cc42279fd72ccfbdad2de90f0e"), looks := false }, kinds := [], alts := [], laidByText := true, laidKinds := [.data, .data, .pinned], laidTests := true, laidLooks := .later }
def RelexLeavesCardSaid : Prop := Claim7.holds Tryz.pinned (.plain (OpenSpec.ofChange relexLeavesSpec)) relexLeavesCard

/-- THE TIED CARD OF 'quillwortlaw10.RelexHistory'. -/
def relexHistoryCard : Claim7 := { stood := { row := relexHistoryRow, standIns := [], harness := (true, "0828c31d7b6d265536ec3347485455329fd6b4cc42279fd72ccfbdad2de90f0e"), looks := false }, kinds := [], alts := [], laidByText := true, laidKinds := [.data, .data, .pinned], laidTests := true, laidLooks := .later }
def RelexHistoryCardSaid : Prop := Claim7.holds Tryz.pinned (.plain (OpenSpec.ofChange relexHistorySpec)) relexHistoryCard

/-- THE TIED CARD OF 'quillwortlaw10.RelexUndone'. -/
def relexUndoneCard : Claim7 := { stood := { row := relexUndoneRow, standIns := [], harness := (true, "0828c31d7b6d265536ec3347485455329fd6b4cc42279fd72ccfbdad2de90f0e"), looks := false }, kinds := [], alts := [], laidByText := true, laidKinds := [.data, .data, .pinned], laidTests := true, laidLooks := .later }
def RelexUndoneCardSaid : Prop := Claim7.holds Tryz.pinned (.plain (OpenSpec.ofChange relexUndoneSpec)) relexUndoneCard

/-- THE SECOND FORM's CARD OF 'quillwortlaw09.TokenLex'. -/
def tokenLexUptoCard : Claim7 := { stood := { row := tokenLexUptoRow, standIns := [], harness := (true, "0828c31d7b6d265536ec3347485455329fd6b4cc42279fd72ccfbdad2de90f0e"), looks := false }, kinds := [], alts := [], laidByText := true, laidKinds := [.data, .data, .pinned], laidTests := true, laidLooks := .later }
def TokenLexUptoCardSaid : Prop := Claim7.holds Tryz.pinned (.plain (OpenSpec.upto tokenLexSpec)) tokenLexUptoCard

/-- THE SECOND FORM's CARD OF 'quillwortlaw09.TokenTile'. -/
def tokenTileUptoCard : Claim7 := { stood := { row := tokenTileUptoRow, standIns := [], harness := (true, "0828c31d7b6d265536ec3347485455329fd6b4cc42279fd72ccfbdad2de90f0e"), looks := false }, kinds := [], alts := [], laidByText := true, laidKinds := [.data, .data, .pinned], laidTests := true, laidLooks := .later }
def TokenTileUptoCardSaid : Prop := Claim7.holds Tryz.pinned (.plain (OpenSpec.upto tokenTileSpec)) tokenTileUptoCard

/-- THE SECOND FORM's CARD OF 'quillwortlaw09.TokenStep'. -/
def tokenStepUptoCard : Claim7 := { stood := { row := tokenStepUptoRow, standIns := [], harness := (true, "0828c31d7b6d265536ec3347485455329fd6b4cc42279fd72ccfbdad2de90f0e"), looks := false }, kinds := [], alts := [], laidByText := true, laidKinds := [.data, .data, .pinned], laidTests := true, laidLooks := .later }
def TokenStepUptoCardSaid : Prop := Claim7.holds Tryz.pinned (.plain (OpenSpec.upto tokenStepSpec)) tokenStepUptoCard

/-- THE SECOND FORM's CARD OF 'quillwortlaw09.TokenAhead'. -/
def tokenAheadUptoCard : Claim7 := { stood := { row := tokenAheadUptoRow, standIns := [], harness := (true, "0828c31d7b6d265536ec3347485455329fd6b4cc42279fd72ccfbdad2de90f0e"), looks := false }, kinds := [], alts := [], laidByText := true, laidKinds := [.data, .data, .pinned], laidTests := true, laidLooks := .later }
def TokenAheadUptoCardSaid : Prop := Claim7.holds Tryz.pinned (.plain (OpenSpec.upto tokenAheadSpec)) tokenAheadUptoCard

/-- THE SECOND FORM's CARD OF 'quillwortlaw09.TokenLeaves'. -/
def tokenLeavesUptoCard : Claim7 := { stood := { row := tokenLeavesUptoRow, standIns := [], harness := (true, "0828c31d7b6d265536ec3347485455329fd6b4cc42279fd72ccfbdad2de90f0e"), looks := false }, kinds := [], alts := [], laidByText := true, laidKinds := [.data, .data, .pinned], laidTests := true, laidLooks := .later }
def TokenLeavesUptoCardSaid : Prop := Claim7.holds Tryz.pinned (.plain (OpenSpec.upto tokenLeavesSpec)) tokenLeavesUptoCard

/-- THE SECOND FORM's CARD OF 'quillwortlaw09.TokenRaw'. -/
def tokenRawUptoCard : Claim7 := { stood := { row := tokenRawUptoRow, standIns := [], harness := (true, "0828c31d7b6d265536ec3347485455329fd6b4cc42279fd72ccfbdad2de90f0e"), looks := false }, kinds := [], alts := [], laidByText := true, laidKinds := [.data, .data, .pinned], laidTests := true, laidLooks := .later }
def TokenRawUptoCardSaid : Prop := Claim7.holds Tryz.pinned (.plain (OpenSpec.upto tokenRawSpec)) tokenRawUptoCard

/-- THE SECOND FORM's CARD OF 'quillwortlaw09.TokenHere'. -/
def tokenHereUptoCard : Claim7 := { stood := { row := tokenHereUptoRow, standIns := [], harness := (true, "0828c31d7b6d265536ec3347485455329fd6b4cc42279fd72ccfbdad2de90f0e"), looks := false }, kinds := [], alts := [], laidByText := true, laidKinds := [.data, .data, .pinned], laidTests := true, laidLooks := .later }
def TokenHereUptoCardSaid : Prop := Claim7.holds Tryz.pinned (.plain (OpenSpec.upto tokenHereSpec)) tokenHereUptoCard

/-- THE SECOND FORM's CARD OF 'quillwortlaw09.TokenSame'. -/
def tokenSameUptoCard : Claim7 := { stood := { row := tokenSameUptoRow, standIns := [], harness := (true, "0828c31d7b6d265536ec3347485455329fd6b4cc42279fd72ccfbdad2de90f0e"), looks := false }, kinds := [], alts := [], laidByText := true, laidKinds := [.data, .data, .pinned], laidTests := true, laidLooks := .later }
def TokenSameUptoCardSaid : Prop := Claim7.holds Tryz.pinned (.plain (OpenSpec.upto tokenSameSpec)) tokenSameUptoCard

/-- THE SECOND FORM's CARD OF 'quillwortlaw10.RelexFollows'. -/
def relexFollowsUptoCard : Claim7 := { stood := { row := relexFollowsUptoRow, standIns := [], harness := (true, "0828c31d7b6d265536ec3347485455329fd6b4cc42279fd72ccfbdad2de90f0e"), looks := false }, kinds := [], alts := [], laidByText := true, laidKinds := [.data, .data, .pinned], laidTests := true, laidLooks := .later }
def RelexFollowsUptoCardSaid : Prop := Claim7.holds Tryz.pinned (.plain (OpenSpec.upto relexFollowsSpec)) relexFollowsUptoCard

/-- THE SECOND FORM's CARD OF 'quillwortlaw10.RelexKept'. -/
def relexKeptUptoCard : Claim7 := { stood := { row := relexKeptUptoRow, standIns := [], harness := (true, "0828c31d7b6d265536ec3347485455329fd6b4cc42279fd72ccfbdad2de90f0e"), looks := false }, kinds := [], alts := [], laidByText := true, laidKinds := [.data, .data, .pinned], laidTests := true, laidLooks := .later }
def RelexKeptUptoCardSaid : Prop := Claim7.holds Tryz.pinned (.plain (OpenSpec.upto relexKeptSpec)) relexKeptUptoCard

/-- THE SECOND FORM's CARD OF 'quillwortlaw10.RelexAhead'. -/
def relexAheadUptoCard : Claim7 := { stood := { row := relexAheadUptoRow, standIns := [], harness := (true, "0828c31d7b6d265536ec3347485455329fd6b4cc42279fd72ccfbdad2de90f0e"), looks := false }, kinds := [], alts := [], laidByText := true, laidKinds := [.data, .data, .pinned], laidTests := true, laidLooks := .later }
def RelexAheadUptoCardSaid : Prop := Claim7.holds Tryz.pinned (.plain (OpenSpec.upto relexAheadSpec)) relexAheadUptoCard

/-- THE SECOND FORM's CARD OF 'quillwortlaw10.RelexLeaves'. -/
def relexLeavesUptoCard : Claim7 := { stood := { row := relexLeavesUptoRow, standIns := [], harness := (true, "0828c31d7b6d265536ec3347485455329fd6b4cc42279fd72ccfbdad2de90f0e"), looks := false }, kinds := [], alts := [], laidByText := true, laidKinds := [.data, .data, .pinned], laidTests := true, laidLooks := .later }
def RelexLeavesUptoCardSaid : Prop := Claim7.holds Tryz.pinned (.plain (OpenSpec.upto relexLeavesSpec)) relexLeavesUptoCard

/-- THE SECOND FORM's CARD OF 'quillwortlaw10.RelexHistory'. -/
def relexHistoryUptoCard : Claim7 := { stood := { row := relexHistoryUptoRow, standIns := [], harness := (true, "0828c31d7b6d265536ec3347485455329fd6b4cc42279fd72ccfbdad2de90f0e"), looks := false }, kinds := [], alts := [], laidByText := true, laidKinds := [.data, .data, .pinned], laidTests := true, laidLooks := .later }
def RelexHistoryUptoCardSaid : Prop := Claim7.holds Tryz.pinned (.plain (OpenSpec.upto relexHistorySpec)) relexHistoryUptoCard

/-- THE SECOND FORM's CARD OF 'quillwortlaw10.RelexUndone'. -/
def relexUndoneUptoCard : Claim7 := { stood := { row := relexUndoneUptoRow, standIns := [], harness := (true, "0828c31d7b6d265536ec3347485455329fd6b4cc42279fd72ccfbdad2de90f0e"), looks := false }, kinds := [], alts := [], laidByText := true, laidKinds := [.data, .data, .pinned], laidTests := true, laidLooks := .later }
def RelexUndoneUptoCardSaid : Prop := Claim7.holds Tryz.pinned (.plain (OpenSpec.upto relexUndoneSpec)) relexUndoneUptoCard
end Rows
end Go.Proofs.YtgfkbfojeohlkaaGreatDoor

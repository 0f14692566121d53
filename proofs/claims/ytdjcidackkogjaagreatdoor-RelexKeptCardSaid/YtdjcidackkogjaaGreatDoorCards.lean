/-
  DERIVED. GIVEN WITH THE SEED: THE CARDS: each row of YtdjcidackkogjaaGreatDoorRows.lean that lists a variable, with what it lists TIED to the program's text (the seventh form; the later family's looks); each row that meets fmt, with fmt's text TOLD by the authors' own Lean function (tested against real Go, not proved from fmt's source: count such statements apart). THE CARD IS WHAT COUNTS. Prove the row's statement (the work); the ties are given (YtdjcidackkogjaaGreatDoorTie.lean); close each card by the builder's one call (the guide's Derived/Test/ToyasCard.lean, 'card_holds'). Laid BY PROGRAM, IN A SANDBOX (cutbox-door.mjs). By AI agents, Wed Nov 11 2026. No macro, syntax, notation, axiom, sorry.
-/
import Derived.Test.YtdjcidackkogjaaGreatDoorRows
import GoSem.ClaimSeven
namespace Go.Proofs.YtdjcidackkogjaaGreatDoor
namespace Rows

/-- THE TIED CARD OF 'quillwortlaw10.RelexFollows'. -/
def relexFollowsCard : Claim7 := { stood := { row := relexFollowsRow, standIns := [], harness := (true, "e4571f1b0622410e5970c0cc5c0cc6b916dae1d7b3591fa3eff8f78ce5c3b1c7"), looks := false }, kinds := [], alts := [], laidByText := true, laidKinds := [.data, .data, .pinned], laidTests := true, laidLooks := .later }
def RelexFollowsCardSaid : Prop := Claim7.holds Tryz.pinned (.plain (OpenSpec.ofChange relexFollowsSpec)) relexFollowsCard

/-- THE TIED CARD OF 'quillwortlaw10.RelexKept'. -/
def relexKeptCard : Claim7 := { stood := { row := relexKeptRow, standIns := [], harness := (true, "e4571f1b0622410e5970c0cc5c0cc6b916dae1d7b3591fa3eff8f78ce5c3b1c7"), looks := false }, kinds := [], alts := [], laidByText := true, laidKinds := [.data, .data, .pinned], laidTests := true, laidLooks := .later }
def RelexKeptCardSaid : Prop := Claim7.holds Tryz.pinned (.plain (OpenSpec.ofChange relexKeptSpec)) relexKeptCard

/-- THE TIED CARD OF 'quillwortlaw10.RelexAhead'. -/
def relexAheadCard : Claim7 := { stood := { row := relexAheadRow, standIns := [], harness := (true, "e4571f1b0622410e5970c0cc5c0cc6b916dae1d7b3591fa3eff8f78ce5c3b1c7"), looks := false }, kinds := [], alts := [], laidByText := true, laidKinds := [.data, .data, .pinned], laidTests := true, laidLooks := .later }
def RelexAheadCardSaid : Prop := Claim7.holds Tryz.pinned (.plain (OpenSpec.ofChange relexAheadSpec)) relexAheadCard

/-- THE TIED CARD OF 'quillwortlaw10.RelexLeaves'. -/
def relexLeavesCard : Claim7 := { stood := { row := relexLeavesRow, standIns := [], harness := (true, "e4571f1b0622410e5970c0cc5c0cc6b916dae1d7b3591fa3eff8f78ce5c3b1c7"), looks := false }, kinds := [], alts := [], laidByText := true, laidKinds := [.data, .data, .pinned], laidTests := true, laidLooks := .later }
def RelexLeavesCardSaid : Prop := Claim7.holds Tryz.pinned (.plain (OpenSpec.ofChange relexLeavesSpec)) relexLeavesCard

/-- THE TIED CARD OF 'quillwortlaw10.RelexHistory'. -/
def relexHistoryCard : Claim7 := { stood := { row := relexHistoryRow, standIns := [], harness := (true, "e4571f1b0622410e5970c0cc5c0cc6b916dae1d7b3591fa3eff8f78ce5c3b1c7"), looks := false }, kinds := [], alts := [], laidByText := true, laidKinds := [.data, .data, .pinned], laidTests := true, laidLooks := .later }
def RelexHistoryCardSaid : Prop := Claim7.holds Tryz.pinned (.plain (OpenSpec.ofChange relexHistorySpec)) relexHistoryCard

/-- THE TIED CARD OF 'quillwortlaw10.RelexUndone'. -/
def relexUndoneCard : Claim7 := { stood := { row := relexUndoneRow, standIns := [], harness := (true, "e4571f1b0622410e5970c0cc5c0cc6b916dae1d7b3591fa3eff8f78ce5c3b1c7"), looks := false }, kinds := [], alts := [], laidByText := true, laidKinds := [.data, .data, .pinned], laidTests := true, laidLooks := .later }
def RelexUndoneCardSaid : Prop := Claim7.holds Tryz.pinned (.plain (OpenSpec.ofChange relexUndoneSpec)) relexUndoneCard

/-- THE SECOND FORM's CARD OF 'quillwortlaw10.RelexFollows'. -/
def relexFollowsUptoCard : Claim7 := { stood := { row := relexFollowsUptoRow, standIns := [], harness := (true, "e4571f1b0622410e5970c0cc5c0cc6b916dae1d7b3591fa3eff8f78ce5c3b1c7"), looks := false }, kinds := [], alts := [], laidByText := true, laidKinds := [.data, .data, .pinned], laidTests := true, laidLooks := .later }
def RelexFollowsUptoCardSaid : Prop := Claim7.holds Tryz.pinned (.plain (OpenSpec.upto relexFollowsSpec)) relexFollowsUptoCard

/-- THE SECOND FORM's CARD OF 'quillwortlaw10.RelexKept'. -/
def relexKeptUptoCard : Claim7 := { stood := { row := relexKeptUptoRow, standIns := [], harness := (true, "e4571f1b0622410e5970c0cc5c0cc6b916dae1d7b3591fa3eff8f78ce5c3b1c7"), looks := false }, kinds := [], alts := [], laidByText := true, laidKinds := [.data, .data, .pinned], laidTests := true, laidLooks := .later }
def RelexKeptUptoCardSaid : Prop := Claim7.holds Tryz.pinned (.plain (OpenSpec.upto relexKeptSpec)) relexKeptUptoCard

/-- THE SECOND FORM's CARD OF 'quillwortlaw10.RelexAhead'. -/
def relexAheadUptoCard : Claim7 := { stood := { row := relexAheadUptoRow, standIns := [], harness := (true, "e4571f1b0622410e5970c0cc5c0cc6b916dae1d7b3591fa3eff8f78ce5c3b1c7"), looks := false }, kinds := [], alts := [], laidByText := true, laidKinds := [.data, .data, .pinned], laidTests := true, laidLooks := .later }
def RelexAheadUptoCardSaid : Prop := Claim7.holds Tryz.pinned (.plain (OpenSpec.upto relexAheadSpec)) relexAheadUptoCard

/-- THE SECOND FORM's CARD OF 'quillwortlaw10.RelexLeaves'. -/
def relexLeavesUptoCard : Claim7 := { stood := { row := relexLeavesUptoRow, standIns := [], harness := (true, "e4571f1b0622410e5970c0cc5c0cc6b916dae1d7b3591fa3eff8f78ce5c3b1c7"), looks := false }, kinds := [], alts := [], laidByText := true, laidKinds := [.data, .data, .pinned], laidTests := true, laidLooks := .later }
def RelexLeavesUptoCardSaid : Prop := Claim7.holds Tryz.pinned (.plain (OpenSpec.upto relexLeavesSpec)) relexLeavesUptoCard

/-- THE SECOND FORM's CARD OF 'quillwortlaw10.RelexHistory'. -/
def relexHistoryUptoCard : Claim7 := { stood := { row := relexHistoryUptoRow, standIns := [], harness := (true, "e4571f1b0622410e5970c0cc5c0cc6b916dae1d7b3591fa3eff8f78ce5c3b1c7"), looks := false }, kinds := [], alts := [], laidByText := true, laidKinds := [.data, .data, .pinned], laidTests := true, laidLooks := .later }
def RelexHistoryUptoCardSaid : Prop := Claim7.holds Tryz.pinned (.plain (OpenSpec.upto relexHistorySpec)) relexHistoryUptoCard

/-- THE SECOND FORM's CARD OF 'quillwortlaw10.RelexUndone'. -/
def relexUndoneUptoCard : Claim7 := { stood := { row := relexUndoneUptoRow, standIns := [], harness := (true, "e4571f1b0622410e5970c0cc5c0cc6b916dae1d7b3591fa3eff8f78ce5c3b1c7"), looks := false }, kinds := [], alts := [], laidByText := true, laidKinds := [.data, .data, .pinned], laidTests := true, laidLooks := .later }
def RelexUndoneUptoCardSaid : Prop := Claim7.holds Tryz.pinned (.plain (OpenSpec.upto relexUndoneSpec)) relexUndoneUptoCard
end Rows
end Go.Proofs.YtdjcidackkogjaaGreatDoor

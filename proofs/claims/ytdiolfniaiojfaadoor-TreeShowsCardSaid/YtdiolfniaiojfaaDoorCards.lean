/-
  DERIVED. GIVEN WITH THE SEED: THE CARDS: each row of YtdiolfniaiojfaaDoorRows.lean that lists a variable, with what it lists TIED to the program's text (the seventh form; the later family's looks); each row that meets fmt, with fmt's text TOLD by the authors' own Lean function (tested against real Go, not proved from fmt's source: count such statements apart). THE CARD IS WHAT COUNTS. Prove the row's statement (the work); the ties are given (YtdiolfniaiojfaaDoorTie.lean); close each card by the builder's one call (the guide's Derived/Test/ToyasCard.lean, 'card_holds'). Laid BY PROGRAM, IN A SANDBOX (cutbox-door.mjs). By AI agents, Wed Nov 11 2026. No macro, syntax, notation, axiom, sorry.
-/
import Derived.Test.YtdiolfniaiojfaaDoorRows
import GoSem.ClaimSeven
namespace Go.Proofs.YtdiolfniaiojfaaDoor
namespace Rows

/-- THE TIED CARD OF 'quillwortlaw11.TreeShows'. -/
def treeShowsCard : Claim7 := { stood := { row := treeShowsRow, standIns := [], harness := (true, "fee2a748d8bd5c898fffc42dfdf39b0023dc1f96fc6daa5e3d7fb4b2d4380d6f"), looks := false }, kinds := [], alts := [], laidByText := true, laidKinds := [.data, .data, .data], laidTests := true, laidLooks := .later }
def TreeShowsCardSaid : Prop := Claim7.holds Tryd.pinned (.plain (OpenSpec.ofChange treeShowsSpec)) treeShowsCard

/-- THE SECOND FORM's CARD OF 'quillwortlaw11.TreeShows'. -/
def treeShowsUptoCard : Claim7 := { stood := { row := treeShowsUptoRow, standIns := [], harness := (true, "fee2a748d8bd5c898fffc42dfdf39b0023dc1f96fc6daa5e3d7fb4b2d4380d6f"), looks := false }, kinds := [], alts := [], laidByText := true, laidKinds := [.data, .data, .data], laidTests := true, laidLooks := .later }
def TreeShowsUptoCardSaid : Prop := Claim7.holds Tryd.pinned (.plain (OpenSpec.upto treeShowsSpec)) treeShowsUptoCard
end Rows
end Go.Proofs.YtdiolfniaiojfaaDoor

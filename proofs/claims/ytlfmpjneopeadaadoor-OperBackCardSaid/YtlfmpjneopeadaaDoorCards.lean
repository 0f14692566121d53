/-
  DERIVED. GIVEN WITH THE SEED: THE CARDS: each row of YtlfmpjneopeadaaDoorRows.lean that lists a variable, with what it lists TIED to the program's text (the seventh form; the later family's looks); each row that meets fmt, with fmt's text TOLD by the authors' own Lean function (tested against real Go, not proved from fmt's source: count such statements apart). THE CARD IS WHAT COUNTS. Prove the row's statement (the work); the ties are given (YtlfmpjneopeadaaDoorTie.lean); close each card by the builder's one call (the guide's Derived/Test/ToyasCard.lean, 'card_holds'). Laid BY PROGRAM, IN A SANDBOX (cutbox-door.mjs). By AI agents, Wed Nov 11 2026. No macro, syntax, notation, axiom, sorry.
-/
import Derived.Test.YtlfmpjneopeadaaDoorRows
import GoSem.ClaimSeven
namespace Go.Proofs.YtlfmpjneopeadaaDoor
namespace Rows

/-- THE TIED CARD OF 'quillwortlaw05.OperAt'. -/
def operAtCard : Claim7 := { stood := { row := operAtRow, standIns := [], harness := (true, "a0cceebf665687b67e89874e5e9e673c5bce0d1e7d6c6d76ebca363ab34a4b0b"), looks := false }, kinds := [], alts := [], laidByText := true, laidKinds := [.data], laidTests := true, laidLooks := .later }
def OperAtCardSaid : Prop := Claim7.holds Tryd.pinned (.plain (OpenSpec.ofChange operAtSpec)) operAtCard

/-- THE TIED CARD OF 'quillwortlaw05.OperNames'. -/
def operNamesCard : Claim7 := { stood := { row := operNamesRow, standIns := [], harness := (true, "a0cceebf665687b67e89874e5e9e673c5bce0d1e7d6c6d76ebca363ab34a4b0b"), looks := false }, kinds := [], alts := [], laidByText := true, laidKinds := [.data], laidTests := true, laidLooks := .later }
def OperNamesCardSaid : Prop := Claim7.holds Tryd.pinned (.plain (OpenSpec.ofChange operNamesSpec)) operNamesCard

/-- THE TIED CARD OF 'quillwortlaw05.OperTight'. -/
def operTightCard : Claim7 := { stood := { row := operTightRow, standIns := [], harness := (true, "a0cceebf665687b67e89874e5e9e673c5bce0d1e7d6c6d76ebca363ab34a4b0b"), looks := false }, kinds := [], alts := [], laidByText := true, laidKinds := [.data], laidTests := true, laidLooks := .later }
def OperTightCardSaid : Prop := Claim7.holds Tryd.pinned (.plain (OpenSpec.ofChange operTightSpec)) operTightCard

/-- THE TIED CARD OF 'quillwortlaw05.OperSplits'. -/
def operSplitsCard : Claim7 := { stood := { row := operSplitsRow, standIns := [], harness := (true, "a0cceebf665687b67e89874e5e9e673c5bce0d1e7d6c6d76ebca363ab34a4b0b"), looks := false }, kinds := [], alts := [], laidByText := true, laidKinds := [.data], laidTests := true, laidLooks := .later }
def OperSplitsCardSaid : Prop := Claim7.holds Tryd.pinned (.plain (OpenSpec.ofChange operSplitsSpec)) operSplitsCard

/-- THE TIED CARD OF 'quillwortlaw05.OperBack'. -/
def operBackCard : Claim7 := { stood := { row := operBackRow, standIns := [], harness := (true, "a0cceebf665687b67e89874e5e9e673c5bce0d1e7d6c6d76ebca363ab34a4b0b"), looks := false }, kinds := [], alts := [], laidByText := true, laidKinds := [.data], laidTests := true, laidLooks := .later }
def OperBackCardSaid : Prop := Claim7.holds Tryd.pinned (.plain (OpenSpec.ofChange operBackSpec)) operBackCard

/-- THE SECOND FORM's CARD OF 'quillwortlaw05.OperAt'. -/
def operAtUptoCard : Claim7 := { stood := { row := operAtUptoRow, standIns := [], harness := (true, "a0cceebf665687b67e89874e5e9e673c5bce0d1e7d6c6d76ebca363ab34a4b0b"), looks := false }, kinds := [], alts := [], laidByText := true, laidKinds := [.data], laidTests := true, laidLooks := .later }
def OperAtUptoCardSaid : Prop := Claim7.holds Tryd.pinned (.plain (OpenSpec.upto operAtSpec)) operAtUptoCard

/-- THE SECOND FORM's CARD OF 'quillwortlaw05.OperNames'. -/
def operNamesUptoCard : Claim7 := { stood := { row := operNamesUptoRow, standIns := [], harness := (true, "a0cceebf665687b67e89874e5e9e673c5bce0d1e7d6c6d76ebca363ab34a4b0b"), looks := false }, kinds := [], alts := [], laidByText := true, laidKinds := [.data], laidTests := true, laidLooks := .later }
def OperNamesUptoCardSaid : Prop := Claim7.holds Tryd.pinned (.plain (OpenSpec.upto operNamesSpec)) operNamesUptoCard

/-- THE SECOND FORM's CARD OF 'quillwortlaw05.OperTight'. -/
def operTightUptoCard : Claim7 := { stood := { row := operTightUptoRow, standIns := [], harness := (true, "a0cceebf665687b67e89874e5e9e673c5bce0d1e7d6c6d76ebca363ab34a4b0b"), looks := false }, kinds := [], alts := [], laidByText := true, laidKinds := [.data], laidTests := true, laidLooks := .later }
def OperTightUptoCardSaid : Prop := Claim7.holds Tryd.pinned (.plain (OpenSpec.upto operTightSpec)) operTightUptoCard

/-- THE SECOND FORM's CARD OF 'quillwortlaw05.OperSplits'. -/
def operSplitsUptoCard : Claim7 := { stood := { row := operSplitsUptoRow, standIns := [], harness := (true, "a0cceebf665687b67e89874e5e9e673c5bce0d1e7d6c6d76ebca363ab34a4b0b"), looks := false }, kinds := [], alts := [], laidByText := true, laidKinds := [.data], laidTests := true, laidLooks := .later }
def OperSplitsUptoCardSaid : Prop := Claim7.holds Tryd.pinned (.plain (OpenSpec.upto operSplitsSpec)) operSplitsUptoCard

/-- THE SECOND FORM's CARD OF 'quillwortlaw05.OperBack'. -/
def operBackUptoCard : Claim7 := { stood := { row := operBackUptoRow, standIns := [], harness := (true, "a0cceebf665687b67e89874e5e9e673c5bce0d1e7d6c6d76ebca363ab34a4b0b"), looks := false }, kinds := [], alts := [], laidByText := true, laidKinds := [.data], laidTests := true, laidLooks := .later }
def OperBackUptoCardSaid : Prop := Claim7.holds Tryd.pinned (.plain (OpenSpec.upto operBackSpec)) operBackUptoCard
end Rows
end Go.Proofs.YtlfmpjneopeadaaDoor

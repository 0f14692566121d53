/-
  DERIVED. GIVEN WITH THE SEED: THE CARDS: each row of YtmjckjbdkffkoaaDoorRows.lean that lists a variable, with what it lists TIED to the program's text (the seventh form; the later family's looks); each row that meets fmt, with fmt's text TOLD by the authors' own Lean function (tested against real Go, not proved from fmt's source: count such statements apart). THE CARD IS WHAT COUNTS. Prove the row's statement (the work); the ties are given (YtmjckjbdkffkoaaDoorTie.lean); close each card by the builder's one call (the guide's Derived/Test/ToyasCard.lean, 'card_holds'). Laid BY PROGRAM, IN A SANDBOX (cutbox-door.mjs). By AI agents, Wed Nov 11 2026. No macro, syntax, notation, axiom, sorry.
-/
import Derived.Test.YtmjckjbdkffkoaaDoorRows
import GoSem.ClaimSeven
namespace Go.Proofs.YtmjckjbdkffkoaaDoor
namespace Rows

/-- THE TIED CARD OF 'quillwortlaw11.TreeShows'. -/
def treeShowsCard : Claim7 := { stood := { row := treeShowsRow, standIns := [], harness := (true, "135fd751a33b45c732960bce3b158c695d45d7c77d22e4c0e09fe6405604ac95"), looks := false }, kinds := [], alts := [], laidByText := true, laidKinds := [.data, .data, .data], laidTests := true, laidLooks := .later }
def TreeShowsCardSaid : Prop := Claim7.holds Tryd.pinned (.plain (OpenSpec.ofChange treeShowsSpec)) treeShowsCard

/-- THE TIED CARD OF 'quillwortlaw12.RulesSigns'. -/
def rulesSignsCard : Claim7 := { stood := { row := rulesSignsRow, standIns := [], harness := (true, "135fd751a33b45c732960bce3b158c695d45d7c77d22e4c0e09fe6405604ac95"), looks := false }, kinds := [], alts := [], laidByText := true, laidKinds := [.data, .data], laidTests := true, laidLooks := .later }
def RulesSignsCardSaid : Prop := Claim7.holds Tryd.pinned (.plain (OpenSpec.ofChange rulesSignsSpec)) rulesSignsCard

/-- THE TIED CARD OF 'quillwortlaw12.RulesForms'. -/
def rulesFormsCard : Claim7 := { stood := { row := rulesFormsRow, standIns := [], harness := (true, "135fd751a33b45c732960bce3b158c695d45d7c77d22e4c0e09fe6405604ac95"), looks := false }, kinds := [], alts := [], laidByText := true, laidKinds := [.data, .data], laidTests := true, laidLooks := .later }
def RulesFormsCardSaid : Prop := Claim7.holds Tryd.pinned (.plain (OpenSpec.ofChange rulesFormsSpec)) rulesFormsCard

/-- THE TIED CARD OF 'quillwortlaw12.RulesRight'. -/
def rulesRightCard : Claim7 := { stood := { row := rulesRightRow, standIns := [], harness := (true, "135fd751a33b45c732960bce3b158c695d45d7c77d22e4c0e09fe6405604ac95"), looks := false }, kinds := [], alts := [], laidByText := true, laidKinds := [.data, .data], laidTests := true, laidLooks := .later }
def RulesRightCardSaid : Prop := Claim7.holds Tryd.pinned (.plain (OpenSpec.ofChange rulesRightSpec)) rulesRightCard

/-- THE TIED CARD OF 'quillwortlaw12.RulesWords'. -/
def rulesWordsCard : Claim7 := { stood := { row := rulesWordsRow, standIns := [], harness := (true, "135fd751a33b45c732960bce3b158c695d45d7c77d22e4c0e09fe6405604ac95"), looks := false }, kinds := [], alts := [], laidByText := true, laidKinds := [.data, .data], laidTests := true, laidLooks := .later }
def RulesWordsCardSaid : Prop := Claim7.holds Tryd.pinned (.plain (OpenSpec.ofChange rulesWordsSpec)) rulesWordsCard

/-- THE TIED CARD OF 'quillwortlaw12.RulesDeep'. -/
def rulesDeepCard : Claim7 := { stood := { row := rulesDeepRow, standIns := [], harness := (true, "135fd751a33b45c732960bce3b158c695d45d7c77d22e4c0e09fe6405604ac95"), looks := false }, kinds := [], alts := [], laidByText := true, laidKinds := [.data, .data], laidTests := true, laidLooks := .later }
def RulesDeepCardSaid : Prop := Claim7.holds Tryd.pinned (.plain (OpenSpec.ofChange rulesDeepSpec)) rulesDeepCard

/-- THE TIED CARD OF 'quillwortlaw12.RulesNames'. -/
def rulesNamesCard : Claim7 := { stood := { row := rulesNamesRow, standIns := [], harness := (true, "135fd751a33b45c732960bce3b158c695d45d7c77d22e4c0e09fe6405604ac95"), looks := false }, kinds := [], alts := [], laidByText := true, laidKinds := [.data, .data], laidTests := true, laidLooks := .later }
def RulesNamesCardSaid : Prop := Claim7.holds Tryd.pinned (.plain (OpenSpec.ofChange rulesNamesSpec)) rulesNamesCard

/-- THE SECOND FORM's CARD OF 'quillwortlaw11.TreeShows'. -/
def treeShowsUptoCard : Claim7 := { stood := { row := treeShowsUptoRow, standIns := [], harness := (true, "135fd751a33b45c732960bce3b158c695d45d7c77d22e4c0e09fe6405604ac95"), looks := false }, kinds := [], alts := [], laidByText := true, laidKinds := [.data, .data, .data], laidTests := true, laidLooks := .later }
def TreeShowsUptoCardSaid : Prop := Claim7.holds Tryd.pinned (.plain (OpenSpec.upto treeShowsSpec)) treeShowsUptoCard

/-- THE SECOND FORM's CARD OF 'quillwortlaw12.RulesSigns'. -/
def rulesSignsUptoCard : Claim7 := { stood := { row := rulesSignsUptoRow, standIns := [], harness := (true, "135fd751a33b45c732960bce3b158c695d45d7c77d22e4c0e09fe6405604ac95"), looks := false }, kinds := [], alts := [], laidByText := true, laidKinds := [.data, .data], laidTests := true, laidLooks := .later }
def RulesSignsUptoCardSaid : Prop := Claim7.holds Tryd.pinned (.plain (OpenSpec.upto rulesSignsSpec)) rulesSignsUptoCard

/-- THE SECOND FORM's CARD OF 'quillwortlaw12.RulesForms'. -/
def rulesFormsUptoCard : Claim7 := { stood := { row := rulesFormsUptoRow, standIns := [], harness := (true, "135fd751a33b45c732960bce3b158c695d45d7c77d22e4c0e09fe6405604ac95"), looks := false }, kinds := [], alts := [], laidByText := true, laidKinds := [.data, .data], laidTests := true, laidLooks := .later }
def RulesFormsUptoCardSaid : Prop := Claim7.holds Tryd.pinned (.plain (OpenSpec.upto rulesFormsSpec)) rulesFormsUptoCard

/-- THE SECOND FORM's CARD OF 'quillwortlaw12.RulesRight'. -/
def rulesRightUptoCard : Claim7 := { stood := { row := rulesRightUptoRow, standIns := [], harness := (true, "135fd751a33b45c732960bce3b158c695d45d7c77d22e4c0e09fe6405604ac95"), looks := false }, kinds := [], alts := [], laidByText := true, laidKinds := [.data, .data], laidTests := true, laidLooks := .later }
def RulesRightUptoCardSaid : Prop := Claim7.holds Tryd.pinned (.plain (OpenSpec.upto rulesRightSpec)) rulesRightUptoCard

/-- THE SECOND FORM's CARD OF 'quillwortlaw12.RulesWords'. -/
def rulesWordsUptoCard : Claim7 := { stood := { row := rulesWordsUptoRow, standIns := [], harness := (true, "135fd751a33b45c732960bce3b158c695d45d7c77d22e4c0e09fe6405604ac95"), looks := false }, kinds := [], alts := [], laidByText := true, laidKinds := [.data, .data], laidTests := true, laidLooks := .later }
def RulesWordsUptoCardSaid : Prop := Claim7.holds Tryd.pinned (.plain (OpenSpec.upto rulesWordsSpec)) rulesWordsUptoCard

/-- THE SECOND FORM's CARD OF 'quillwortlaw12.RulesDeep'. -/
def rulesDeepUptoCard : Claim7 := { stood := { row := rulesDeepUptoRow, standIns := [], harness := (true, "135fd751a33b45c732960bce3b158c695d45d7c77d22e4c0e09fe6405604ac95"), looks := false }, kinds := [], alts := [], laidByText := true, laidKinds := [.data, .data], laidTests := true, laidLooks := .later }
def RulesDeepUptoCardSaid : Prop := Claim7.holds Tryd.pinned (.plain (OpenSpec.upto rulesDeepSpec)) rulesDeepUptoCard

/-- THE SECOND FORM's CARD OF 'quillwortlaw12.RulesNames'. -/
def rulesNamesUptoCard : Claim7 := { stood := { row := rulesNamesUptoRow, standIns := [], harness := (true, "135fd751a33b45c732960bce3b158c695d45d7c77d22e4c0e09fe6405604ac95"), looks := false }, kinds := [], alts := [], laidByText := true, laidKinds := [.data, .data], laidTests := true, laidLooks := .later }
def RulesNamesUptoCardSaid : Prop := Claim7.holds Tryd.pinned (.plain (OpenSpec.upto rulesNamesSpec)) rulesNamesUptoCard
end Rows
end Go.Proofs.YtmjckjbdkffkoaaDoor

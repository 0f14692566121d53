/-
  NARROWER THAN 'FOR EVERY INPUT', by the rows' own cells (each row's printed sentence says how): OperAt: laid · OperNames: laid · OperTight: laid · OperSplits: laid · OperBack: laid.
  DERIVED. THE GIVEN ROWS OF THIS SEAT. 5 by the template 'for every input the law returns true; each argument reads behind the call as it read before'; 0 by the template 'total and deterministic' (their statements: YtlfmpjneopeadaaDoorTotals.lean).
  GIVEN WITH THE SEED: the statements are not yours to turn. If you find one false, say at which input.
  Laid BY PROGRAM, IN A SANDBOX (cutbox-rows.mjs): the forced cells as the released guide's own fill.sh prints them over the translation a3e5bf2dbb875b98… (all of the seat's roots in one cut). By AI agents, Wed Nov 11 2026. No macro, syntax, notation, axiom, sorry.
-/
import Derived.Test.YtlfmpjneopeadaaDoorChecked
import GoSem.Claim
import GoSem.ClaimJoined
import GoSem.ClaimMapViews
import Derived.JoinedTies
import Derived.KernelRfl
namespace Go.Proofs.YtlfmpjneopeadaaDoor
/- THE CELL 'sum', in the pinned program and in every row, IS THE sha256 OF THE DUMP (.gsa) THAT YtlfmpjneopeadaaDoorProg.lean LOADS. Nothing in Lean hashes anything: it is a label: what it is worth is what the hold of that sum in a sandbox is worth. -/
noncomputable def Tryd.pinned : Pinned := { name := "ytlfmpjneopeadaadoor", sum := "a3e5bf2dbb875b98e9bfcb97ad21ec0a27f2be3ea7f9ac86bb449b42e1d73799", checked := Tryd.checked }
namespace Rows
def none {H : Type} : Left H := { results := [], args := [] }

/- WHAT THE LISTED PACKAGE-LEVEL VARIABLES READ AS WHEN THE CALL BEGINS. Each datum BY PROGRAM (the guide's laid-datum.mjs) off the statement by which the dump's own 'gosem.cut.vars' lays the variable. In a bare row this is a premise. The card (YtlfmpjneopeadaaDoorCards.lean) ties it to the program's text. -/
def laid_quillwort_oper_texts {H : Type} : DataW H := .agg [.lit (.string []), .lit (.string [38, 38]), .lit (.string [124, 124]), .lit (.string [59, 59]), .lit (.string [60, 60]), .lit (.string [60, 60, 45]), .lit (.string [62, 62]), .lit (.string [60, 38]), .lit (.string [62, 38]), .lit (.string [60, 62]), .lit (.string [62, 124]), .lit (.string [60]), .lit (.string [62]), .lit (.string [38]), .lit (.string [59]), .lit (.string [124]), .lit (.string [40]), .lit (.string [41])]

/-- 'quillwortlaw05.OperAt': WHATEVER THE INPUT: true; the input reads as it did. -/
def operAtSpec : ChangeSpec := { name := "operAt", fn := fun _ => fun
  | [d1, d2] => { results := [.lit (.bool true)], args := [d1, d2] }
  | _ => none }
def operAtRow : OpenClaim := { program := "ytlfmpjneopeadaadoor", sum := "a3e5bf2dbb875b98e9bfcb97ad21ec0a27f2be3ea7f9ac86bb449b42e1d73799", func := "quillwort/quillwortlaw05.OperAt", spec := "operAt", named := ["quillwort/oper.texts"], apart := false, laid := [("quillwort/oper.texts", laid_quillwort_oper_texts)] }
def OperAtSaid : Prop := operAtRow.holds Tryd.pinned (OpenSpec.ofChange operAtSpec)

/-- ITS FALSE NEIGHBOUR: 'it returns false'. Refute it at one input. -/
def operAtWrong : ChangeSpec := { name := "operAt", fn := fun _ => fun
  | [d1, d2] => { results := [.lit (.bool false)], args := [d1, d2] }
  | _ => none }
def OperAtWrongFalsely : Prop := operAtRow.holds Tryd.pinned (OpenSpec.ofChange operAtWrong)

/-- 'quillwortlaw05.OperNames': WHATEVER THE INPUT: true; the input reads as it did. -/
def operNamesSpec : ChangeSpec := { name := "operNames", fn := fun _ => fun
  | [d1, d2] => { results := [.lit (.bool true)], args := [d1, d2] }
  | _ => none }
def operNamesRow : OpenClaim := { program := "ytlfmpjneopeadaadoor", sum := "a3e5bf2dbb875b98e9bfcb97ad21ec0a27f2be3ea7f9ac86bb449b42e1d73799", func := "quillwort/quillwortlaw05.OperNames", spec := "operNames", named := ["quillwort/oper.texts"], apart := false, laid := [("quillwort/oper.texts", laid_quillwort_oper_texts)] }
def OperNamesSaid : Prop := operNamesRow.holds Tryd.pinned (OpenSpec.ofChange operNamesSpec)

/-- ITS FALSE NEIGHBOUR: 'it returns false'. Refute it at one input. -/
def operNamesWrong : ChangeSpec := { name := "operNames", fn := fun _ => fun
  | [d1, d2] => { results := [.lit (.bool false)], args := [d1, d2] }
  | _ => none }
def OperNamesWrongFalsely : Prop := operNamesRow.holds Tryd.pinned (OpenSpec.ofChange operNamesWrong)

/-- 'quillwortlaw05.OperTight': WHATEVER THE INPUT: true; the input reads as it did. -/
def operTightSpec : ChangeSpec := { name := "operTight", fn := fun _ => fun
  | [d1, d2] => { results := [.lit (.bool true)], args := [d1, d2] }
  | _ => none }
def operTightRow : OpenClaim := { program := "ytlfmpjneopeadaadoor", sum := "a3e5bf2dbb875b98e9bfcb97ad21ec0a27f2be3ea7f9ac86bb449b42e1d73799", func := "quillwort/quillwortlaw05.OperTight", spec := "operTight", named := ["quillwort/oper.texts"], apart := false, laid := [("quillwort/oper.texts", laid_quillwort_oper_texts)] }
def OperTightSaid : Prop := operTightRow.holds Tryd.pinned (OpenSpec.ofChange operTightSpec)

/-- ITS FALSE NEIGHBOUR: 'it returns false'. Refute it at one input. -/
def operTightWrong : ChangeSpec := { name := "operTight", fn := fun _ => fun
  | [d1, d2] => { results := [.lit (.bool false)], args := [d1, d2] }
  | _ => none }
def OperTightWrongFalsely : Prop := operTightRow.holds Tryd.pinned (OpenSpec.ofChange operTightWrong)

/-- 'quillwortlaw05.OperSplits': WHATEVER THE INPUT: true; the input reads as it did. -/
def operSplitsSpec : ChangeSpec := { name := "operSplits", fn := fun _ => fun
  | [d] => { results := [.lit (.bool true)], args := [d] }
  | _ => none }
def operSplitsRow : OpenClaim := { program := "ytlfmpjneopeadaadoor", sum := "a3e5bf2dbb875b98e9bfcb97ad21ec0a27f2be3ea7f9ac86bb449b42e1d73799", func := "quillwort/quillwortlaw05.OperSplits", spec := "operSplits", unfollowed := true, recurses := true, named := ["quillwort/oper.texts"], apart := false, laid := [("quillwort/oper.texts", laid_quillwort_oper_texts)] }
def OperSplitsSaid : Prop := operSplitsRow.holds Tryd.pinned (OpenSpec.ofChange operSplitsSpec)

/-- ITS FALSE NEIGHBOUR: 'it returns false'. Refute it at one input. -/
def operSplitsWrong : ChangeSpec := { name := "operSplits", fn := fun _ => fun
  | [d] => { results := [.lit (.bool false)], args := [d] }
  | _ => none }
def OperSplitsWrongFalsely : Prop := operSplitsRow.holds Tryd.pinned (OpenSpec.ofChange operSplitsWrong)

/-- 'quillwortlaw05.OperBack': WHATEVER THE INPUT: true; the input reads as it did. -/
def operBackSpec : ChangeSpec := { name := "operBack", fn := fun _ => fun
  | [d] => { results := [.lit (.bool true)], args := [d] }
  | _ => none }
def operBackRow : OpenClaim := { program := "ytlfmpjneopeadaadoor", sum := "a3e5bf2dbb875b98e9bfcb97ad21ec0a27f2be3ea7f9ac86bb449b42e1d73799", func := "quillwort/quillwortlaw05.OperBack", spec := "operBack", inPlace := ["internal/abi.NoEscape"], unfollowed := true, recurses := true, named := ["quillwort/oper.texts"], apart := false, laid := [("quillwort/oper.texts", laid_quillwort_oper_texts)] }
def OperBackSaid : Prop := operBackRow.holds Tryd.pinned (OpenSpec.ofChange operBackSpec)

/-- ITS FALSE NEIGHBOUR: 'it returns false'. Refute it at one input. -/
def operBackWrong : ChangeSpec := { name := "operBack", fn := fun _ => fun
  | [d] => { results := [.lit (.bool false)], args := [d] }
  | _ => none }
def OperBackWrongFalsely : Prop := operBackRow.holds Tryd.pinned (OpenSpec.ofChange operBackWrong)

/- THE SECOND FORM. 'bulk': how many values and letters a reading holds, each counted each time it is reached (what is shared counts as often as it is met; a slice's spare places count too). A statement '..UptoSaid' is the law's where the arguments, and the package variables that the reading takes, are together of bulk at most 1048576: NARROWER than '..Said'. Prove '..Said' where nothing that the law and all that it calls make is longer than what came in: it says more and counts as full. Else prove '..UptoSaid'. A law counts once. -/
mutual
def uptoBulk {H : Type} : DataW H → Nat
  | .lit (.string bytes) => bytes.length + 1
  | .lit _ => 1
  | .nil => 1
  | .ptr d => uptoBulk d + 1
  | .slice elems spare => uptoBulkAll elems + uptoBulkAll spare + 1
  | .agg parts => uptoBulkAll parts + 1
  | .iface _ d => uptoBulk d + 1
  | .map entries => uptoBulkEntries entries + 1
  | .held _ => 1
def uptoBulkAll {H : Type} : List (DataW H) → Nat
  | [] => 0
  | d :: r => uptoBulk d + uptoBulkAll r
def uptoBulkEntries {H : Type} : List (Lit × DataW H) → Nat
  | [] => 0
  | x :: r => uptoBulkEntry x + uptoBulkEntries r
def uptoBulkEntry {H : Type} : Lit × DataW H → Nat
  | (.string bytes, d) => bytes.length + uptoBulk d + 1
  | (_, d) => uptoBulk d + 1
 end
def uptoSmall : (H : Type) → List (DataW H) → Bool := fun _ ds => decide (uptoBulkAll ds ≤ 1048576)
def OpenSpec.upto (s : _root_.Go.ChangeSpec) : _root_.Go.OpenSpec := { _root_.Go.OpenSpec.ofChange s with cond := some uptoSmall }

/-- 'quillwortlaw05.OperAt', WHERE WHAT IT READS IS OF BULK AT MOST 1048576: true; the input reads as it did. -/
def operAtUptoRow : OpenClaim := { program := "ytlfmpjneopeadaadoor", sum := "a3e5bf2dbb875b98e9bfcb97ad21ec0a27f2be3ea7f9ac86bb449b42e1d73799", func := "quillwort/quillwortlaw05.OperAt", spec := "operAt", named := ["quillwort/oper.texts"], apart := false, laid := [("quillwort/oper.texts", laid_quillwort_oper_texts)], narrowed := true }
def OperAtUptoSaid : Prop := operAtUptoRow.holds Tryd.pinned (OpenSpec.upto operAtSpec)

/-- 'quillwortlaw05.OperNames', WHERE WHAT IT READS IS OF BULK AT MOST 1048576: true; the input reads as it did. -/
def operNamesUptoRow : OpenClaim := { program := "ytlfmpjneopeadaadoor", sum := "a3e5bf2dbb875b98e9bfcb97ad21ec0a27f2be3ea7f9ac86bb449b42e1d73799", func := "quillwort/quillwortlaw05.OperNames", spec := "operNames", named := ["quillwort/oper.texts"], apart := false, laid := [("quillwort/oper.texts", laid_quillwort_oper_texts)], narrowed := true }
def OperNamesUptoSaid : Prop := operNamesUptoRow.holds Tryd.pinned (OpenSpec.upto operNamesSpec)

/-- 'quillwortlaw05.OperTight', WHERE WHAT IT READS IS OF BULK AT MOST 1048576: true; the input reads as it did. -/
def operTightUptoRow : OpenClaim := { program := "ytlfmpjneopeadaadoor", sum := "a3e5bf2dbb875b98e9bfcb97ad21ec0a27f2be3ea7f9ac86bb449b42e1d73799", func := "quillwort/quillwortlaw05.OperTight", spec := "operTight", named := ["quillwort/oper.texts"], apart := false, laid := [("quillwort/oper.texts", laid_quillwort_oper_texts)], narrowed := true }
def OperTightUptoSaid : Prop := operTightUptoRow.holds Tryd.pinned (OpenSpec.upto operTightSpec)

/-- 'quillwortlaw05.OperSplits', WHERE WHAT IT READS IS OF BULK AT MOST 1048576: true; the input reads as it did. -/
def operSplitsUptoRow : OpenClaim := { program := "ytlfmpjneopeadaadoor", sum := "a3e5bf2dbb875b98e9bfcb97ad21ec0a27f2be3ea7f9ac86bb449b42e1d73799", func := "quillwort/quillwortlaw05.OperSplits", spec := "operSplits", unfollowed := true, recurses := true, named := ["quillwort/oper.texts"], apart := false, laid := [("quillwort/oper.texts", laid_quillwort_oper_texts)], narrowed := true }
def OperSplitsUptoSaid : Prop := operSplitsUptoRow.holds Tryd.pinned (OpenSpec.upto operSplitsSpec)

/-- 'quillwortlaw05.OperBack', WHERE WHAT IT READS IS OF BULK AT MOST 1048576: true; the input reads as it did. -/
def operBackUptoRow : OpenClaim := { program := "ytlfmpjneopeadaadoor", sum := "a3e5bf2dbb875b98e9bfcb97ad21ec0a27f2be3ea7f9ac86bb449b42e1d73799", func := "quillwort/quillwortlaw05.OperBack", spec := "operBack", inPlace := ["internal/abi.NoEscape"], unfollowed := true, recurses := true, named := ["quillwort/oper.texts"], apart := false, laid := [("quillwort/oper.texts", laid_quillwort_oper_texts)], narrowed := true }
def OperBackUptoSaid : Prop := operBackUptoRow.holds Tryd.pinned (OpenSpec.upto operBackSpec)

end Rows
end Go.Proofs.YtlfmpjneopeadaaDoor

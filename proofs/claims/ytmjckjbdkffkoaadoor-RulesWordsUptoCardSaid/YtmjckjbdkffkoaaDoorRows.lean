/-
  NARROWER THAN 'FOR EVERY INPUT', by the rows' own cells (each row's printed sentence says how): TreeShows: laid · RulesSigns: laid · RulesForms: laid · RulesRight: laid · RulesWords: laid · RulesDeep: laid · RulesNames: laid.
  DERIVED. THE GIVEN ROWS OF THIS SEAT. 7 by the template 'for every input the law returns true; each argument reads behind the call as it read before'; 0 by the template 'total and deterministic' (their statements: YtmjckjbdkffkoaaDoorTotals.lean).
  GIVEN WITH THE SEED: the statements are not yours to turn. If you find one false, say at which input.
  Laid BY PROGRAM, IN A SANDBOX (cutbox-rows.mjs): the forced cells as the released guide's own fill.sh prints them over the translation 44a4811ac52dea8d… (all of the seat's roots in one cut). By AI agents, Wed Nov 11 2026. No macro, syntax, notation, axiom, sorry.
-/
import Derived.Test.YtmjckjbdkffkoaaDoorChecked
import GoSem.Claim
import GoSem.ClaimJoined
import GoSem.ClaimMapViews
import Derived.JoinedTies
import Derived.KernelRfl
namespace Go.Proofs.YtmjckjbdkffkoaaDoor
/- THE CELL 'sum', in the pinned program and in every row, IS THE sha256 OF THE DUMP (.gsa) THAT YtmjckjbdkffkoaaDoorProg.lean LOADS. Nothing in Lean hashes anything: it is a label: what it is worth is what the hold of that sum in a sandbox is worth. -/
noncomputable def Tryd.pinned : Pinned := { name := "ytmjckjbdkffkoaadoor", sum := "44a4811ac52dea8dd04b64a6ea17afae6b7725a06e6e76a3b86369fd78b69a45", checked := Tryd.checked }
namespace Rows
def none {H : Type} : Left H := { results := [], args := [] }

/- WHAT THE LISTED PACKAGE-LEVEL VARIABLES READ AS WHEN THE CALL BEGINS. Each datum BY PROGRAM (the guide's laid-datum.mjs) off the statement by which the dump's own 'gosem.cut.vars' lays the variable. In a bare row this is a premise. The card (YtmjckjbdkffkoaaDoorCards.lean) ties it to the program's text. -/
def laid_math_bits_deBruijn32tab {H : Type} : DataW H := .agg [.lit (.int .u8 0), .lit (.int .u8 1), .lit (.int .u8 28), .lit (.int .u8 2), .lit (.int .u8 29), .lit (.int .u8 14), .lit (.int .u8 24), .lit (.int .u8 3), .lit (.int .u8 30), .lit (.int .u8 22), .lit (.int .u8 20), .lit (.int .u8 15), .lit (.int .u8 25), .lit (.int .u8 17), .lit (.int .u8 4), .lit (.int .u8 8), .lit (.int .u8 31), .lit (.int .u8 27), .lit (.int .u8 13), .lit (.int .u8 23), .lit (.int .u8 21), .lit (.int .u8 19), .lit (.int .u8 16), .lit (.int .u8 7), .lit (.int .u8 26), .lit (.int .u8 12), .lit (.int .u8 18), .lit (.int .u8 6), .lit (.int .u8 11), .lit (.int .u8 5), .lit (.int .u8 10), .lit (.int .u8 9)]
def laid_math_bits_deBruijn64tab {H : Type} : DataW H := .agg [.lit (.int .u8 0), .lit (.int .u8 1), .lit (.int .u8 56), .lit (.int .u8 2), .lit (.int .u8 57), .lit (.int .u8 49), .lit (.int .u8 28), .lit (.int .u8 3), .lit (.int .u8 61), .lit (.int .u8 58), .lit (.int .u8 42), .lit (.int .u8 50), .lit (.int .u8 38), .lit (.int .u8 29), .lit (.int .u8 17), .lit (.int .u8 4), .lit (.int .u8 62), .lit (.int .u8 47), .lit (.int .u8 59), .lit (.int .u8 36), .lit (.int .u8 45), .lit (.int .u8 43), .lit (.int .u8 51), .lit (.int .u8 22), .lit (.int .u8 53), .lit (.int .u8 39), .lit (.int .u8 33), .lit (.int .u8 30), .lit (.int .u8 24), .lit (.int .u8 18), .lit (.int .u8 12), .lit (.int .u8 5), .lit (.int .u8 63), .lit (.int .u8 55), .lit (.int .u8 48), .lit (.int .u8 27), .lit (.int .u8 60), .lit (.int .u8 41), .lit (.int .u8 37), .lit (.int .u8 16), .lit (.int .u8 46), .lit (.int .u8 35), .lit (.int .u8 44), .lit (.int .u8 21), .lit (.int .u8 52), .lit (.int .u8 32), .lit (.int .u8 23), .lit (.int .u8 11), .lit (.int .u8 54), .lit (.int .u8 26), .lit (.int .u8 40), .lit (.int .u8 15), .lit (.int .u8 34), .lit (.int .u8 20), .lit (.int .u8 31), .lit (.int .u8 10), .lit (.int .u8 25), .lit (.int .u8 14), .lit (.int .u8 19), .lit (.int .u8 9), .lit (.int .u8 13), .lit (.int .u8 8), .lit (.int .u8 7), .lit (.int .u8 6)]
def laid_internal_strconv_uint64pow10 {H : Type} : DataW H := .agg [.lit (.int .u64 1), .lit (.int .u64 10), .lit (.int .u64 100), .lit (.int .u64 1000), .lit (.int .u64 10000), .lit (.int .u64 100000), .lit (.int .u64 1000000), .lit (.int .u64 10000000), .lit (.int .u64 100000000), .lit (.int .u64 1000000000), .lit (.int .u64 10000000000), .lit (.int .u64 100000000000), .lit (.int .u64 1000000000000), .lit (.int .u64 10000000000000), .lit (.int .u64 100000000000000), .lit (.int .u64 1000000000000000), .lit (.int .u64 10000000000000000), .lit (.int .u64 100000000000000000), .lit (.int .u64 1000000000000000000), .lit (.int .u64 10000000000000000000)]
def laid_quillwort_oper_texts {H : Type} : DataW H := .agg [.lit (.string []), .lit (.string [38, 38]), .lit (.string [124, 124]), .lit (.string [59, 59]), .lit (.string [60, 60]), .lit (.string [60, 60, 45]), .lit (.string [62, 62]), .lit (.string [60, 38]), .lit (.string [62, 38]), .lit (.string [60, 62]), .lit (.string [62, 124]), .lit (.string [60]), .lit (.string [62]), .lit (.string [38]), .lit (.string [59]), .lit (.string [124]), .lit (.string [40]), .lit (.string [41])]
def laid_quillwort_rules_names {H : Type} : DataW H := .agg [.lit (.string []), .lit (.string [112, 114, 111, 103, 114, 97, 109]), .lit (.string [108, 105, 115, 116]), .lit (.string [97, 110, 100, 45, 111, 114]), .lit (.string [112, 105, 112, 101]), .lit (.string [115, 105, 109, 112, 108, 101]), .lit (.string [97, 115, 115, 105, 103, 110]), .lit (.string [119, 111, 114, 100]), .lit (.string [114, 101, 100, 105, 114, 101, 99, 116]), .lit (.string [98, 114, 97, 99, 101]), .lit (.string [115, 117, 98, 115, 104, 101, 108, 108]), .lit (.string [105, 102]), .lit (.string [108, 111, 111, 112]), .lit (.string [102, 111, 114]), .lit (.string [99, 97, 115, 101]), .lit (.string [105, 116, 101, 109]), .lit (.string [102, 117, 110, 99, 116, 105, 111, 110]), .lit (.string [101, 114, 114, 111, 114]), .lit (.string [109, 105, 115, 115, 105, 110, 103])]

/-- 'quillwortlaw11.TreeShows': WHATEVER THE INPUT: true; the input reads as it did. -/
def treeShowsSpec : ChangeSpec := { name := "treeShows", fn := fun _ => fun
  | [d] => { results := [.lit (.bool true)], args := [d] }
  | _ => none }
def treeShowsRow : OpenClaim := { program := "ytmjckjbdkffkoaadoor", sum := "44a4811ac52dea8dd04b64a6ea17afae6b7725a06e6e76a3b86369fd78b69a45", func := "quillwort/quillwortlaw11.TreeShows", spec := "treeShows", inPlace := ["internal/bytealg.IndexByteString", "internal/abi.NoEscape"], unfollowed := true, recurses := true, named := ["internal/strconv.uint64pow10", "math/bits.deBruijn32tab", "math/bits.deBruijn64tab"], apart := false, laid := [("math/bits.deBruijn32tab", laid_math_bits_deBruijn32tab), ("math/bits.deBruijn64tab", laid_math_bits_deBruijn64tab), ("internal/strconv.uint64pow10", laid_internal_strconv_uint64pow10)] }
def TreeShowsSaid : Prop := treeShowsRow.holds Tryd.pinned (OpenSpec.ofChange treeShowsSpec)

/-- ITS FALSE NEIGHBOUR: 'it returns false'. Refute it at one input. -/
def treeShowsWrong : ChangeSpec := { name := "treeShows", fn := fun _ => fun
  | [d] => { results := [.lit (.bool false)], args := [d] }
  | _ => none }
def TreeShowsWrongFalsely : Prop := treeShowsRow.holds Tryd.pinned (OpenSpec.ofChange treeShowsWrong)

/-- 'quillwortlaw12.RulesSigns': WHATEVER THE INPUT: true; the input reads as it did. -/
def rulesSignsSpec : ChangeSpec := { name := "rulesSigns", fn := fun _ => fun
  | [d] => { results := [.lit (.bool true)], args := [d] }
  | _ => none }
def rulesSignsRow : OpenClaim := { program := "ytmjckjbdkffkoaadoor", sum := "44a4811ac52dea8dd04b64a6ea17afae6b7725a06e6e76a3b86369fd78b69a45", func := "quillwort/quillwortlaw12.RulesSigns", spec := "rulesSigns", inPlace := ["internal/abi.NoEscape", "internal/bytealg.IndexByteString"], unfollowed := true, recurses := true, named := ["quillwort/oper.texts", "quillwort/rules.names"], apart := false, laid := [("quillwort/oper.texts", laid_quillwort_oper_texts), ("quillwort/rules.names", laid_quillwort_rules_names)] }
def RulesSignsSaid : Prop := rulesSignsRow.holds Tryd.pinned (OpenSpec.ofChange rulesSignsSpec)

/-- ITS FALSE NEIGHBOUR: 'it returns false'. Refute it at one input. -/
def rulesSignsWrong : ChangeSpec := { name := "rulesSigns", fn := fun _ => fun
  | [d] => { results := [.lit (.bool false)], args := [d] }
  | _ => none }
def RulesSignsWrongFalsely : Prop := rulesSignsRow.holds Tryd.pinned (OpenSpec.ofChange rulesSignsWrong)

/-- 'quillwortlaw12.RulesForms': WHATEVER THE INPUT: true; the input reads as it did. -/
def rulesFormsSpec : ChangeSpec := { name := "rulesForms", fn := fun _ => fun
  | [d1, d2, d3] => { results := [.lit (.bool true)], args := [d1, d2, d3] }
  | _ => none }
def rulesFormsRow : OpenClaim := { program := "ytmjckjbdkffkoaadoor", sum := "44a4811ac52dea8dd04b64a6ea17afae6b7725a06e6e76a3b86369fd78b69a45", func := "quillwort/quillwortlaw12.RulesForms", spec := "rulesForms", inPlace := ["internal/abi.NoEscape", "internal/bytealg.IndexByteString"], unfollowed := true, recurses := true, named := ["quillwort/oper.texts", "quillwort/rules.names"], apart := false, laid := [("quillwort/oper.texts", laid_quillwort_oper_texts), ("quillwort/rules.names", laid_quillwort_rules_names)] }
def RulesFormsSaid : Prop := rulesFormsRow.holds Tryd.pinned (OpenSpec.ofChange rulesFormsSpec)

/-- ITS FALSE NEIGHBOUR: 'it returns false'. Refute it at one input. -/
def rulesFormsWrong : ChangeSpec := { name := "rulesForms", fn := fun _ => fun
  | [d1, d2, d3] => { results := [.lit (.bool false)], args := [d1, d2, d3] }
  | _ => none }
def RulesFormsWrongFalsely : Prop := rulesFormsRow.holds Tryd.pinned (OpenSpec.ofChange rulesFormsWrong)

/-- 'quillwortlaw12.RulesRight': WHATEVER THE INPUT: true; the input reads as it did. -/
def rulesRightSpec : ChangeSpec := { name := "rulesRight", fn := fun _ => fun
  | [d1, d2] => { results := [.lit (.bool true)], args := [d1, d2] }
  | _ => none }
def rulesRightRow : OpenClaim := { program := "ytmjckjbdkffkoaadoor", sum := "44a4811ac52dea8dd04b64a6ea17afae6b7725a06e6e76a3b86369fd78b69a45", func := "quillwort/quillwortlaw12.RulesRight", spec := "rulesRight", inPlace := ["internal/abi.NoEscape", "internal/bytealg.IndexByteString"], unfollowed := true, recurses := true, named := ["quillwort/oper.texts", "quillwort/rules.names"], apart := false, laid := [("quillwort/oper.texts", laid_quillwort_oper_texts), ("quillwort/rules.names", laid_quillwort_rules_names)] }
def RulesRightSaid : Prop := rulesRightRow.holds Tryd.pinned (OpenSpec.ofChange rulesRightSpec)

/-- ITS FALSE NEIGHBOUR: 'it returns false'. Refute it at one input. -/
def rulesRightWrong : ChangeSpec := { name := "rulesRight", fn := fun _ => fun
  | [d1, d2] => { results := [.lit (.bool false)], args := [d1, d2] }
  | _ => none }
def RulesRightWrongFalsely : Prop := rulesRightRow.holds Tryd.pinned (OpenSpec.ofChange rulesRightWrong)

/-- 'quillwortlaw12.RulesWords': WHATEVER THE INPUT: true; the input reads as it did. -/
def rulesWordsSpec : ChangeSpec := { name := "rulesWords", fn := fun _ => fun
  | [d] => { results := [.lit (.bool true)], args := [d] }
  | _ => none }
def rulesWordsRow : OpenClaim := { program := "ytmjckjbdkffkoaadoor", sum := "44a4811ac52dea8dd04b64a6ea17afae6b7725a06e6e76a3b86369fd78b69a45", func := "quillwort/quillwortlaw12.RulesWords", spec := "rulesWords", inPlace := ["internal/abi.NoEscape", "internal/bytealg.IndexByteString"], unfollowed := true, recurses := true, named := ["quillwort/oper.texts", "quillwort/rules.names"], apart := false, laid := [("quillwort/oper.texts", laid_quillwort_oper_texts), ("quillwort/rules.names", laid_quillwort_rules_names)] }
def RulesWordsSaid : Prop := rulesWordsRow.holds Tryd.pinned (OpenSpec.ofChange rulesWordsSpec)

/-- ITS FALSE NEIGHBOUR: 'it returns false'. Refute it at one input. -/
def rulesWordsWrong : ChangeSpec := { name := "rulesWords", fn := fun _ => fun
  | [d] => { results := [.lit (.bool false)], args := [d] }
  | _ => none }
def RulesWordsWrongFalsely : Prop := rulesWordsRow.holds Tryd.pinned (OpenSpec.ofChange rulesWordsWrong)

/-- 'quillwortlaw12.RulesDeep': WHATEVER THE INPUT: true; the input reads as it did. -/
def rulesDeepSpec : ChangeSpec := { name := "rulesDeep", fn := fun _ => fun
  | [d1, d2] => { results := [.lit (.bool true)], args := [d1, d2] }
  | _ => none }
def rulesDeepRow : OpenClaim := { program := "ytmjckjbdkffkoaadoor", sum := "44a4811ac52dea8dd04b64a6ea17afae6b7725a06e6e76a3b86369fd78b69a45", func := "quillwort/quillwortlaw12.RulesDeep", spec := "rulesDeep", inPlace := ["internal/abi.NoEscape", "internal/bytealg.IndexByteString"], unfollowed := true, recurses := true, named := ["quillwort/oper.texts", "quillwort/rules.names"], apart := false, laid := [("quillwort/oper.texts", laid_quillwort_oper_texts), ("quillwort/rules.names", laid_quillwort_rules_names)] }
def RulesDeepSaid : Prop := rulesDeepRow.holds Tryd.pinned (OpenSpec.ofChange rulesDeepSpec)

/-- ITS FALSE NEIGHBOUR: 'it returns false'. Refute it at one input. -/
def rulesDeepWrong : ChangeSpec := { name := "rulesDeep", fn := fun _ => fun
  | [d1, d2] => { results := [.lit (.bool false)], args := [d1, d2] }
  | _ => none }
def RulesDeepWrongFalsely : Prop := rulesDeepRow.holds Tryd.pinned (OpenSpec.ofChange rulesDeepWrong)

/-- 'quillwortlaw12.RulesNames': WHATEVER THE INPUT: true; the input reads as it did. -/
def rulesNamesSpec : ChangeSpec := { name := "rulesNames", fn := fun _ => fun
  | [d1, d2] => { results := [.lit (.bool true)], args := [d1, d2] }
  | _ => none }
def rulesNamesRow : OpenClaim := { program := "ytmjckjbdkffkoaadoor", sum := "44a4811ac52dea8dd04b64a6ea17afae6b7725a06e6e76a3b86369fd78b69a45", func := "quillwort/quillwortlaw12.RulesNames", spec := "rulesNames", inPlace := ["internal/abi.NoEscape", "internal/bytealg.IndexByteString"], unfollowed := true, recurses := true, named := ["quillwort/oper.texts", "quillwort/rules.names"], apart := false, laid := [("quillwort/oper.texts", laid_quillwort_oper_texts), ("quillwort/rules.names", laid_quillwort_rules_names)] }
def RulesNamesSaid : Prop := rulesNamesRow.holds Tryd.pinned (OpenSpec.ofChange rulesNamesSpec)

/-- ITS FALSE NEIGHBOUR: 'it returns false'. Refute it at one input. -/
def rulesNamesWrong : ChangeSpec := { name := "rulesNames", fn := fun _ => fun
  | [d1, d2] => { results := [.lit (.bool false)], args := [d1, d2] }
  | _ => none }
def RulesNamesWrongFalsely : Prop := rulesNamesRow.holds Tryd.pinned (OpenSpec.ofChange rulesNamesWrong)

/- THE SECOND FORM. 'bulk': how many values and letters a reading holds, each counted each time it is reached (what is shared counts as often as it is met; a slice's spare places count too). A statement '..UptoSaid' is the law's where the arguments, and the package variables that the reading takes, are together of bulk at most 1048576: NARROWER than '..Said'. Prove '..Said' where nothing that the law and all that it calls make is longer than what came in: it says more and counts as full. Else prove '..UptoSaid'. A law counts once. -/
mutual
def uptoBulk {H : Type} : DataW H → Nat
  | .lit (.string bytes) => bytes.length + 1
  | .lit _ => 1
  | .nil => 1
  | .ptr d => uptoBulk d + 1
  | .slice elems spare => uptoBulkAll elems + uptoBulkAll spare + 1
  | .agg parts => uptoBulkAll parts + 1
  | .iface _ d => uptoBulk d + 1
  | .map entries => uptoBulkEntries entries + 1
  | .held _ => 1
def uptoBulkAll {H : Type} : List (DataW H) → Nat
  | [] => 0
  | d :: r => uptoBulk d + uptoBulkAll r
def uptoBulkEntries {H : Type} : List (Lit × DataW H) → Nat
  | [] => 0
  | x :: r => uptoBulkEntry x + uptoBulkEntries r
def uptoBulkEntry {H : Type} : Lit × DataW H → Nat
  | (.string bytes, d) => bytes.length + uptoBulk d + 1
  | (_, d) => uptoBulk d + 1
 end
def uptoSmall : (H : Type) → List (DataW H) → Bool := fun _ ds => decide (uptoBulkAll ds ≤ 1048576)
def OpenSpec.upto (s : _root_.Go.ChangeSpec) : _root_.Go.OpenSpec := { _root_.Go.OpenSpec.ofChange s with cond := some uptoSmall }

/-- 'quillwortlaw11.TreeShows', WHERE WHAT IT READS IS OF BULK AT MOST 1048576: true; the input reads as it did. -/
def treeShowsUptoRow : OpenClaim := { program := "ytmjckjbdkffkoaadoor", sum := "44a4811ac52dea8dd04b64a6ea17afae6b7725a06e6e76a3b86369fd78b69a45", func := "quillwort/quillwortlaw11.TreeShows", spec := "treeShows", inPlace := ["internal/bytealg.IndexByteString", "internal/abi.NoEscape"], unfollowed := true, recurses := true, named := ["internal/strconv.uint64pow10", "math/bits.deBruijn32tab", "math/bits.deBruijn64tab"], apart := false, laid := [("math/bits.deBruijn32tab", laid_math_bits_deBruijn32tab), ("math/bits.deBruijn64tab", laid_math_bits_deBruijn64tab), ("internal/strconv.uint64pow10", laid_internal_strconv_uint64pow10)], narrowed := true }
def TreeShowsUptoSaid : Prop := treeShowsUptoRow.holds Tryd.pinned (OpenSpec.upto treeShowsSpec)

/-- 'quillwortlaw12.RulesSigns', WHERE WHAT IT READS IS OF BULK AT MOST 1048576: true; the input reads as it did. -/
def rulesSignsUptoRow : OpenClaim := { program := "ytmjckjbdkffkoaadoor", sum := "44a4811ac52dea8dd04b64a6ea17afae6b7725a06e6e76a3b86369fd78b69a45", func := "quillwort/quillwortlaw12.RulesSigns", spec := "rulesSigns", inPlace := ["internal/abi.NoEscape", "internal/bytealg.IndexByteString"], unfollowed := true, recurses := true, named := ["quillwort/oper.texts", "quillwort/rules.names"], apart := false, laid := [("quillwort/oper.texts", laid_quillwort_oper_texts), ("quillwort/rules.names", laid_quillwort_rules_names)], narrowed := true }
def RulesSignsUptoSaid : Prop := rulesSignsUptoRow.holds Tryd.pinned (OpenSpec.upto rulesSignsSpec)

/-- 'quillwortlaw12.RulesForms', WHERE WHAT IT READS IS OF BULK AT MOST 1048576: true; the input reads as it did. -/
def rulesFormsUptoRow : OpenClaim := { program := "ytmjckjbdkffkoaadoor", sum := "44a4811ac52dea8dd04b64a6ea17afae6b7725a06e6e76a3b86369fd78b69a45", func := "quillwort/quillwortlaw12.RulesForms", spec := "rulesForms", inPlace := ["internal/abi.NoEscape", "internal/bytealg.IndexByteString"], unfollowed := true, recurses := true, named := ["quillwort/oper.texts", "quillwort/rules.names"], apart := false, laid := [("quillwort/oper.texts", laid_quillwort_oper_texts), ("quillwort/rules.names", laid_quillwort_rules_names)], narrowed := true }
def RulesFormsUptoSaid : Prop := rulesFormsUptoRow.holds Tryd.pinned (OpenSpec.upto rulesFormsSpec)

/-- 'quillwortlaw12.RulesRight', WHERE WHAT IT READS IS OF BULK AT MOST 1048576: true; the input reads as it did. -/
def rulesRightUptoRow : OpenClaim := { program := "ytmjckjbdkffkoaadoor", sum := "44a4811ac52dea8dd04b64a6ea17afae6b7725a06e6e76a3b86369fd78b69a45", func := "quillwort/quillwortlaw12.RulesRight", spec := "rulesRight", inPlace := ["internal/abi.NoEscape", "internal/bytealg.IndexByteString"], unfollowed := true, recurses := true, named := ["quillwort/oper.texts", "quillwort/rules.names"], apart := false, laid := [("quillwort/oper.texts", laid_quillwort_oper_texts), ("quillwort/rules.names", laid_quillwort_rules_names)], narrowed := true }
def RulesRightUptoSaid : Prop := rulesRightUptoRow.holds Tryd.pinned (OpenSpec.upto rulesRightSpec)

/-- 'quillwortlaw12.RulesWords', WHERE WHAT IT READS IS OF BULK AT MOST 1048576: true; the input reads as it did. -/
def rulesWordsUptoRow : OpenClaim := { program := "ytmjckjbdkffkoaadoor", sum := "44a4811ac52dea8dd04b64a6ea17afae6b7725a06e6e76a3b86369fd78b69a45", func := "quillwort/quillwortlaw12.RulesWords", spec := "rulesWords", inPlace := ["internal/abi.NoEscape", "internal/bytealg.IndexByteString"], unfollowed := true, recurses := true, named := ["quillwort/oper.texts", "quillwort/rules.names"], apart := false, laid := [("quillwort/oper.texts", laid_quillwort_oper_texts), ("quillwort/rules.names", laid_quillwort_rules_names)], narrowed := true }
def RulesWordsUptoSaid : Prop := rulesWordsUptoRow.holds Tryd.pinned (OpenSpec.upto rulesWordsSpec)

/-- 'quillwortlaw12.RulesDeep', WHERE WHAT IT READS IS OF BULK AT MOST 1048576: true; the input reads as it did. -/
def rulesDeepUptoRow : OpenClaim := { program := "ytmjckjbdkffkoaadoor", sum := "44a4811ac52dea8dd04b64a6ea17afae6b7725a06e6e76a3b86369fd78b69a45", func := "quillwort/quillwortlaw12.RulesDeep", spec := "rulesDeep", inPlace := ["internal/abi.NoEscape", "internal/bytealg.IndexByteString"], unfollowed := true, recurses := true, named := ["quillwort/oper.texts", "quillwort/rules.names"], apart := false, laid := [("quillwort/oper.texts", laid_quillwort_oper_texts), ("quillwort/rules.names", laid_quillwort_rules_names)], narrowed := true }
def RulesDeepUptoSaid : Prop := rulesDeepUptoRow.holds Tryd.pinned (OpenSpec.upto rulesDeepSpec)

/-- 'quillwortlaw12.RulesNames', WHERE WHAT IT READS IS OF BULK AT MOST 1048576: true; the input reads as it did. -/
def rulesNamesUptoRow : OpenClaim := { program := "ytmjckjbdkffkoaadoor", sum := "44a4811ac52dea8dd04b64a6ea17afae6b7725a06e6e76a3b86369fd78b69a45", func := "quillwort/quillwortlaw12.RulesNames", spec := "rulesNames", inPlace := ["internal/abi.NoEscape", "internal/bytealg.IndexByteString"], unfollowed := true, recurses := true, named := ["quillwort/oper.texts", "quillwort/rules.names"], apart := false, laid := [("quillwort/oper.texts", laid_quillwort_oper_texts), ("quillwort/rules.names", laid_quillwort_rules_names)], narrowed := true }
def RulesNamesUptoSaid : Prop := rulesNamesUptoRow.holds Tryd.pinned (OpenSpec.upto rulesNamesSpec)

end Rows
end Go.Proofs.YtmjckjbdkffkoaaDoor

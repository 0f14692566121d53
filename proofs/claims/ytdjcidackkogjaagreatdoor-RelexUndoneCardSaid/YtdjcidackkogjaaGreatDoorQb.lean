/- What Of of layer 4 (class) and the document's own In and Class return: a byte's class. Condition: a byte.
What Ends of layer 4 (class), the document's own Class and Ends, and the library's IndexByte return. Condition: a byte. -/
import Derived.RangeFuncBox
import Derived.RangeFuncNested
import Derived.RangeFuncLeaves
import Derived.Shelf.Abstract
import Derived.WalkKit
import Derived.WalkSpells
import Derived.WalkLawsBesides
import Derived.OwnWalkIn
import Derived.TacticsInMore
import Derived.LoopNIn
import Derived.LoopIn
import Derived.Lib.Hide
import Derived.WalkSmall
import Derived.IntWalk
import Derived.Test.YtdjcidackkogjaaGreatDoorRows
import Derived.Test.YtdjcidackkogjaaGreatDoorQa
import Derived.Lib.Bytealg
import Derived.Deep.QuietTactic
import Derived.BigQuiet
namespace Go.Proofs.YtdjcidackkogjaaGreatDoor
open Go.RowKit
set_option linter.unusedVariables false
attribute [local go_sem] Oper.semAt_some

theorem ret_int {k : IntKind} {a b : Int} (h : a = b) : Ending.returned (.int k a) = .returned (.int k b) := by rw [h]
theorem ret_bool {a b : Bool} (h : a = b) : Ending.returned (.bool a) = .returned (.bool b) := by rw [h]

set_option maxRecDepth 100000 in
set_option maxHeartbeats 2000000 in
theorem of_in (F : Fence) (n : Nat) (hf : F.fn 164) (hro : F.round = none) (c : Nat) (w : World) :
    CallsIn F n Tryz.prog 164 #[.int .u8 c] w fun e w' => e = .returned (.int .i64 (cls c : Nat)) ∧ w' = w := by
  refine callsIn_of_wp Tryz.func164 rfl hf ?_ hro
  simp only [Tryz.ntmps164, List.size_toArray, List.length_cons, List.length_nil, Nat.reduceAdd, Nat.reduceSub, Array.replicate_succ, Array.replicate_zero, List.push_toArray, List.append_toArray, List.nil_append, List.cons_append]
  gi_wp2
  all_goals
    go_ret
    refine ⟨ret_int ?_, rfl⟩
    clear hro hf
    simp only [beq_iff_eq, beq_eq_false_iff_ne, ne_eq] at *
    unfold cls
    (repeat' split) <;> omega
theorem of_any (c : Nat) (w : World) : Calls Tryz.prog 164 #[.int .u8 c] w fun e w' => e = .returned (.int .i64 (cls c : Nat)) ∧ w' = w :=
  (callsIn_wide (n := 1)).1 (of_in _ _ trivial rfl c w)

end Go.Proofs.YtdjcidackkogjaaGreatDoor
namespace Go.Proofs.YtdjcidackkogjaaGreatDoor
open Go.RowKit
set_option linter.unusedVariables false

set_option maxHeartbeats 1000000 in
theorem ends_any (c : Nat) (w : World) :
    Calls Tryz.prog 141 #[.int .u8 c] w fun e w' => e = .returned (.bool (endsB c)) ∧ w' = w := by
  go_enter Tryz.func141, Tryz.ntmps141
  go_wp2_with (go_at_call 164; refine (of_any _ _).mono ?_; rintro e w' ⟨rfl, rfl⟩)
  all_goals
    go_ret
    refine ⟨ret_bool ?_, rfl⟩
    unfold endsB
    simp only [beq_iff_eq, beq_eq_false_iff_ne, ne_eq] at *
    first
      | (symm; rw [decide_eq_true_iff]; omega)
      | (symm; rw [decide_eq_false_iff_not]; omega)
set_option maxRecDepth 100000 in
theorem sindex_any (s : ByteArray) (c : Int) (w : World) :
    Calls Tryz.prog 133 #[.string s, .int .u8 c] w fun e w' => e = .returned (.int .i64 (Lib.indexByte s.data.toList c.toNat.toUInt8)) ∧ w' = w := by
  go_enter Tryz.func133, Tryz.ntmps133
  go_wp2
  rw [run_callFunc_extern Tryz.func154 (by kernel_rfl) (by kernel_rfl) (by kernel_rfl) (e := Extern.BytealgIndexByte.indexByte) (by kernel_rfl), Lib.run_indexByteString]
  simp only [Result.andThen]
  rw [Oper.upon_value]
  go_wp2
  go_ret
  exact ⟨rfl, rfl⟩
theorem index_any (s : ByteArray) (c : Int) (w : World) :
    Calls Tryz.prog 118 #[.string s, .int .u8 c] w fun e w' => e = .returned (.int .i64 (Lib.indexByte s.data.toList c.toNat.toUInt8)) ∧ w' = w := by
  go_enter Tryz.func118, Tryz.ntmps118
  go_wp2_with (go_at_call 133; refine (sindex_any _ _ _).mono ?_; rintro e w' ⟨rfl, rfl⟩)
  go_ret
  exact ⟨rfl, rfl⟩
theorem indexByte_in (l : List UInt8) (d : UInt8) (c : Nat) (e : d.toNat = c) : (0 ≤ Lib.indexByte l d) ↔ (l.any fun b => c == b.toNat) = true := by
  induction l with
  | nil => simp [Lib.indexByte]
  | cons b l ih =>
    have hg := Lib.indexByte_ge l d
    unfold Lib.indexByte
    rw [List.any_cons]
    by_cases g : b = d
    · subst g
      simp [e]
    · have g2 : ¬ c = b.toNat := fun h => g (UInt8.toNat_inj.1 (by rw [e]; exact h.symm))
      have g3 : (b == d) = false := by simpa using g
      have g4 : (c == b.toNat) = false := by simpa using g2
      rw [g3, g4, Bool.false_or]
      refine Iff.trans ?_ ih
      by_cases k : Lib.indexByte l d = -1
      · simp [k]
      · simp [k]; omega
theorem index_inB (s : ByteArray) (c : Nat) (hc : c < 256) (w : World) :
    Calls Tryz.prog 118 #[.string s, .int .u8 c] w fun e w' => (∃ x : Int, e = .returned (.int .i64 x) ∧ decide (0 ≤ x) = inB c s) ∧ w' = w :=
  (index_any s c w).mono fun e w' ⟨he, hw⟩ => ⟨⟨_, he, by rw [Bool.eq_iff_iff, decide_eq_true_iff]; exact indexByte_in _ _ c (by simp; omega)⟩, hw⟩

end Go.Proofs.YtdjcidackkogjaaGreatDoor

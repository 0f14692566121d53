/- What Ends of layer 4 (class), the document's own Class and Ends, and the library's IndexByte return. Condition: a byte. -/
import Derived.Lib.Bytealg
import Derived.Deep.QuietTactic
import Derived.BigQuiet
import Derived.Test.YtiklnlkakhghdaaGreatDoorClA
namespace Go.Proofs.YtiklnlkakhghdaaGreatDoor
open Go.RowKit
set_option linter.unusedVariables false

set_option maxHeartbeats 1000000 in
set_option maxRecDepth 100000 in
theorem class_any (c : Nat) (w : World) :
    Calls Tryz.prog 33 #[.int .u8 c] w fun e w' => e = .returned (.int .i64 (cls c : Nat)) ∧ w' = w := by
  have H1 := Lib.hid (inB_meta c)
  have H2 := Lib.hid (inB_quote c)
  have H3 := Lib.hid (inB_letter c)
  have H4 := Lib.hid (inB_digit c)
  go_enter Tryz.func33, Tryz.ntmps33
  go_wp2_with (go_at_call 45; refine (in_any _ _ _ (by decide)).mono ?_; rintro e w' ⟨rfl, rfl⟩)
  all_goals
    go_ret
    refine ⟨ret_int ?_, rfl⟩
    have h1 := H1.out
    have h2 := H2.out
    have h3 := H3.out
    have h4 := H4.out
    clear H1 H2 H3 H4
    simp only [h1, h2, h3, h4, beq_iff_eq, beq_eq_false_iff_ne, ne_eq, decide_eq_true_eq, decide_eq_false_iff_not] at *
    clear h1 h2 h3 h4
    unfold cls
    (repeat' split) <;> omega

set_option maxHeartbeats 1000000 in
theorem ends_any (c : Nat) (w : World) :
    Calls Tryz.prog 112 #[.int .u8 c] w fun e w' => e = .returned (.bool (endsB c)) ∧ w' = w := by
  go_enter Tryz.func112, Tryz.ntmps112
  go_wp2_with (go_at_call 135; refine (of_any _ _).mono ?_; rintro e w' ⟨rfl, rfl⟩)
  all_goals
    go_ret
    refine ⟨ret_bool ?_, rfl⟩
    unfold endsB
    simp only [beq_iff_eq, beq_eq_false_iff_ne, ne_eq] at *
    first
      | (symm; rw [decide_eq_true_iff]; omega)
      | (symm; rw [decide_eq_false_iff_not]; omega)
set_option maxHeartbeats 1000000 in
theorem refends_any (c : Nat) (w : World) :
    Calls Tryz.prog 47 #[.int .u8 c] w fun e w' => e = .returned (.bool (endsB c)) ∧ w' = w := by
  go_enter Tryz.func47, Tryz.ntmps47
  go_wp2_with (go_at_call 33; refine (class_any _ _).mono ?_; rintro e w' ⟨rfl, rfl⟩)
  all_goals
    go_ret
    refine ⟨ret_bool ?_, rfl⟩
    unfold endsB
    symm
    rw [Bool.eq_iff_iff, decide_eq_true_iff]
    simp
    try omega
set_option maxRecDepth 100000 in
theorem sindex_any (s : ByteArray) (c : Int) (w : World) :
    Calls Tryz.prog 103 #[.string s, .int .u8 c] w fun e w' => e = .returned (.int .i64 (Lib.indexByte s.data.toList c.toNat.toUInt8)) ∧ w' = w := by
  go_enter Tryz.func103, Tryz.ntmps103
  go_wp2
  rw [run_callFunc_extern Tryz.func125 (by kernel_rfl) (by kernel_rfl) (by kernel_rfl) (e := Extern.BytealgIndexByte.indexByte) (by kernel_rfl), Lib.run_indexByteString]
  simp only [Result.andThen]
  rw [Oper.upon_value]
  go_wp2
  go_ret
  exact ⟨rfl, rfl⟩
theorem index_any (s : ByteArray) (c : Int) (w : World) :
    Calls Tryz.prog 86 #[.string s, .int .u8 c] w fun e w' => e = .returned (.int .i64 (Lib.indexByte s.data.toList c.toNat.toUInt8)) ∧ w' = w := by
  go_enter Tryz.func86, Tryz.ntmps86
  go_wp2_with (go_at_call 103; refine (sindex_any _ _ _).mono ?_; rintro e w' ⟨rfl, rfl⟩)
  go_ret
  exact ⟨rfl, rfl⟩
/-- Found or not: just as the byte is one of the text's. -/
theorem indexByte_in (l : List UInt8) (d : UInt8) (c : Nat) (e : d.toNat = c) : (0 ≤ Lib.indexByte l d) ↔ (l.any fun b => c == b.toNat) = true := by
  induction l with
  | nil => simp [Lib.indexByte]
  | cons b l ih =>
    have hg := Lib.indexByte_ge l d
    unfold Lib.indexByte
    rw [List.any_cons]
    by_cases g : b = d
    · subst g
      simp [e]
    · have g2 : ¬ c = b.toNat := fun h => g (UInt8.toNat_inj.1 (by rw [e]; exact h.symm))
      have g3 : (b == d) = false := by simpa using g
      have g4 : (c == b.toNat) = false := by simpa using g2
      rw [g3, g4, Bool.false_or]
      refine Iff.trans ?_ ih
      by_cases k : Lib.indexByte l d = -1
      · simp [k]
      · simp [k]; omega
theorem index_inB (s : ByteArray) (c : Nat) (hc : c < 256) (w : World) :
    Calls Tryz.prog 86 #[.string s, .int .u8 c] w fun e w' => (∃ x : Int, e = .returned (.int .i64 x) ∧ decide (0 ≤ x) = inB c s) ∧ w' = w :=
  (index_any s c w).mono fun e w' ⟨he, hw⟩ => ⟨⟨_, he, by rw [Bool.eq_iff_iff, decide_eq_true_iff]; exact indexByte_in _ _ c (by simp; omega)⟩, hw⟩

end Go.Proofs.YtiklnlkakhghdaaGreatDoor

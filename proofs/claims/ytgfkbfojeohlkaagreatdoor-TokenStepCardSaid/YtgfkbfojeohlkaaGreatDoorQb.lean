/- What Of of layer 4 (class) and the document's own In and Class return: a byte's class. Condition: a byte.
What Ends of layer 4 (class), the document's own Class and Ends, and the library's IndexByte return. Condition: a byte. -/
import Derived.RangeFuncBox
import Derived.RangeFuncNested
import Derived.RangeFuncLeaves
import Derived.Shelf.Abstract
import Derived.WalkKit
import Derived.WalkSpells
import Derived.WalkLawsBesides
import Derived.OwnWalkIn
import Derived.TacticsInMore
import Derived.LoopNIn
import Derived.LoopIn
import Derived.Lib.Hide
import Derived.WalkSmall
import Derived.IntWalk
import Derived.Test.YtgfkbfojeohlkaaGreatDoorRows
import Derived.Test.YtgfkbfojeohlkaaGreatDoorQa
import Derived.Lib.Bytealg
import Derived.Deep.QuietTactic
import Derived.BigQuiet
namespace Go.Proofs.YtgfkbfojeohlkaaGreatDoor
open Go.RowKit
set_option linter.unusedVariables false
attribute [local go_sem] Oper.semAt_some

theorem ret_int {k : IntKind} {a b : Int} (h : a = b) : Ending.returned (.int k a) = .returned (.int k b) := by rw [h]
theorem ret_bool {a b : Bool} (h : a = b) : Ending.returned (.bool a) = .returned (.bool b) := by rw [h]

set_option maxRecDepth 100000 in
set_option maxHeartbeats 2000000 in
theorem of_in (F : Fence) (n : Nat) (hf : F.fn 181) (hro : F.round = none) (c : Nat) (w : World) :
    CallsIn F n Tryz.prog 181 #[.int .u8 c] w fun e w' => e = .returned (.int .i64 (cls c : Nat)) ∧ w' = w := by
  refine callsIn_of_wp Tryz.func181 rfl hf ?_ hro
  simp only [Tryz.ntmps181, List.size_toArray, List.length_cons, List.length_nil, Nat.reduceAdd, Nat.reduceSub, Array.replicate_succ, Array.replicate_zero, List.push_toArray, List.append_toArray, List.nil_append, List.cons_append]
  gi_wp2
  all_goals
    go_ret
    refine ⟨ret_int ?_, rfl⟩
    clear hro hf
    simp only [beq_iff_eq, beq_eq_false_iff_ne, ne_eq] at *
    unfold cls
    (repeat' split) <;> omega
theorem of_any (c : Nat) (w : World) : Calls Tryz.prog 181 #[.int .u8 c] w fun e w' => e = .returned (.int .i64 (cls c : Nat)) ∧ w' = w :=
  (callsIn_wide (n := 1)).1 (of_in _ _ trivial rfl c w)

theorem inB_split (c : Nat) (s : ByteArray) : inB c s = true ↔ ∃ i, i < s.size ∧ (bt s i).toNat = c := by
  unfold inB
  rw [List.any_eq_true]
  constructor
  · rintro ⟨x, hx, he⟩
    obtain ⟨i, hi, rfl⟩ := List.getElem_of_mem hx
    have hi' : i < s.size := by simpa using hi
    refine ⟨i, hi', ?_⟩
    rw [bt_eq hi']
    exact (beq_iff_eq.1 he).symm
  · rintro ⟨i, hi, he⟩
    refine ⟨s[i], ?_, ?_⟩
    · rw [ByteArray.getElem_eq_getElem_data]
      exact Array.getElem_mem_toList _
    · rw [bt_eq hi] at he
      simp [he]

theorem by_yes {s : ByteArray} {k : Nat} {c : Nat} (h : k < s.size) (e : (bt s k).toNat = c) : ((s[k].toNat : Int) == (c : Int)) = true := by
  rw [bt_eq h] at e; rw [e]; simp
theorem by_no {s : ByteArray} {k : Nat} {c : Nat} (h : k < s.size) (e : (bt s k).toNat ≠ c) : ((s[k].toNat : Int) == (c : Int)) = false := by
  rw [bt_eq h] at e
  rw [beq_eq_false_iff_ne]
  intro g
  exact e (by omega)

def InRel (c : Nat) (s : ByteArray) (w : World) (v : Value) (wr : World) : Prop := ∃ k : Nat, k ≤ s.size ∧ v = .int .i64 k ∧ (∀ i, i < k → (bt s i).toNat ≠ c) ∧ wr = w
set_option maxHeartbeats 1000000 in
theorem in_any (c : Nat) (s : ByteArray) (w : World) (hs : s.size ≤ 1000000) :
    Calls Tryz.prog 76 #[.int .u8 c, .string s] w fun e w' => e = .returned (.bool (inB c s)) ∧ w' = w := by
  go_enter Tryz.func76, Tryz.ntmps76
  go_wp2
  go_loopw [5] (fun v wr => InRel c s w v wr) (fun v _ => s.size - (intOf v).toNat)
  case atStart => exact ⟨0, Nat.zero_le _, rfl, fun i h => by omega, rfl⟩
  case round =>
    obtain ⟨k, hk, rfl, hn, rfl⟩ := hrel
    have HN := Lib.hid hn
    clear hn
    by_cases hlt : (k : Int) < s.size
    · have hlt' : k < s.size := by omega
      by_cases e : (bt s k).toNat = c
      · have t1 := by_yes hlt' e
        have HE := Lib.hid e
        clear e
        go_wp2
        go_ret
        exact ⟨ret_bool ((inB_split c s).2 ⟨k, hlt', HE.out⟩).symm, rfl⟩
      · have t1 := by_no hlt' e
        have HE := Lib.hid e
        clear e
        go_wp2
        go_roundw
        case rel =>
          refine ⟨k + 1, by omega, by go_num, fun i hi => ?_, rfl⟩
          by_cases g : i = k
          · rw [g]; exact HE.out
          · exact HN.out i (by omega)
        case measure => simp [intOf]; omega
    · obtain rfl : k = s.size := by omega
      go_wp2
      go_ret
      refine ⟨ret_bool ?_, rfl⟩
      symm
      rw [Bool.eq_false_iff]
      intro g
      obtain ⟨i, hi, he⟩ := (inB_split c s).1 g
      exact HN.out i hi he
end Go.Proofs.YtgfkbfojeohlkaaGreatDoor
namespace Go.Proofs.YtgfkbfojeohlkaaGreatDoor
open Go.RowKit
set_option linter.unusedVariables false

set_option maxHeartbeats 1000000 in
set_option maxRecDepth 100000 in
theorem class_any (c : Nat) (w : World) :
    Calls Tryz.prog 55 #[.int .u8 c] w fun e w' => e = .returned (.int .i64 (cls c : Nat)) ∧ w' = w := by
  have H1 := Lib.hid (inB_meta c)
  have H2 := Lib.hid (inB_quote c)
  have H3 := Lib.hid (inB_letter c)
  have H4 := Lib.hid (inB_digit c)
  go_enter Tryz.func55, Tryz.ntmps55
  go_wp2_with (go_at_call 76; refine (in_any _ _ _ (by decide)).mono ?_; rintro e w' ⟨rfl, rfl⟩)
  all_goals
    go_ret
    refine ⟨ret_int ?_, rfl⟩
    have h1 := H1.out
    have h2 := H2.out
    have h3 := H3.out
    have h4 := H4.out
    clear H1 H2 H3 H4
    simp only [h1, h2, h3, h4, beq_iff_eq, beq_eq_false_iff_ne, ne_eq, decide_eq_true_eq, decide_eq_false_iff_not] at *
    clear h1 h2 h3 h4
    unfold cls
    (repeat' split) <;> omega

set_option maxHeartbeats 1000000 in
theorem ends_any (c : Nat) (w : World) :
    Calls Tryz.prog 158 #[.int .u8 c] w fun e w' => e = .returned (.bool (endsB c)) ∧ w' = w := by
  go_enter Tryz.func158, Tryz.ntmps158
  go_wp2_with (go_at_call 181; refine (of_any _ _).mono ?_; rintro e w' ⟨rfl, rfl⟩)
  all_goals
    go_ret
    refine ⟨ret_bool ?_, rfl⟩
    unfold endsB
    simp only [beq_iff_eq, beq_eq_false_iff_ne, ne_eq] at *
    first
      | (symm; rw [decide_eq_true_iff]; omega)
      | (symm; rw [decide_eq_false_iff_not]; omega)
set_option maxHeartbeats 1000000 in
theorem refends_any (c : Nat) (w : World) :
    Calls Tryz.prog 78 #[.int .u8 c] w fun e w' => e = .returned (.bool (endsB c)) ∧ w' = w := by
  go_enter Tryz.func78, Tryz.ntmps78
  go_wp2_with (go_at_call 55; refine (class_any _ _).mono ?_; rintro e w' ⟨rfl, rfl⟩)
  all_goals
    go_ret
    refine ⟨ret_bool ?_, rfl⟩
    unfold endsB
    symm
    rw [Bool.eq_iff_iff, decide_eq_true_iff]
    simp
    try omega
set_option maxRecDepth 100000 in
theorem sindex_any (s : ByteArray) (c : Int) (w : World) :
    Calls Tryz.prog 150 #[.string s, .int .u8 c] w fun e w' => e = .returned (.int .i64 (Lib.indexByte s.data.toList c.toNat.toUInt8)) ∧ w' = w := by
  go_enter Tryz.func150, Tryz.ntmps150
  go_wp2
  rw [run_callFunc_extern Tryz.func171 (by kernel_rfl) (by kernel_rfl) (by kernel_rfl) (e := Extern.BytealgIndexByte.indexByte) (by kernel_rfl), Lib.run_indexByteString]
  simp only [Result.andThen]
  rw [Oper.upon_value]
  go_wp2
  go_ret
  exact ⟨rfl, rfl⟩
theorem index_any (s : ByteArray) (c : Int) (w : World) :
    Calls Tryz.prog 134 #[.string s, .int .u8 c] w fun e w' => e = .returned (.int .i64 (Lib.indexByte s.data.toList c.toNat.toUInt8)) ∧ w' = w := by
  go_enter Tryz.func134, Tryz.ntmps134
  go_wp2_with (go_at_call 150; refine (sindex_any _ _ _).mono ?_; rintro e w' ⟨rfl, rfl⟩)
  go_ret
  exact ⟨rfl, rfl⟩
theorem indexByte_in (l : List UInt8) (d : UInt8) (c : Nat) (e : d.toNat = c) : (0 ≤ Lib.indexByte l d) ↔ (l.any fun b => c == b.toNat) = true := by
  induction l with
  | nil => simp [Lib.indexByte]
  | cons b l ih =>
    have hg := Lib.indexByte_ge l d
    unfold Lib.indexByte
    rw [List.any_cons]
    by_cases g : b = d
    · subst g
      simp [e]
    · have g2 : ¬ c = b.toNat := fun h => g (UInt8.toNat_inj.1 (by rw [e]; exact h.symm))
      have g3 : (b == d) = false := by simpa using g
      have g4 : (c == b.toNat) = false := by simpa using g2
      rw [g3, g4, Bool.false_or]
      refine Iff.trans ?_ ih
      by_cases k : Lib.indexByte l d = -1
      · simp [k]
      · simp [k]; omega
theorem index_inB (s : ByteArray) (c : Nat) (hc : c < 256) (w : World) :
    Calls Tryz.prog 134 #[.string s, .int .u8 c] w fun e w' => (∃ x : Int, e = .returned (.int .i64 x) ∧ decide (0 ≤ x) = inB c s) ∧ w' = w :=
  (index_any s c w).mono fun e w' ⟨he, hw⟩ => ⟨⟨_, he, by rw [Bool.eq_iff_iff, decide_eq_true_iff]; exact indexByte_in _ _ c (by simp; omega)⟩, hw⟩

end Go.Proofs.YtgfkbfojeohlkaaGreatDoor

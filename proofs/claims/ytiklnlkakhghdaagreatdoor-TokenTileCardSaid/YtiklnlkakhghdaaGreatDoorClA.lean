/- What Of of layer 4 (class) and the document's own In and Class return: a byte's class. Condition: a byte. -/
import Derived.RangeFuncBox
import Derived.RangeFuncNested
import Derived.RangeFuncLeaves
import Derived.Shelf.Abstract
import Derived.WalkKit
import Derived.WalkSpells
import Derived.WalkLawsBesides
import Derived.OwnWalkIn
import Derived.TacticsInMore
import Derived.LoopNIn
import Derived.LoopIn
import Derived.Lib.Hide
import Derived.WalkSmall
import Derived.IntWalk
import Derived.Test.YtiklnlkakhghdaaGreatDoorRows
import Derived.Test.YtiklnlkakhghdaaGreatDoorClP
namespace Go.Proofs.YtiklnlkakhghdaaGreatDoor
open Go.RowKit
set_option linter.unusedVariables false
attribute [local go_sem] Oper.semAt_some

theorem ret_int {k : IntKind} {a b : Int} (h : a = b) : Ending.returned (.int k a) = .returned (.int k b) := by rw [h]
theorem ret_bool {a b : Bool} (h : a = b) : Ending.returned (.bool a) = .returned (.bool b) := by rw [h]

set_option maxRecDepth 100000 in
set_option maxHeartbeats 2000000 in
theorem of_in (F : Fence) (n : Nat) (hf : F.fn 135) (hro : F.round = none) (c : Nat) (w : World) :
    CallsIn F n Tryz.prog 135 #[.int .u8 c] w fun e w' => e = .returned (.int .i64 (cls c : Nat)) ∧ w' = w := by
  refine callsIn_of_wp Tryz.func135 rfl hf ?_ hro
  simp only [Tryz.ntmps135, List.size_toArray, List.length_cons, List.length_nil, Nat.reduceAdd, Nat.reduceSub, Array.replicate_succ, Array.replicate_zero, List.push_toArray, List.append_toArray, List.nil_append, List.cons_append]
  gi_wp2
  all_goals
    go_ret
    refine ⟨ret_int ?_, rfl⟩
    clear hro hf
    simp only [beq_iff_eq, beq_eq_false_iff_ne, ne_eq] at *
    unfold cls
    (repeat' split) <;> omega
theorem of_any (c : Nat) (w : World) : Calls Tryz.prog 135 #[.int .u8 c] w fun e w' => e = .returned (.int .i64 (cls c : Nat)) ∧ w' = w :=
  (callsIn_wide (n := 1)).1 (of_in _ _ trivial rfl c w)

theorem inB_split (c : Nat) (s : ByteArray) : inB c s = true ↔ ∃ i, i < s.size ∧ (bt s i).toNat = c := by
  unfold inB
  rw [List.any_eq_true]
  constructor
  · rintro ⟨x, hx, he⟩
    obtain ⟨i, hi, rfl⟩ := List.getElem_of_mem hx
    have hi' : i < s.size := by simpa using hi
    refine ⟨i, hi', ?_⟩
    rw [bt_eq hi']
    exact (beq_iff_eq.1 he).symm
  · rintro ⟨i, hi, he⟩
    refine ⟨s[i], ?_, ?_⟩
    · rw [ByteArray.getElem_eq_getElem_data]
      exact Array.getElem_mem_toList _
    · rw [bt_eq hi] at he
      simp [he]

theorem by_yes {s : ByteArray} {k : Nat} {c : Nat} (h : k < s.size) (e : (bt s k).toNat = c) : ((s[k].toNat : Int) == (c : Int)) = true := by
  rw [bt_eq h] at e; rw [e]; simp
theorem by_no {s : ByteArray} {k : Nat} {c : Nat} (h : k < s.size) (e : (bt s k).toNat ≠ c) : ((s[k].toNat : Int) == (c : Int)) = false := by
  rw [bt_eq h] at e
  rw [beq_eq_false_iff_ne]
  intro g
  exact e (by omega)

def InRel (c : Nat) (s : ByteArray) (w : World) (v : Value) (wr : World) : Prop := ∃ k : Nat, k ≤ s.size ∧ v = .int .i64 k ∧ (∀ i, i < k → (bt s i).toNat ≠ c) ∧ wr = w
set_option maxHeartbeats 1000000 in
theorem in_any (c : Nat) (s : ByteArray) (w : World) (hs : s.size ≤ 1000000) :
    Calls Tryz.prog 45 #[.int .u8 c, .string s] w fun e w' => e = .returned (.bool (inB c s)) ∧ w' = w := by
  go_enter Tryz.func45, Tryz.ntmps45
  go_wp2
  go_loopw [5] (fun v wr => InRel c s w v wr) (fun v _ => s.size - (intOf v).toNat)
  case atStart => exact ⟨0, Nat.zero_le _, rfl, fun i h => by omega, rfl⟩
  case round =>
    obtain ⟨k, hk, rfl, hn, rfl⟩ := hrel
    have HN := Lib.hid hn
    clear hn
    by_cases hlt : (k : Int) < s.size
    · have hlt' : k < s.size := by omega
      by_cases e : (bt s k).toNat = c
      · have t1 := by_yes hlt' e
        have HE := Lib.hid e
        clear e
        go_wp2
        go_ret
        exact ⟨ret_bool ((inB_split c s).2 ⟨k, hlt', HE.out⟩).symm, rfl⟩
      · have t1 := by_no hlt' e
        have HE := Lib.hid e
        clear e
        go_wp2
        go_roundw
        case rel =>
          refine ⟨k + 1, by omega, by go_num, fun i hi => ?_, rfl⟩
          by_cases g : i = k
          · rw [g]; exact HE.out
          · exact HN.out i (by omega)
        case measure => simp [intOf]; omega
    · obtain rfl : k = s.size := by omega
      go_wp2
      go_ret
      refine ⟨ret_bool ?_, rfl⟩
      symm
      rw [Bool.eq_false_iff]
      intro g
      obtain ⟨i, hi, he⟩ := (inB_split c s).1 g
      exact HN.out i hi he
end Go.Proofs.YtiklnlkakhghdaaGreatDoor

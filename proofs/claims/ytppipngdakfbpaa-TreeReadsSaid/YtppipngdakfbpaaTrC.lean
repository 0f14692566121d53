/- What the document's own In and Class (layer 4) return, and the library's IndexByte. Condition: a byte. -/
import Derived.Lib.Bytealg
import Derived.Deep.QuietTactic
import Derived.BigQuiet
import Derived.Test.YtppipngdakfbpaaTrM
import Derived.Test.YtppipngdakfbpaaClP
namespace Go.Proofs.Ytppipngdakfbpaa
open Go.RowKit
set_option linter.unusedVariables false
attribute [local go_sem] Oper.semAt_some

theorem inB_split (c : Nat) (s : ByteArray) : inB c s = true ↔ ∃ i, i < s.size ∧ (bt s i).toNat = c := by
  unfold inB
  rw [List.any_eq_true]
  constructor
  · rintro ⟨x, hx, he⟩
    obtain ⟨i, hi, rfl⟩ := List.getElem_of_mem hx
    have hi' : i < s.size := by simpa using hi
    refine ⟨i, hi', ?_⟩
    rw [bt_eq hi']
    exact (beq_iff_eq.1 he).symm
  · rintro ⟨i, hi, he⟩
    refine ⟨s[i], ?_, ?_⟩
    · rw [ByteArray.getElem_eq_getElem_data]
      exact Array.getElem_mem_toList _
    · rw [bt_eq hi] at he
      simp [he]

theorem by_yes {s : ByteArray} {k : Nat} {c : Nat} (h : k < s.size) (e : (bt s k).toNat = c) : ((s[k].toNat : Int) == (c : Int)) = true := by
  rw [bt_eq h] at e; rw [e]; simp
theorem by_no {s : ByteArray} {k : Nat} {c : Nat} (h : k < s.size) (e : (bt s k).toNat ≠ c) : ((s[k].toNat : Int) == (c : Int)) = false := by
  rw [bt_eq h] at e
  rw [beq_eq_false_iff_ne]
  intro g
  exact e (by omega)

def InRel (c : Nat) (s : ByteArray) (w : World) (v : Value) (wr : World) : Prop := ∃ k : Nat, k ≤ s.size ∧ v = .int .i64 k ∧ (∀ i, i < k → (bt s i).toNat ≠ c) ∧ wr = w
set_option maxHeartbeats 1000000 in
theorem in_any (c : Nat) (s : ByteArray) (w : World) (hs : s.size ≤ 1000000) :
    Calls Try.prog 33 #[.int .u8 c, .string s] w fun e w' => e = .returned (.bool (inB c s)) ∧ w' = w := by
  go_enter Try.func33, Try.ntmps33
  go_wp2
  go_loopw [5] (fun v wr => InRel c s w v wr) (fun v _ => s.size - (intOf v).toNat)
  case atStart => exact ⟨0, Nat.zero_le _, rfl, fun i h => by omega, rfl⟩
  case round =>
    obtain ⟨k, hk, rfl, hn, rfl⟩ := hrel
    have HN := Lib.hid hn
    clear hn
    by_cases hlt : (k : Int) < s.size
    · have hlt' : k < s.size := by omega
      by_cases e : (bt s k).toNat = c
      · have t1 := by_yes hlt' e
        have HE := Lib.hid e
        clear e
        go_wp2
        go_ret
        exact ⟨ret_bool ((inB_split c s).2 ⟨k, hlt', HE.out⟩).symm, rfl⟩
      · have t1 := by_no hlt' e
        have HE := Lib.hid e
        clear e
        go_wp2
        go_roundw
        case rel =>
          refine ⟨k + 1, by omega, by go_num, fun i hi => ?_, rfl⟩
          by_cases g : i = k
          · rw [g]; exact HE.out
          · exact HN.out i (by omega)
        case measure => simp [intOf]; omega
    · obtain rfl : k = s.size := by omega
      go_wp2
      go_ret
      refine ⟨ret_bool ?_, rfl⟩
      symm
      rw [Bool.eq_false_iff]
      intro g
      obtain ⟨i, hi, he⟩ := (inB_split c s).1 g
      exact HN.out i hi he

set_option maxHeartbeats 2000000 in
set_option maxRecDepth 100000 in
theorem class_any (c : Nat) (w : World) :
    Calls Try.prog 41 #[.int .u8 c] w fun e w' => e = .returned (.int .i64 (cls c : Nat)) ∧ w' = w := by
  have H1 := Lib.hid (inB_meta c)
  have H2 := Lib.hid (inB_quote c)
  have H3 := Lib.hid (inB_letter c)
  have H4 := Lib.hid (inB_digit c)
  go_enter Try.func41, Try.ntmps41
  go_wp2_with (go_at_call 33; refine (in_any _ _ _ (by decide)).mono ?_; rintro e w' ⟨rfl, rfl⟩)
  all_goals
    go_ret
    refine ⟨ret_int ?_, rfl⟩
    have h1 := H1.out
    have h2 := H2.out
    have h3 := H3.out
    have h4 := H4.out
    clear H1 H2 H3 H4
    simp only [h1, h2, h3, h4, beq_iff_eq, beq_eq_false_iff_ne, ne_eq, decide_eq_true_eq, decide_eq_false_iff_not] at *
    clear h1 h2 h3 h4
    unfold cls
    (repeat' split) <;> omega


end Go.Proofs.Ytppipngdakfbpaa

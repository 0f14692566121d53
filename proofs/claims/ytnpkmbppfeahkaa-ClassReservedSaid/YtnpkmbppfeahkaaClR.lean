/- What Reserved of layer 4 (class) and the document's own Reserved return; the walk of ClassReserved: the law returns true. Condition: texts as they come. -/
import Derived.Test.YtnpkmbppfeahkaaClE
import Derived.Test.YtnpkmbppfeahkaaClS
namespace Go.Proofs.Ytnpkmbppfeahkaa
open Go.RowKit
set_option linter.unusedVariables false

set_option maxRecDepth 100000 in
set_option maxHeartbeats 2000000 in
theorem reserved_any (s : ByteArray) (w : World) :
    Calls Try.prog 27 #[.string s] w fun e w' => e = .returned (.bool (resB s)) ∧ w' = w := by
  go_enter Try.func27, Try.ntmps27
  go_wp2
  all_goals
    go_ret
    refine ⟨ret_bool ?_, rfl⟩
    unfold resB
    simp only [Go.ByteArray.toList_eq] at *
    generalize s.data.toList = L at *
    simp_all [words]

def ReRel (s : ByteArray) (w : World) (v : Value) (wr : World) : Prop := ∃ k : Nat, k ≤ 66 ∧ v = .int .i64 k ∧ (∀ i, i < k → hit s i = false) ∧ wr = w
set_option maxHeartbeats 2000000 in
theorem refreserved_any (s : ByteArray) (w : World) (hs : s.size ≤ 100) :
    Calls Try.prog 28 #[.string s] w fun e w' => e = .returned (.bool (resB s)) ∧ w' = w := by
  by_cases h0 : s.size = 0
  · have hz : ((s.size : Int) == 0) = true := beq_iff_eq.2 (by omega)
    have H0 := Lib.hid h0
    clear h0
    go_enter Try.func28, Try.ntmps28
    go_wp2
    go_ret
    refine ⟨ret_bool ?_, rfl⟩
    have : s = ⟨#[]⟩ := ByteArray.ext (Array.eq_empty_of_size_eq_zero H0.out)
    subst this
    rfl
  · have hz : ((s.size : Int) == 0) = false := beq_eq_false_iff_ne.2 (by omega)
    obtain ⟨b, hb⟩ : ∃ b, inB 32 s = b := ⟨_, rfl⟩
    have HB := Lib.hid hb
    have hin := fun w => in_any 32 s w (by omega)
    rw [hb] at hin
    have HI := Lib.hid hin
    clear hb hin
    cases b
    · obtain ⟨r, hr⟩ : ∃ r, resB s = r := ⟨_, rfl⟩
      rw [hr]
      have HR := Lib.hid hr
      clear hr
      go_enter Try.func28, Try.ntmps28
      go_wp2_with fail
      refine (HI.out _).mono ?_
      rintro e w1 ⟨rfl, rfl⟩
      go_wp2
      go_loopw [4] (fun v wr => ReRel s w1 v wr) (fun v _ => 66 - (intOf v).toNat)
      case atStart => exact ⟨0, by omega, rfl, fun i h => by omega, rfl⟩
      case round =>
        obtain ⟨k, hk, rfl, hn, rfl⟩ := hrel
        have HN := Lib.hid hn
        clear hn
        by_cases hle : (k : Int) + (1 + s.size + 1) ≤ 65
        · obtain ⟨x, hx⟩ : ∃ x, hit s k = x := ⟨_, rfl⟩
          have t := hx
          unfold hit wtext at t
          have HX := Lib.hid hx
          clear hx
          cases x
          · go_wp2
            go_roundw
            case rel =>
              refine ⟨k + 1, by omega, by go_num, fun i hi => ?_, rfl⟩
              by_cases g : i = k
              · rw [g]; exact HX.out
              · exact HN.out i (by omega)
            case measure => simp [intOf]; omega
          · go_wp2
            go_ret
            exact ⟨ret_bool (by rw [← HR.out, hit_word h0 HB.out (by omega) HX.out]), rfl⟩
        · have hgt : (65 : Int) < (k : Int) + (1 + s.size + 1) := by omega
          clear hle
          go_wp2
          go_ret
          refine ⟨ret_bool ?_, rfl⟩
          symm
          rw [Bool.eq_false_iff]
          intro g
          rw [← HR.out] at g
          obtain ⟨i, hi, hh⟩ := word_hit g
          rw [HN.out i (by omega)] at hh
          cases hh
    · have hr : resB s = false := by
        rw [Bool.eq_false_iff]
        intro g
        have hw : (words.all fun l => !l.contains 32) = true := by decide
        rw [List.all_eq_true] at hw
        have h1 := hw s.data.toList (by unfold resB at g; simpa using g)
        rw [← inB_32, HB.out] at h1
        cases h1
      rw [hr]
      have HR := Lib.hid hr
      clear hr
      go_enter Try.func28, Try.ntmps28
      go_wp2_with fail
      refine (HI.out _).mono ?_
      rintro e w1 ⟨rfl, rfl⟩
      go_wp2
      go_ret
      exact ⟨rfl, rfl⟩

set_option maxHeartbeats 1000000 in
theorem reserved_law (s : ByteArray) (w : World) (hmax : s.size ≤ 9223372036854775807) :
    Calls Try.prog 6 #[.string s] w fun e w' => e = .returned (.bool true) ∧ Below w.heap.size w w' := by
  obtain ⟨b, hb⟩ : ∃ b, resB s = b := ⟨_, rfl⟩
  have h1 := fun w => reserved_any s w
  rw [hb] at h1
  by_cases hs : (s.size : Int) ≤ 100
  · have h2 := fun w => refreserved_any s w (by omega)
    rw [hb] at h2
    have H1 := Lib.hid h1
    have H2 := Lib.hid h2
    clear h1 h2 hb
    go_enter Try.func6, Try.ntmps6
    go_wp2_with fail
    refine (awake_any _).mono ?_
    rintro e w1 ⟨rfl, rfl⟩
    go_wp2_with fail
    refine (H1.out _).mono ?_
    rintro e w1 ⟨rfl, rfl⟩
    go_wp2_with fail
    refine (H2.out _).mono ?_
    rintro e w1 ⟨rfl, rfl⟩
    go_wp2
    go_ret
    exact ⟨ret_bool (by simp), Below.refl _ _⟩
  · have hs2 : (100 : Int) < s.size := by omega
    have hf : b = false := by
      rw [← hb, Bool.eq_false_iff]
      intro g
      have := res_small g
      omega
    subst hf
    have H1 := Lib.hid h1
    clear h1 hb hs
    go_enter Try.func6, Try.ntmps6
    go_wp2_with fail
    refine (awake_any _).mono ?_
    rintro e w1 ⟨rfl, rfl⟩
    go_wp2_with fail
    refine (H1.out _).mono ?_
    rintro e w1 ⟨rfl, rfl⟩
    go_wp2
    go_ret
    exact ⟨rfl, Below.refl _ _⟩
end Go.Proofs.Ytnpkmbppfeahkaa

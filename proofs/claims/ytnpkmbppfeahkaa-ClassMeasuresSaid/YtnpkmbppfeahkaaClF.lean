/- The walks of ClassBytes and ClassMeasures of layer 4 (class): the laws return true. Condition: texts as they come. -/
import Derived.Test.YtnpkmbppfeahkaaClE
namespace Go.Proofs.Ytnpkmbppfeahkaa
open Go.RowKit
set_option linter.unusedVariables false

set_option maxHeartbeats 1000000 in
theorem bytes_law (c : Nat) (hc : c < 256) (w : World) :
    Calls Try.prog 3 #[.int .u8 c] w fun e w' => e = .returned (.bool true) ∧ Below w.heap.size w w' := by
  obtain ⟨k, hk⟩ : ∃ k, cls c = k := ⟨_, rfl⟩
  have h1 := fun w => of_any c w
  have h2 := fun w => class_any c w
  rw [hk] at h1 h2
  have H1 := Lib.hid h1
  have H2 := Lib.hid h2
  clear h1 h2 hk
  go_enter Try.func3, Try.ntmps3
  go_wp2_with (first
    | (go_at_call 9; refine (awake_any _).mono ?_; rintro e w' ⟨rfl, rfl⟩)
    | (go_at_call 10; refine (H1.out _).mono ?_; rintro e w' ⟨rfl, rfl⟩)
    | (go_at_call 11; refine (H2.out _).mono ?_; rintro e w' ⟨rfl, rfl⟩)
    | (go_at_call 12; refine (ends_any _ _).mono ?_; rintro e w' ⟨rfl, rfl⟩)
    | (go_at_call 13; refine (refends_any _ _).mono ?_; rintro e w' ⟨rfl, rfl⟩)
    | (go_at_call 14; refine (safe_any _ hc _).mono ?_; rintro e w' ⟨rfl, rfl⟩)
    | (go_at_call 15; refine (refsafe_any _ hc _).mono ?_; rintro e w' ⟨rfl, rfl⟩))
  go_ret
  exact ⟨ret_bool (by simp), Below.refl _ _⟩

set_option maxHeartbeats 2000000 in
theorem measures_law (s : ByteArray) (a : Int) (w : World) (hmax : s.size ≤ 9223372036854775807) :
    Calls Try.prog 4 #[.string s, .int .i64 a] w fun e w' => e = .returned (.bool true) ∧ Below w.heap.size w w' := by
  by_cases hs : (s.size : Int) ≤ 100
  · have hm : s.size ≤ 1000000 := by omega
    by_cases h : 0 ≤ a ∧ a < s.size
    · obtain ⟨k, rfl⟩ := Int.eq_ofNat_of_zero_le h.1
      have hk : k < s.size := by omega
      have hk2 : (k : Int) < s.size := h.2
      have hd : decide ((k : Int) < 0) = false := by simp
      have hd2 : decide (s.size ≤ k) = false := by simp; omega
      have e1 : ∀ f, atV s k f = (f k : Nat) := fun f => by unfold atV; rw [if_pos h]; rfl
      have hn := fun w => name_any s k w hm
      have hdg := fun w => digits_any s k w hm
      have hb := fun w => blanks_any s k w hm
      have hp := fun w => param_any s k w hm
      have rn := fun w => refname_any s k w hm (by omega)
      have rd := fun w => refrow_any s k 6 w hm (by omega)
      have rb := fun w => refrow_any s k 1 w hm (by omega)
      have rp := fun w => refparam_any s k w hm hk
      simp only [e1] at hn hdg hb hp
      obtain ⟨x1, hx1⟩ : ∃ x, nameN s k = x := ⟨_, rfl⟩
      obtain ⟨x2, hx2⟩ : ∃ x, rowN s k 6 = x := ⟨_, rfl⟩
      obtain ⟨x3, hx3⟩ : ∃ x, rowN s k 1 = x := ⟨_, rfl⟩
      obtain ⟨x4, hx4⟩ : ∃ x, paramN s k = x := ⟨_, rfl⟩
      rw [hx1] at hn rn
      rw [hx2] at hdg rd
      rw [hx3] at hb rb
      rw [hx4] at hp rp
      have HN := Lib.hid hn
      have HD := Lib.hid hdg
      have HB := Lib.hid hb
      have HP := Lib.hid hp
      have RN := Lib.hid rn
      have RD := Lib.hid rd
      have RB := Lib.hid rb
      have RP := Lib.hid rp
      clear hn hdg hb hp rn rd rb rp hx1 hx2 hx3 hx4 e1 h
      go_enter Try.func4, Try.ntmps4
      go_wp2_with fail
      refine (awake_any _).mono ?_
      rintro e w' ⟨rfl, rfl⟩
      go_wp2_with fail
      refine (HN.out _).mono ?_
      rintro e w' ⟨rfl, rfl⟩
      go_wp2_with fail
      refine (RN.out _).mono ?_
      rintro e w' ⟨rfl, rfl⟩
      go_wp2_with fail
      refine (HD.out _).mono ?_
      rintro e w1 ⟨rfl, b1⟩
      go_wp2_with fail
      refine (RD.out _).mono ?_
      rintro e w' ⟨rfl, rfl⟩
      go_wp2_with fail
      refine (HB.out _).mono ?_
      rintro e w2 ⟨rfl, b2⟩
      go_wp2_with fail
      refine (RB.out _).mono ?_
      rintro e w' ⟨rfl, rfl⟩
      go_wp2_with fail
      refine (HP.out _).mono ?_
      rintro e w' ⟨rfl, rfl⟩
      go_wp2_with fail
      refine (RP.out _).mono ?_
      rintro e w' ⟨rfl, rfl⟩
      go_wp2
      go_ret
      exact ⟨ret_bool (by simp), b1.trans (b2.mono b1.size)⟩
    · have e1 : ∀ f, atV s a f = 0 := fun f => by unfold atV; rw [if_neg h]
      have hn := fun w => name_any s a w hm
      have hdg := fun w => digits_any s a w hm
      have hb := fun w => blanks_any s a w hm
      have hp := fun w => param_any s a w hm
      simp only [e1] at hn hdg hb hp
      have HN := Lib.hid hn
      have HD := Lib.hid hdg
      have HB := Lib.hid hb
      have HP := Lib.hid hp
      clear hn hdg hb hp e1
      have hor : decide (a < 0) = true ∨ decide (a < 0) = false ∧ decide ((s.size : Int) ≤ a) = true := by
        by_cases g : a < 0
        · exact .inl (by simpa using g)
        · exact .inr ⟨by simpa using g, by simp; omega⟩
      clear h
      rcases hor with g | ⟨g, g2⟩
      all_goals
        go_enter Try.func4, Try.ntmps4
        go_wp2_with fail
        refine (awake_any _).mono ?_
        rintro e w' ⟨rfl, rfl⟩
        go_wp2_with fail
        refine (HN.out _).mono ?_
        rintro e w' ⟨rfl, rfl⟩
        go_wp2_with fail
        refine (HD.out _).mono ?_
        rintro e w1 ⟨rfl, b1⟩
        go_wp2_with fail
        refine (HB.out _).mono ?_
        rintro e w2 ⟨rfl, b2⟩
        go_wp2_with fail
        refine (HP.out _).mono ?_
        rintro e w' ⟨rfl, rfl⟩
        go_wp2
        go_ret
        exact ⟨rfl, b1.trans (b2.mono b1.size)⟩
  · have hs2 : (100 : Int) < s.size := by omega
    clear hs
    go_enter Try.func4, Try.ntmps4
    go_wp2_with fail
    refine (awake_any _).mono ?_
    rintro e w' ⟨rfl, rfl⟩
    go_wp2
    go_ret
    exact ⟨rfl, Below.refl _ _⟩
end Go.Proofs.Ytnpkmbppfeahkaa

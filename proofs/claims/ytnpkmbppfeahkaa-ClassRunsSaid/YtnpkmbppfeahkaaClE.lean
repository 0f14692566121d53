/- What Param of layer 4 (class) and the document's own Name, Row, Param and Assign return; that what the document tells holds. Condition: texts of at most a million bytes. -/
import Derived.Test.YtnpkmbppfeahkaaClD
import Derived.Deep.QuietTactic
import Derived.BigQuiet
namespace Go.Proofs.Ytnpkmbppfeahkaa
open Go.RowKit
set_option linter.unusedVariables false

theorem refisname_eq (s : ByteArray) (w : World) (hs : s.size ≤ 1000000) (b : Bool) (h : isNm s = b) :
    Calls Try.prog 26 #[.string s] w fun e w' => e = .returned (.bool b) ∧ w' = w := by
  rw [← h]; exact refisname_any s w hs
theorem all_eq (s : ByteArray) (d : Nat) (w : World) (hs : s.size ≤ 1000000) (b : Bool) (h : allB s d = b) :
    Calls Try.prog 30 #[.string s, .int .i64 d] w fun e w' => e = .returned (.bool b) ∧ w' = w := by
  rw [← h]; exact all_any s d w hs

def RnRel (f : Nat → Nat) (z : Nat) (w : World) (v5 v6 : Value) (wr : World) : Prop := ∃ k m : Nat, 1 ≤ k ∧ k ≤ z + 1 ∧ v6 = .int .i64 k ∧ v5 = .int .i64 m ∧ m = f (k - 1) ∧ wr = w
set_option maxHeartbeats 1000000 in
theorem refname_any (s : ByteArray) (a : Nat) (w : World) (hs : s.size ≤ 1000000) (ha : a ≤ s.size) :
    Calls Try.prog 20 #[.string s, .int .i64 a] w fun e w' => e = .returned (.int .i64 (nameN s a : Nat)) ∧ w' = w := by
  have ha2 : (a : Int) ≤ s.size := by omega
  go_enter Try.func20, Try.ntmps20
  go_wp2
  go_loopw [5, 6] (fun v5 v6 wr => RnRel (nameT s a) (s.size - a) w v5 v6 wr) (fun _ v6 _ => s.size + 1 - a - (intOf v6).toNat)
  case atStart => exact ⟨1, 0, by omega, by omega, rfl, rfl, rfl, rfl⟩
  case round =>
    obtain ⟨k, m, hk1, hk, rfl, rfl, hm, rfl⟩ := hrel
    have hm2 : m ≤ k := by have := nameT_le s a (k - 1); omega
    have HM := Lib.hid hm
    clear hm
    by_cases hlt : a + k ≤ s.size
    · have h1 : (k : Int) ≤ (s.size : Int) - a := by omega
      have h2 : (a : Int) + k ≤ s.size := by omega
      have hz : (s.extract a (a + k)).size ≤ 1000000 := by simp; omega
      obtain ⟨b, hb⟩ : ∃ b, isNm (s.extract a (a + k)) = b := ⟨_, rfl⟩
      have HB := Lib.hid hb
      clear hb
      cases b
      all_goals
        go_wp2_with fail
        refine (refisname_eq _ _ hz _ HB.out).mono ?_
        rintro e w2 ⟨rfl, rfl⟩
        go_wp2
        go_roundw
        case measure => simp [intOf]; omega
      · refine ⟨k + 1, m, by omega, by omega, by go_num, rfl, ?_, rfl⟩
        obtain ⟨j, rfl⟩ : ∃ j, k = j + 1 := ⟨k - 1, by omega⟩
        rw [HM.out]
        exact (nameT_no (by omega) HB.out).symm
      · refine ⟨k + 1, k, by omega, by omega, by go_num, rfl, ?_, rfl⟩
        obtain ⟨j, rfl⟩ : ∃ j, k = j + 1 := ⟨k - 1, by omega⟩
        exact (nameT_yes (by omega) HB.out).symm
    · have h1 : ¬ (k : Int) ≤ (s.size : Int) - a := by omega
      have hz : k = s.size - a + 1 := by omega
      have HZ := Lib.hid hz
      clear hz
      go_wp2
      go_ret
      exact ⟨ret_int (by rw [HM.out, HZ.out]; rfl), rfl⟩
set_option maxHeartbeats 1000000 in
theorem refrow_any (s : ByteArray) (a d : Nat) (w : World) (hs : s.size ≤ 1000000) (ha : a ≤ s.size) :
    Calls Try.prog 21 #[.string s, .int .i64 a, .int .i64 d] w fun e w' => e = .returned (.int .i64 (rowN s a d : Nat)) ∧ w' = w := by
  have ha2 : (a : Int) ≤ s.size := by omega
  go_enter Try.func21, Try.ntmps21
  go_wp2
  go_loopw [7, 8] (fun v5 v6 wr => RnRel (rowT s a d) (s.size - a) w v5 v6 wr) (fun _ v6 _ => s.size + 1 - a - (intOf v6).toNat)
  case atStart => exact ⟨1, 0, by omega, by omega, rfl, rfl, rfl, rfl⟩
  case round =>
    obtain ⟨k, m, hk1, hk, rfl, rfl, hm, rfl⟩ := hrel
    have hm2 : m ≤ k := by have := rowT_le s a d (k - 1); omega
    have HM := Lib.hid hm
    clear hm
    by_cases hlt : a + k ≤ s.size
    · have h1 : (k : Int) ≤ (s.size : Int) - a := by omega
      have h2 : (a : Int) + k ≤ s.size := by omega
      have hz : (s.extract a (a + k)).size ≤ 1000000 := by simp; omega
      obtain ⟨b, hb⟩ : ∃ b, allB (s.extract a (a + k)) d = b := ⟨_, rfl⟩
      have HB := Lib.hid hb
      clear hb
      cases b
      all_goals
        go_wp2_with fail
        refine (all_eq _ _ _ hz _ HB.out).mono ?_
        rintro e w2 ⟨rfl, rfl⟩
        go_wp2
        go_roundw
        case measure => simp [intOf]; omega
      · refine ⟨k + 1, m, by omega, by omega, by go_num, rfl, ?_, rfl⟩
        obtain ⟨j, rfl⟩ : ∃ j, k = j + 1 := ⟨k - 1, by omega⟩
        rw [HM.out]
        exact (rowT_no (by omega) HB.out).symm
      · refine ⟨k + 1, k, by omega, by omega, by go_num, rfl, ?_, rfl⟩
        obtain ⟨j, rfl⟩ : ∃ j, k = j + 1 := ⟨k - 1, by omega⟩
        exact (rowT_yes (by omega) HB.out).symm
    · have h1 : ¬ (k : Int) ≤ (s.size : Int) - a := by omega
      have hz : k = s.size - a + 1 := by omega
      have HZ := Lib.hid hz
      clear hz
      go_wp2
      go_ret
      exact ⟨ret_int (by rw [HM.out, HZ.out]; rfl), rfl⟩

theorem special_at (s : ByteArray) (k : Nat) (h : k < s.size) (b : Bool) (e : specB (bt s k).toNat = b) (w : World) :
    Calls Try.prog 36 #[.int .u8 s[k].toNat] w fun e w' => e = .returned (.bool b) ∧ w' = w := by
  rw [← e, bt_eq h]; exact special_any _ (u8_lt s k h) _
theorem in_at (s : ByteArray) (k : Nat) (h : k < s.size) (b : Bool) (e : specB (bt s k).toNat = b) (w : World) :
    Calls Try.prog 31 #[.int .u8 s[k].toNat, .string ⟨#[64, 42, 35, 63, 45, 36, 33]⟩] w fun e w' => e = .returned (.bool b) ∧ w' = w := by
  rw [← e, bt_eq h, ← inB_spec]; exact in_any _ _ _ (by decide)

set_option maxHeartbeats 1000000 in
theorem param_any (s : ByteArray) (a : Int) (w : World) (hs : s.size ≤ 1000000) :
    Calls Try.prog 19 #[.string s, .int .i64 a] w fun e w' => e = .returned (.int .i64 (atV s a (paramN s))) ∧ w' = w := by
  by_cases h : 0 ≤ a ∧ a < s.size
  · obtain ⟨k, rfl⟩ := Int.eq_ofNat_of_zero_le h.1
    have hk : k < s.size := by omega
    have hk2 : (k : Int) < s.size := h.2
    have hv : atV s k (nameN s) = (nameN s k : Nat) := by unfold atV; rw [if_pos h]; rfl
    have hp : atV s k (paramN s) = (paramN s k : Nat) := by unfold atV; rw [if_pos h]; rfl
    rw [hp]
    have hd : decide ((k : Int) < 0) = false := by simp
    have hd2 : decide (s.size ≤ k) = false := by simp; omega
    obtain ⟨m, hm⟩ : ∃ m, nameN s k = m := ⟨_, rfl⟩
    rw [hm] at hv
    unfold paramN
    rw [hm]
    have HV := Lib.hid hv
    have HM := Lib.hid hm
    clear h hv hp hm
    by_cases h0 : 0 < m
    · rw [if_pos h0]
      have h0' : (0 : Int) < m := by omega
      go_enter Try.func19, Try.ntmps19
      go_wp2_with fail
      refine (name_any s k _ hs).mono ?_
      rintro e w' ⟨rfl, rfl⟩
      rw [HV.out]
      go_wp2
      go_ret
      exact ⟨rfl, rfl⟩
    · obtain rfl : m = 0 := by omega
      rw [if_neg h0]
      clear h0
      obtain ⟨x, hx⟩ : ∃ x, cl s k = x := ⟨_, rfl⟩
      obtain ⟨b, hb⟩ : ∃ b, specB (bt s k).toNat = b := ⟨_, rfl⟩
      rw [hx, hb]
      obtain ⟨r, hr⟩ : ∃ r, (if k < s.size ∧ (x = 6 ∨ b = true) then 1 else 0) = r := ⟨_, rfl⟩
      rw [hr]
      have HX := Lib.hid hx
      have HB := Lib.hid hb
      have HR := Lib.hid hr
      clear hx hb hr
      by_cases h6 : x = 6
      · subst h6
        go_enter Try.func19, Try.ntmps19
        go_wp2_with fail
        refine (name_any s k _ hs).mono ?_
        rintro e w' ⟨rfl, rfl⟩
        rw [HV.out]
        go_wp2_with fail
        refine (of_at s k hk 6 HX.out _).mono ?_
        rintro e w' ⟨rfl, rfl⟩
        go_wp2
        go_ret
        exact ⟨ret_int (by have := HR.out; rw [if_pos ⟨hk, by simp⟩] at this; omega), rfl⟩
      · have g6 : ((x : Int) == 6) = false := beq_eq_false_iff_ne.2 (by omega)
        cases b
        all_goals
          go_enter Try.func19, Try.ntmps19
          go_wp2_with fail
          refine (name_any s k _ hs).mono ?_
          rintro e w' ⟨rfl, rfl⟩
          rw [HV.out]
          go_wp2_with fail
          refine (of_at s k hk x HX.out _).mono ?_
          rintro e w' ⟨rfl, rfl⟩
          go_wp2_with fail
          refine (special_at s k hk _ HB.out _).mono ?_
          rintro e w' ⟨rfl, rfl⟩
          go_wp2
          go_ret
        · exact ⟨ret_int (by have := HR.out; rw [if_neg (fun h => by rcases h.2 with h | h; exact h6 h; cases h)] at this; omega), rfl⟩
        · exact ⟨ret_int (by have := HR.out; rw [if_pos ⟨hk, by simp⟩] at this; omega), rfl⟩
  · have hv : atV s a (nameN s) = 0 := by unfold atV; rw [if_neg h]
    have hp : atV s a (paramN s) = 0 := by unfold atV; rw [if_neg h]
    rw [hp]
    have HV := Lib.hid hv
    clear hv hp
    by_cases g : a < 0
    · have hd : decide (a < 0) = true := by simpa using g
      clear h
      go_enter Try.func19, Try.ntmps19
      go_wp2_with fail
      refine (name_any s a _ hs).mono ?_
      rintro e w' ⟨rfl, rfl⟩
      rw [HV.out]
      go_wp2
      go_ret
      exact ⟨rfl, rfl⟩
    · have h2 : (s.size : Int) ≤ a := by omega
      have hd : decide (a < 0) = false := by simpa using g
      have hd2 : decide ((s.size : Int) ≤ a) = true := by simpa using h2
      clear h
      go_enter Try.func19, Try.ntmps19
      go_wp2_with fail
      refine (name_any s a _ hs).mono ?_
      rintro e w' ⟨rfl, rfl⟩
      rw [HV.out]
      go_wp2
      go_ret
      exact ⟨rfl, rfl⟩

set_option maxHeartbeats 1000000 in
theorem refparam_any (s : ByteArray) (k : Nat) (w : World) (hs : s.size ≤ 1000000) (hk : k < s.size) :
    Calls Try.prog 22 #[.string s, .int .i64 k] w fun e w' => e = .returned (.int .i64 (paramN s k : Nat)) ∧ w' = w := by
  have hk2 : (k : Int) < s.size := by omega
  have hd2 : decide (k < s.size) = true := by simpa using hk
  have hn := fun w => refname_any s k w hs (by omega)
  obtain ⟨m, hm⟩ : ∃ m, nameN s k = m := ⟨_, rfl⟩
  rw [hm] at hn
  unfold paramN
  rw [hm]
  have HN := Lib.hid hn
  have HM := Lib.hid hm
  clear hn hm
  by_cases h0 : 0 < m
  · rw [if_pos h0]
    have g0 : ((m : Int) == 0) = false := beq_eq_false_iff_ne.2 (by omega)
    go_enter Try.func22, Try.ntmps22
    go_wp2_with fail
    refine (HN.out _).mono ?_
    rintro e w' ⟨rfl, rfl⟩
    go_wp2
    go_ret
    exact ⟨rfl, rfl⟩
  · obtain rfl : m = 0 := by omega
    rw [if_neg h0]
    clear h0
    obtain ⟨x, hx⟩ : ∃ x, cl s k = x := ⟨_, rfl⟩
    obtain ⟨b, hb⟩ : ∃ b, specB (bt s k).toNat = b := ⟨_, rfl⟩
    rw [hx, hb]
    obtain ⟨r, hr⟩ : ∃ r, (if k < s.size ∧ (x = 6 ∨ b = true) then 1 else 0) = r := ⟨_, rfl⟩
    rw [hr]
    have HX := Lib.hid hx
    have HB := Lib.hid hb
    have HR := Lib.hid hr
    clear hx hb hr
    by_cases h6 : x = 6
    · subst h6
      go_enter Try.func22, Try.ntmps22
      go_wp2_with fail
      refine (HN.out _).mono ?_
      rintro e w' ⟨rfl, rfl⟩
      go_wp2_with fail
      refine (class_at s k hk 6 HX.out _).mono ?_
      rintro e w' ⟨rfl, rfl⟩
      go_wp2
      go_ret
      exact ⟨ret_int (by have := HR.out; rw [if_pos ⟨hk, by simp⟩] at this; omega), rfl⟩
    · have g6 : ((x : Int) == 6) = false := beq_eq_false_iff_ne.2 (by omega)
      cases b
      all_goals
        go_enter Try.func22, Try.ntmps22
        go_wp2_with fail
        refine (HN.out _).mono ?_
        rintro e w' ⟨rfl, rfl⟩
        go_wp2_with fail
        refine (class_at s k hk x HX.out _).mono ?_
        rintro e w' ⟨rfl, rfl⟩
        go_wp2_with fail
        refine (in_at s k hk _ HB.out _).mono ?_
        rintro e w' ⟨rfl, rfl⟩
        go_wp2
        go_ret
      · exact ⟨ret_int (by have := HR.out; rw [if_neg (fun h => by rcases h.2 with h | h; exact h6 h; cases h)] at this; omega), rfl⟩
      · exact ⟨ret_int (by have := HR.out; rw [if_pos ⟨hk, by simp⟩] at this; omega), rfl⟩

theorem name_eg : atV ⟨#[120, 49, 61, 50]⟩ 0 (nameN ⟨#[120, 49, 61, 50]⟩) = 2 := by decide +kernel
theorem param_eg : atV ⟨#[63, 97]⟩ 0 (paramN ⟨#[63, 97]⟩) = 1 := by decide +kernel
theorem awake_any (w : World) : Calls Try.prog 9 #[] w fun e w' => e = .returned (.bool true) ∧ w' = w := by
  have H1 := Lib.hid name_eg
  have H2 := Lib.hid param_eg
  go_enter Try.func9, Try.ntmps9
  go_wp2_with fail
  refine (name_any _ 0 _ (by decide)).mono ?_
  rintro e w' ⟨rfl, rfl⟩
  rw [H1.out]
  go_wp2_with fail
  refine (param_any _ 0 _ (by decide)).mono ?_
  rintro e w' ⟨rfl, rfl⟩
  rw [H2.out]
  go_wp2
  go_ret
  exact ⟨rfl, rfl⟩
end Go.Proofs.Ytnpkmbppfeahkaa

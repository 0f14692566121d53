/- What Name and Param of layer 4 (class) and the document's own IsName, Name and Param return. Condition: texts of at most a million bytes. -/
import Derived.WalkMore
import Derived.Test.YtgfkbfojeohlkaaGreatDoorQb
import Derived.Test.YtgfkbfojeohlkaaGreatDoorQa
namespace Go.Proofs.YtgfkbfojeohlkaaGreatDoor
open Go.RowKit
set_option linter.unusedVariables false

set_option maxHeartbeats 1000000 in
theorem special_any (c : Nat) (hc : c < 256) (w : World) :
    Calls Tryz.prog 200 #[.int .u8 c] w fun e w' => e = .returned (.bool (specB c)) ∧ w' = w := by
  have H1 := Lib.hid (inB_spec c)
  go_enter Tryz.func200, Tryz.ntmps200
  go_wp2_with (go_at_call 134; refine (index_inB _ _ hc _).mono ?_; rintro e w' ⟨⟨x, rfl, hx⟩, rfl⟩; have HX := Lib.hid hx; clear hx)
  go_ret
  exact ⟨ret_bool (by rw [HX.out, H1.out]), rfl⟩

theorem may_any (c i : Nat) (w : World) :
    Calls Tryz.prog 204 #[.int .i64 c, .int .i64 i] w fun e w' => e = .returned (.bool (mayN c i)) ∧ w' = w := by
  by_cases h5 : c = 5
  · subst h5
    go_enter Tryz.func204, Tryz.ntmps204
    go_wp2
    go_ret
    exact ⟨ret_bool (by simp [mayN]), rfl⟩
  · by_cases h6 : c = 6
    · subst h6
      by_cases h0 : i = 0
      · subst h0
        go_enter Tryz.func204, Tryz.ntmps204
        go_wp2
        go_ret
        exact ⟨ret_bool (by simp [mayN]), rfl⟩
      · have h1 : decide (0 < i) = true := by simp; omega
        have h2 : decide ((0 : Int) < i) = true := by simp; omega
        go_enter Tryz.func204, Tryz.ntmps204
        go_wp2
        go_ret
        exact ⟨ret_bool (by unfold mayN; symm; rw [decide_eq_true_iff]; omega), rfl⟩
    · have h1 : ((c : Int) == 5) = false := by simp; omega
      have h2 : ((c : Int) == 6) = false := by simp; omega
      go_enter Tryz.func204, Tryz.ntmps204
      go_wp2
      go_ret
      refine ⟨ret_bool ?_, rfl⟩
      unfold mayN
      symm
      rw [decide_eq_false_iff_not]
      omega
theorem may_eq (c i : Nat) (b : Bool) (h : mayN c i = b) (w : World) :
    Calls Tryz.prog 204 #[.int .i64 c, .int .i64 i] w fun e w' => e = .returned (.bool b) ∧ w' = w := by
  rw [← h]; exact may_any c i w

def MeRel (q : Nat → Bool) (z : Nat) (w : World) (v : Value) (wr : World) : Prop := ∃ k : Nat, k ≤ z ∧ v = .int .i64 k ∧ (∀ i, i < k → q i = true) ∧ wr = w

set_option maxRecDepth 100000 in
set_option maxHeartbeats 1000000 in
theorem measure_out (s : ByteArray) (a : Int) (fv : Value) (w : World) (hs : s.size ≤ 1000000) (h : a < 0 ∨ (s.size : Int) ≤ a) :
    Calls Tryz.prog 176 #[.string s, .int .i64 a, fv] w fun e w' => e = .returned (.int .i64 0) ∧ w' = w := by
  by_cases g : a < 0
  · have hd : decide (a < 0) = true := by simpa using g
    clear h
    go_enter Tryz.func176, Tryz.ntmps176
    go_wp2
    go_step3
    go_wp2
    rw [Exit.noGoto_ret]
    go_ret
    exact ⟨rfl, rfl⟩
  · have h2 : (s.size : Int) ≤ a := by omega
    have hd : decide (a < 0) = false := by simpa using g
    have hd2 : decide ((s.size : Int) ≤ a) = true := by simpa using h2
    clear h
    go_enter Tryz.func176, Tryz.ntmps176
    go_wp2
    go_step3
    go_wp2
    rw [Exit.noGoto_ret]
    go_ret
    exact ⟨rfl, rfl⟩

set_option maxRecDepth 100000 in
set_option maxHeartbeats 2000000 in
theorem measureN_any (s : ByteArray) (a : Nat) (w : World) (hs : s.size ≤ 1000000) (h : a < s.size) :
    Calls Tryz.prog 176 #[.string s, .int .i64 a, .func (.func 204) #[] #[]] w fun e w' => e = .returned (.int .i64 (nameN s a : Nat)) ∧ w' = w := by
  have hi : (a : Int) < s.size := by omega
  have hi2 : (a : Int) ≤ s.size := by omega
  have hd : decide ((a : Int) < 0) = false := by simp
  have hd2 : decide (s.size ≤ a) = false := by simp; omega
  go_enter Tryz.func176, Tryz.ntmps176
  go_wp2
  go_step3
  go_wp2
  go_step3
  go_wp2
  go_loopw [8] (fun v wr => MeRel (fun i => mayN (cl s (a + i)) i) (s.size - a) w v wr) (fun v _ => s.size - a - (intOf v).toNat)
  case atStart => exact ⟨0, Nat.zero_le _, rfl, fun i h => by omega, rfl⟩
  case round =>
    obtain ⟨k, hk, rfl, hq, rfl⟩ := hrel
    have HQ := Lib.hid hq
    clear hq
    by_cases hlt : a + k < s.size
    · have hx : (k : Int) < (s.size : Int) - a := by omega
      have hx1 : k < s.size - a := by omega
      have hx2 : (k : Int) < (s.extract a s.size).size := by simp; omega
      have hx3 : k < (s.extract a s.size).size := by simp; omega
      have e1 : (bt (s.extract a s.size) k) = bt s (a + k) := bt_extract s a s.size k (Nat.le_refl _) (by omega)
      rw [bt_eq hx3] at e1
      have e2 : cls (s.extract a s.size)[k].toNat = cl s (a + k) := by rw [e1]; rfl
      have E2 := Lib.hid e2
      clear e1 e2
      obtain ⟨y, hy⟩ : ∃ y, (mayN (cl s (a + k)) k) = y := ⟨_, rfl⟩
      have HY := Lib.hid hy
      clear hy
      cases y
      all_goals
        go_wp2_with fail
        refine (of_any _ _).mono ?_
        rintro e w' ⟨rfl, rfl⟩
        rw [E2.out]
        go_wp2_with fail
        refine (may_eq _ _ _ HY.out _).mono ?_
        rintro e w' ⟨rfl, rfl⟩
        go_wp2
      · rw [Exit.noGoto_ret]
        go_ret
        refine ⟨ret_int ?_, rfl⟩
        rw [show nameN s a = k from lead_eq _ hk HQ.out (fun _ => HY.out)]
      · go_roundw
        case rel =>
          refine ⟨k + 1, by omega, by go_num, fun i hi => ?_, rfl⟩
          by_cases g : i = k
          · rw [g]; exact HY.out
          · exact HQ.out i (by omega)
        case measure => simp [intOf]; omega
    · have hz : k = s.size - a := by omega
      have HZ := Lib.hid hz
      clear hz
      go_wp2
      go_ret
      refine ⟨ret_int ?_, rfl⟩
      rw [show nameN s a = k from lead_eq _ hk HQ.out (fun g => absurd HZ.out (Nat.ne_of_lt g))]

def atV (s : ByteArray) (a : Int) (f : Nat → Nat) : Int := if 0 ≤ a ∧ a < s.size then (f a.toNat : Nat) else 0

theorem name_any (s : ByteArray) (a : Int) (w : World) (hs : s.size ≤ 1000000) :
    Calls Tryz.prog 199 #[.string s, .int .i64 a] w fun e w' => e = .returned (.int .i64 (atV s a (nameN s))) ∧ w' = w := by
  unfold atV
  by_cases h : 0 ≤ a ∧ a < s.size
  · rw [if_pos h]
    obtain ⟨k, rfl⟩ := Int.eq_ofNat_of_zero_le h.1
    have hk : k < s.size := by omega
    clear h
    go_enter Tryz.func199, Tryz.ntmps199
    go_wp2_with fail
    refine (measureN_any s k _ hs hk).mono ?_
    rintro e w' ⟨rfl, rfl⟩
    go_wp2
    go_ret
    exact ⟨rfl, rfl⟩
  · rw [if_neg h]
    have h' : a < 0 ∨ (s.size : Int) ≤ a := by omega
    have H := Lib.hid h'
    clear h h'
    go_enter Tryz.func199, Tryz.ntmps199
    go_wp2_with fail
    refine (measure_out s a _ _ hs H.out).mono ?_
    rintro e w' ⟨rfl, rfl⟩
    go_wp2
    go_ret
    exact ⟨rfl, rfl⟩

theorem cl_at {s : ByteArray} {k : Nat} (h : k < s.size) : cls s[k].toNat = cl s k := by unfold cl; rw [bt_eq h]
theorem u8_lt (s : ByteArray) (k : Nat) (h : k < s.size) : s[k].toNat < 256 := s[k].toNat_lt
theorem of_at (s : ByteArray) (k : Nat) (h : k < s.size) (c : Nat) (e : cl s k = c) (w : World) :
    Calls Tryz.prog 181 #[.int .u8 s[k].toNat] w fun e w' => e = .returned (.int .i64 c) ∧ w' = w := by
  rw [← e, ← cl_at h]; exact of_any _ _
theorem class_at (s : ByteArray) (k : Nat) (h : k < s.size) (c : Nat) (e : cl s k = c) (w : World) :
    Calls Tryz.prog 55 #[.int .u8 s[k].toNat] w fun e w' => e = .returned (.int .i64 c) ∧ w' = w := by
  rw [← e, ← cl_at h]; exact class_any _ _

def NmRel (s : ByteArray) (w : World) (v : Value) (wr : World) : Prop := ∃ k : Nat, 1 ≤ k ∧ k ≤ s.size ∧ v = .int .i64 k ∧ (∀ i, i < k → mayN (cl s i) i = true) ∧ wr = w
set_option maxHeartbeats 2000000 in
theorem refisname_any (s : ByteArray) (w : World) (hs : s.size ≤ 1000000) :
    Calls Tryz.prog 28 #[.string s] w fun e w' => e = .returned (.bool (isNm s)) ∧ w' = w := by
  by_cases h0 : s.size = 0
  · have hz : ((s.size : Int) == 0) = true := beq_iff_eq.2 (by omega)
    have hz2 : (s.size == 0) = true := beq_iff_eq.2 h0
    have H0 := Lib.hid h0
    clear h0
    go_enter Tryz.func28, Tryz.ntmps28
    go_wp2
    go_ret
    exact ⟨ret_bool (by unfold isNm; symm; rw [decide_eq_false_iff_not]; exact fun h => h.1 H0.out), rfl⟩
  · have hp : 0 < s.size := by omega
    have hp2 : (0 : Int) < s.size := by omega
    have hz : ((s.size : Int) == 0) = false := beq_eq_false_iff_ne.2 (by omega)
    have hz2 : (s.size == 0) = false := beq_eq_false_iff_ne.2 h0
    obtain ⟨c, hc⟩ : ∃ c, cl s 0 = c := ⟨_, rfl⟩
    have HC := Lib.hid hc
    by_cases h5 : c = 5
    · subst h5
      clear hc h0
      go_enter Tryz.func28, Tryz.ntmps28
      go_wp2_with fail
      refine (class_at s 0 hp 5 HC.out _).mono ?_
      rintro e w' ⟨rfl, rfl⟩
      go_wp2
      go_loopw [3] (fun v wr => NmRel s w' v wr) (fun v _ => s.size - (intOf v).toNat)
      case atStart => exact ⟨1, Nat.le_refl _, hp, rfl, fun i h => by obtain rfl : i = 0 := by omega
                                                                      rw [HC.out]; rfl, rfl⟩
      case round =>
        obtain ⟨k, hk1, hk, rfl, hn, rfl⟩ := hrel
        have HN := Lib.hid hn
        clear hn
        by_cases hlt : (k : Int) < s.size
        · have hlt' : k < s.size := by omega
          obtain ⟨d, hd⟩ : ∃ d, cl s k = d := ⟨_, rfl⟩
          have HD := Lib.hid hd
          clear hd
          by_cases g : d = 5 ∨ d = 6
          · rcases g with rfl | rfl
            · go_wp2_with fail
              refine (class_at s k hlt' 5 HD.out _).mono ?_
              rintro e w2 ⟨rfl, rfl⟩
              go_wp2
              go_roundw
              case rel =>
                refine ⟨k + 1, by omega, by omega, by go_num, fun i hi => ?_, rfl⟩
                by_cases g : i = k
                · rw [g, HD.out]; rfl
                · exact HN.out i (by omega)
              case measure => simp [intOf]; omega
            · go_wp2_with fail
              refine (class_at s k hlt' 6 HD.out _).mono ?_
              rintro e w2 ⟨rfl, rfl⟩
              go_wp2_with fail
              refine (class_at s k hlt' 6 HD.out _).mono ?_
              rintro e w2 ⟨rfl, rfl⟩
              go_wp2
              go_roundw
              case rel =>
                refine ⟨k + 1, by omega, by omega, by go_num, fun i hi => ?_, rfl⟩
                by_cases g : i = k
                · rw [g, HD.out]; unfold mayN; rw [decide_eq_true_iff]; omega
                · exact HN.out i (by omega)
              case measure => simp [intOf]; omega
          · have g5 : ((d : Int) == 5) = false := by simp; omega
            have g6 : ((d : Int) == 6) = false := by simp; omega
            have n5 : ((d : Int) != 5) = true := by simp; omega
            have n6 : ((d : Int) != 6) = true := by simp; omega
            go_wp2_with fail
            refine (class_at s k hlt' d HD.out _).mono ?_
            rintro e w2 ⟨rfl, rfl⟩
            go_wp2_with fail
            refine (class_at s k hlt' d HD.out _).mono ?_
            rintro e w2 ⟨rfl, rfl⟩
            go_wp2
            go_ret
            refine ⟨ret_bool ?_, rfl⟩
            unfold isNm
            symm
            rw [decide_eq_false_iff_not]
            rintro ⟨_, h2⟩
            have := h2 k hlt'
            rw [HD.out] at this
            unfold mayN at this
            rw [decide_eq_true_iff] at this
            omega
        · obtain rfl : k = s.size := by omega
          go_wp2
          go_ret
          refine ⟨ret_bool ?_, rfl⟩
          unfold isNm
          symm
          rw [decide_eq_true_iff]
          exact ⟨by omega, HN.out⟩
    · have g5 : ((c : Int) == 5) = false := by simp; omega
      have n5 : ((c : Int) != 5) = true := by simp; omega
      clear hc h0
      go_enter Tryz.func28, Tryz.ntmps28
      go_wp2_with fail
      refine (class_at s 0 hp c HC.out _).mono ?_
      rintro e w' ⟨rfl, rfl⟩
      go_wp2
      go_ret
      refine ⟨ret_bool ?_, rfl⟩
      unfold isNm
      symm
      rw [decide_eq_false_iff_not]
      rintro ⟨_, h2⟩
      have := h2 0 hp
      rw [HC.out] at this
      unfold mayN at this
      rw [decide_eq_true_iff] at this
      omega

theorem refisname_eq (s : ByteArray) (w : World) (hs : s.size ≤ 1000000) (b : Bool) (h : isNm s = b) :
    Calls Tryz.prog 28 #[.string s] w fun e w' => e = .returned (.bool b) ∧ w' = w := by
  rw [← h]; exact refisname_any s w hs

def RpRel (f : Nat → Nat) (z : Nat) (w : World) (v5 v6 : Value) (wr : World) : Prop := ∃ k m : Nat, 1 ≤ k ∧ k ≤ z + 1 ∧ v6 = .int .i64 k ∧ v5 = .int .i64 m ∧ m = f (k - 1) ∧ wr = w
set_option maxHeartbeats 1000000 in
theorem refname_any (s : ByteArray) (a : Nat) (w : World) (hs : s.size ≤ 1000000) (ha : a ≤ s.size) :
    Calls Tryz.prog 149 #[.string s, .int .i64 a] w fun e w' => e = .returned (.int .i64 (nameN s a : Nat)) ∧ w' = w := by
  have ha2 : (a : Int) ≤ s.size := by omega
  go_enter Tryz.func149, Tryz.ntmps149
  go_wp2
  go_loopw [5, 6] (fun v5 v6 wr => RpRel (nameT s a) (s.size - a) w v5 v6 wr) (fun _ v6 _ => s.size + 1 - a - (intOf v6).toNat)
  case atStart => exact ⟨1, 0, by omega, by omega, rfl, rfl, rfl, rfl⟩
  case round =>
    obtain ⟨k, m, hk1, hk, rfl, rfl, hm, rfl⟩ := hrel
    have hm2 : m ≤ k := by have := nameT_le s a (k - 1); omega
    have HM := Lib.hid hm
    clear hm
    by_cases hlt : a + k ≤ s.size
    · have h1 : (k : Int) ≤ (s.size : Int) - a := by omega
      have h2 : (a : Int) + k ≤ s.size := by omega
      have hz : (s.extract a (a + k)).size ≤ 1000000 := by simp; omega
      obtain ⟨b, hb⟩ : ∃ b, isNm (s.extract a (a + k)) = b := ⟨_, rfl⟩
      have HB := Lib.hid hb
      clear hb
      cases b
      all_goals
        go_wp2_with fail
        refine (refisname_eq _ _ hz _ HB.out).mono ?_
        rintro e w2 ⟨rfl, rfl⟩
        go_wp2
        go_roundw
        case measure => simp [intOf]; omega
      · refine ⟨k + 1, m, by omega, by omega, by go_num, rfl, ?_, rfl⟩
        obtain ⟨j, rfl⟩ : ∃ j, k = j + 1 := ⟨k - 1, by omega⟩
        rw [HM.out]
        exact (nameT_no (by omega) HB.out).symm
      · refine ⟨k + 1, k, by omega, by omega, by go_num, rfl, ?_, rfl⟩
        obtain ⟨j, rfl⟩ : ∃ j, k = j + 1 := ⟨k - 1, by omega⟩
        exact (nameT_yes (by omega) HB.out).symm
    · have h1 : ¬ (k : Int) ≤ (s.size : Int) - a := by omega
      have hz : k = s.size - a + 1 := by omega
      have HZ := Lib.hid hz
      clear hz
      go_wp2
      go_ret
      exact ⟨ret_int (by rw [HM.out, HZ.out]; rfl), rfl⟩

theorem special_at (s : ByteArray) (k : Nat) (h : k < s.size) (b : Bool) (e : specB (bt s k).toNat = b) (w : World) :
    Calls Tryz.prog 200 #[.int .u8 s[k].toNat] w fun e w' => e = .returned (.bool b) ∧ w' = w := by
  rw [← e, bt_eq h]; exact special_any _ (u8_lt s k h) _
theorem in_at (s : ByteArray) (k : Nat) (h : k < s.size) (b : Bool) (e : specB (bt s k).toNat = b) (w : World) :
    Calls Tryz.prog 76 #[.int .u8 s[k].toNat, .string ⟨#[64, 42, 35, 63, 45, 36, 33]⟩] w fun e w' => e = .returned (.bool b) ∧ w' = w := by
  rw [← e, bt_eq h, ← inB_spec]; exact in_any _ _ _ (by decide)

set_option maxHeartbeats 1000000 in
theorem param_any (s : ByteArray) (a : Int) (w : World) (hs : s.size ≤ 1000000) :
    Calls Tryz.prog 190 #[.string s, .int .i64 a] w fun e w' => e = .returned (.int .i64 (atV s a (paramN s))) ∧ w' = w := by
  by_cases h : 0 ≤ a ∧ a < s.size
  · obtain ⟨k, rfl⟩ := Int.eq_ofNat_of_zero_le h.1
    have hk : k < s.size := by omega
    have hk2 : (k : Int) < s.size := h.2
    have hv : atV s k (nameN s) = (nameN s k : Nat) := by unfold atV; rw [if_pos h]; rfl
    have hp : atV s k (paramN s) = (paramN s k : Nat) := by unfold atV; rw [if_pos h]; rfl
    rw [hp]
    have hd : decide ((k : Int) < 0) = false := by simp
    have hd2 : decide (s.size ≤ k) = false := by simp; omega
    obtain ⟨m, hm⟩ : ∃ m, nameN s k = m := ⟨_, rfl⟩
    rw [hm] at hv
    unfold paramN
    rw [hm]
    have HV := Lib.hid hv
    have HM := Lib.hid hm
    clear h hv hp hm
    by_cases h0 : 0 < m
    · rw [if_pos h0]
      have h0' : (0 : Int) < m := by omega
      go_enter Tryz.func190, Tryz.ntmps190
      go_wp2_with fail
      refine (name_any s k _ hs).mono ?_
      rintro e w' ⟨rfl, rfl⟩
      rw [HV.out]
      go_wp2
      go_ret
      exact ⟨rfl, rfl⟩
    · obtain rfl : m = 0 := by omega
      rw [if_neg h0]
      clear h0
      obtain ⟨x, hx⟩ : ∃ x, cl s k = x := ⟨_, rfl⟩
      obtain ⟨b, hb⟩ : ∃ b, specB (bt s k).toNat = b := ⟨_, rfl⟩
      rw [hx, hb]
      obtain ⟨r, hr⟩ : ∃ r, (if k < s.size ∧ (x = 6 ∨ b = true) then 1 else 0) = r := ⟨_, rfl⟩
      rw [hr]
      have HX := Lib.hid hx
      have HB := Lib.hid hb
      have HR := Lib.hid hr
      clear hx hb hr
      by_cases h6 : x = 6
      · subst h6
        go_enter Tryz.func190, Tryz.ntmps190
        go_wp2_with fail
        refine (name_any s k _ hs).mono ?_
        rintro e w' ⟨rfl, rfl⟩
        rw [HV.out]
        go_wp2_with fail
        refine (of_at s k hk 6 HX.out _).mono ?_
        rintro e w' ⟨rfl, rfl⟩
        go_wp2
        go_ret
        exact ⟨ret_int (by have := HR.out; rw [if_pos ⟨hk, by simp⟩] at this; omega), rfl⟩
      · have g6 : ((x : Int) == 6) = false := beq_eq_false_iff_ne.2 (by omega)
        cases b
        all_goals
          go_enter Tryz.func190, Tryz.ntmps190
          go_wp2_with fail
          refine (name_any s k _ hs).mono ?_
          rintro e w' ⟨rfl, rfl⟩
          rw [HV.out]
          go_wp2_with fail
          refine (of_at s k hk x HX.out _).mono ?_
          rintro e w' ⟨rfl, rfl⟩
          go_wp2_with fail
          refine (special_at s k hk _ HB.out _).mono ?_
          rintro e w' ⟨rfl, rfl⟩
          go_wp2
          go_ret
        · exact ⟨ret_int (by have := HR.out; rw [if_neg (fun h => by rcases h.2 with h | h; exact h6 h; cases h)] at this; omega), rfl⟩
        · exact ⟨ret_int (by have := HR.out; rw [if_pos ⟨hk, by simp⟩] at this; omega), rfl⟩
  · have hv : atV s a (nameN s) = 0 := by unfold atV; rw [if_neg h]
    have hp : atV s a (paramN s) = 0 := by unfold atV; rw [if_neg h]
    rw [hp]
    have HV := Lib.hid hv
    clear hv hp
    by_cases g : a < 0
    · have hd : decide (a < 0) = true := by simpa using g
      clear h
      go_enter Tryz.func190, Tryz.ntmps190
      go_wp2_with fail
      refine (name_any s a _ hs).mono ?_
      rintro e w' ⟨rfl, rfl⟩
      rw [HV.out]
      go_wp2
      go_ret
      exact ⟨rfl, rfl⟩
    · have h2 : (s.size : Int) ≤ a := by omega
      have hd : decide (a < 0) = false := by simpa using g
      have hd2 : decide ((s.size : Int) ≤ a) = true := by simpa using h2
      clear h
      go_enter Tryz.func190, Tryz.ntmps190
      go_wp2_with fail
      refine (name_any s a _ hs).mono ?_
      rintro e w' ⟨rfl, rfl⟩
      rw [HV.out]
      go_wp2
      go_ret
      exact ⟨rfl, rfl⟩

set_option maxHeartbeats 1000000 in
theorem refparam_any (s : ByteArray) (k : Nat) (w : World) (hs : s.size ≤ 1000000) (hk : k < s.size) :
    Calls Tryz.prog 131 #[.string s, .int .i64 k] w fun e w' => e = .returned (.int .i64 (paramN s k : Nat)) ∧ w' = w := by
  have hk2 : (k : Int) < s.size := by omega
  have hd2 : decide (k < s.size) = true := by simpa using hk
  have hn := fun w => refname_any s k w hs (by omega)
  obtain ⟨m, hm⟩ : ∃ m, nameN s k = m := ⟨_, rfl⟩
  rw [hm] at hn
  unfold paramN
  rw [hm]
  have HN := Lib.hid hn
  have HM := Lib.hid hm
  clear hn hm
  by_cases h0 : 0 < m
  · rw [if_pos h0]
    have g0 : ((m : Int) == 0) = false := beq_eq_false_iff_ne.2 (by omega)
    go_enter Tryz.func131, Tryz.ntmps131
    go_wp2_with fail
    refine (HN.out _).mono ?_
    rintro e w' ⟨rfl, rfl⟩
    go_wp2
    go_ret
    exact ⟨rfl, rfl⟩
  · obtain rfl : m = 0 := by omega
    rw [if_neg h0]
    clear h0
    obtain ⟨x, hx⟩ : ∃ x, cl s k = x := ⟨_, rfl⟩
    obtain ⟨b, hb⟩ : ∃ b, specB (bt s k).toNat = b := ⟨_, rfl⟩
    rw [hx, hb]
    obtain ⟨r, hr⟩ : ∃ r, (if k < s.size ∧ (x = 6 ∨ b = true) then 1 else 0) = r := ⟨_, rfl⟩
    rw [hr]
    have HX := Lib.hid hx
    have HB := Lib.hid hb
    have HR := Lib.hid hr
    clear hx hb hr
    by_cases h6 : x = 6
    · subst h6
      go_enter Tryz.func131, Tryz.ntmps131
      go_wp2_with fail
      refine (HN.out _).mono ?_
      rintro e w' ⟨rfl, rfl⟩
      go_wp2_with fail
      refine (class_at s k hk 6 HX.out _).mono ?_
      rintro e w' ⟨rfl, rfl⟩
      go_wp2
      go_ret
      exact ⟨ret_int (by have := HR.out; rw [if_pos ⟨hk, by simp⟩] at this; omega), rfl⟩
    · have g6 : ((x : Int) == 6) = false := beq_eq_false_iff_ne.2 (by omega)
      cases b
      all_goals
        go_enter Tryz.func131, Tryz.ntmps131
        go_wp2_with fail
        refine (HN.out _).mono ?_
        rintro e w' ⟨rfl, rfl⟩
        go_wp2_with fail
        refine (class_at s k hk x HX.out _).mono ?_
        rintro e w' ⟨rfl, rfl⟩
        go_wp2_with fail
        refine (in_at s k hk _ HB.out _).mono ?_
        rintro e w' ⟨rfl, rfl⟩
        go_wp2
        go_ret
      · exact ⟨ret_int (by have := HR.out; rw [if_neg (fun h => by rcases h.2 with h | h; exact h6 h; cases h)] at this; omega), rfl⟩
      · exact ⟨ret_int (by have := HR.out; rw [if_pos ⟨hk, by simp⟩] at this; omega), rfl⟩
end Go.Proofs.YtgfkbfojeohlkaaGreatDoor

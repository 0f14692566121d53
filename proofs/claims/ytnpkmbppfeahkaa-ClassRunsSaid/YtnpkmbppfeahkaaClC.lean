/- What measure, row, Name, Digits and Blanks of layer 4 (class) return: how many bytes stand at a place. Condition: texts of at most a million bytes. -/
import Derived.WalkMore
import Derived.Test.YtnpkmbppfeahkaaClB
import Derived.Test.YtnpkmbppfeahkaaMem
namespace Go.Proofs.Ytnpkmbppfeahkaa
open Go.RowKit
set_option linter.unusedVariables false

theorem may_any (c i : Nat) (w : World) :
    Calls Try.prog 34 #[.int .i64 c, .int .i64 i] w fun e w' => e = .returned (.bool (mayN c i)) ∧ w' = w := by
  by_cases h5 : c = 5
  · subst h5
    go_enter Try.func34, Try.ntmps34
    go_wp2
    go_ret
    exact ⟨ret_bool (by simp [mayN]), rfl⟩
  · by_cases h6 : c = 6
    · subst h6
      by_cases h0 : i = 0
      · subst h0
        go_enter Try.func34, Try.ntmps34
        go_wp2
        go_ret
        exact ⟨ret_bool (by simp [mayN]), rfl⟩
      · have h1 : decide (0 < i) = true := by simp; omega
        have h2 : decide ((0 : Int) < i) = true := by simp; omega
        go_enter Try.func34, Try.ntmps34
        go_wp2
        go_ret
        exact ⟨ret_bool (by unfold mayN; symm; rw [decide_eq_true_iff]; omega), rfl⟩
    · have h1 : ((c : Int) == 5) = false := by simp; omega
      have h2 : ((c : Int) == 6) = false := by simp; omega
      go_enter Try.func34, Try.ntmps34
      go_wp2
      go_ret
      refine ⟨ret_bool ?_, rfl⟩
      unfold mayN
      symm
      rw [decide_eq_false_iff_not]
      omega
theorem may_eq (c i : Nat) (b : Bool) (h : mayN c i = b) (w : World) :
    Calls Try.prog 34 #[.int .i64 c, .int .i64 i] w fun e w' => e = .returned (.bool b) ∧ w' = w := by
  rw [← h]; exact may_any c i w
theorem is_any (c i d b : Nat) (w : World) (hc : w.cell? ⟨b, 0, none⟩ = some (.int .i64 d)) :
    Calls Try.prog 41 #[.int .i64 c, .int .i64 i, .pointer (some ⟨b, 0, none⟩)] w fun e w' => e = .returned (.bool (decide (c = d))) ∧ w' = w := by
  go_enter Try.func41, Try.ntmps41
  go_wp2
  go_ret
  exact ⟨ret_bool (by rw [Bool.eq_iff_iff, decide_eq_true_iff, beq_iff_eq]; omega), rfl⟩

theorem is_eq (c i d b : Nat) (w : World) (hc : w.cell? ⟨b, 0, none⟩ = some (.int .i64 d)) (x : Bool) (h : decide (c = d) = x) :
    Calls Try.prog 41 #[.int .i64 c, .int .i64 i, .pointer (some ⟨b, 0, none⟩)] w fun e w' => e = .returned (.bool x) ∧ w' = w := by
  rw [← h]; exact is_any c i d b w hc

def MeRel (q : Nat → Bool) (z : Nat) (w : World) (v : Value) (wr : World) : Prop := ∃ k : Nat, k ≤ z ∧ v = .int .i64 k ∧ (∀ i, i < k → q i = true) ∧ wr = w

set_option maxRecDepth 100000 in
set_option maxHeartbeats 1000000 in
theorem measure_out (s : ByteArray) (a : Int) (fv : Value) (w : World) (hs : s.size ≤ 1000000) (h : a < 0 ∨ (s.size : Int) ≤ a) :
    Calls Try.prog 33 #[.string s, .int .i64 a, fv] w fun e w' => e = .returned (.int .i64 0) ∧ w' = w := by
  by_cases g : a < 0
  · have hd : decide (a < 0) = true := by simpa using g
    clear h
    go_enter Try.func33, Try.ntmps33
    go_wp2
    go_step3
    go_wp2
    rw [Exit.noGoto_ret]
    go_ret
    exact ⟨rfl, rfl⟩
  · have h2 : (s.size : Int) ≤ a := by omega
    have hd : decide (a < 0) = false := by simpa using g
    have hd2 : decide ((s.size : Int) ≤ a) = true := by simpa using h2
    clear h
    go_enter Try.func33, Try.ntmps33
    go_wp2
    go_step3
    go_wp2
    rw [Exit.noGoto_ret]
    go_ret
    exact ⟨rfl, rfl⟩

set_option maxRecDepth 100000 in
set_option maxHeartbeats 2000000 in
theorem measureN_any (s : ByteArray) (a : Nat) (w : World) (hs : s.size ≤ 1000000) (h : a < s.size) :
    Calls Try.prog 33 #[.string s, .int .i64 a, .func (.func 34) #[] #[]] w fun e w' => e = .returned (.int .i64 (nameN s a : Nat)) ∧ w' = w := by
  have hi : (a : Int) < s.size := by omega
  have hi2 : (a : Int) ≤ s.size := by omega
  have hd : decide ((a : Int) < 0) = false := by simp
  have hd2 : decide (s.size ≤ a) = false := by simp; omega
  go_enter Try.func33, Try.ntmps33
  go_wp2
  go_step3
  go_wp2
  go_step3
  go_wp2
  go_loopw [8] (fun v wr => MeRel (fun i => mayN (cl s (a + i)) i) (s.size - a) w v wr) (fun v _ => s.size - a - (intOf v).toNat)
  case atStart => exact ⟨0, Nat.zero_le _, rfl, fun i h => by omega, rfl⟩
  case round =>
    obtain ⟨k, hk, rfl, hq, rfl⟩ := hrel
    have HQ := Lib.hid hq
    clear hq
    by_cases hlt : a + k < s.size
    · have hx : (k : Int) < (s.size : Int) - a := by omega
      have hx1 : k < s.size - a := by omega
      have hx2 : (k : Int) < (s.extract a s.size).size := by simp; omega
      have hx3 : k < (s.extract a s.size).size := by simp; omega
      have e1 : (bt (s.extract a s.size) k) = bt s (a + k) := bt_extract s a s.size k (Nat.le_refl _) (by omega)
      rw [bt_eq hx3] at e1
      have e2 : cls (s.extract a s.size)[k].toNat = cl s (a + k) := by rw [e1]; rfl
      have E2 := Lib.hid e2
      clear e1 e2
      obtain ⟨y, hy⟩ : ∃ y, (mayN (cl s (a + k)) k) = y := ⟨_, rfl⟩
      have HY := Lib.hid hy
      clear hy
      cases y
      all_goals
        go_wp2_with fail
        refine (of_any _ _).mono ?_
        rintro e w' ⟨rfl, rfl⟩
        rw [E2.out]
        go_wp2_with fail
        refine (may_eq _ _ _ HY.out _).mono ?_
        rintro e w' ⟨rfl, rfl⟩
        go_wp2
      · rw [Exit.noGoto_ret]
        go_ret
        refine ⟨ret_int ?_, rfl⟩
        rw [show nameN s a = k from lead_eq _ hk HQ.out (fun _ => HY.out)]
      · go_roundw
        case rel =>
          refine ⟨k + 1, by omega, by go_num, fun i hi => ?_, rfl⟩
          by_cases g : i = k
          · rw [g]; exact HY.out
          · exact HQ.out i (by omega)
        case measure => simp [intOf]; omega
    · have hz : k = s.size - a := by omega
      have HZ := Lib.hid hz
      clear hz
      go_wp2
      go_ret
      refine ⟨ret_int ?_, rfl⟩
      rw [show nameN s a = k from lead_eq _ hk HQ.out (fun g => absurd HZ.out (Nat.ne_of_lt g))]
set_option maxRecDepth 100000 in
set_option maxHeartbeats 2000000 in
theorem measureR_any (s : ByteArray) (a : Nat) (w : World) (hs : s.size ≤ 1000000) (h : a < s.size) (d b : Nat) (hc : w.cell? ⟨b, 0, none⟩ = some (.int .i64 d)) :
    Calls Try.prog 33 #[.string s, .int .i64 a, .func (.func 41) #[] #[.pointer (some ⟨b, 0, none⟩)]] w fun e w' => e = .returned (.int .i64 (rowN s a d : Nat)) ∧ w' = w := by
  have hi : (a : Int) < s.size := by omega
  have hi2 : (a : Int) ≤ s.size := by omega
  have hd : decide ((a : Int) < 0) = false := by simp
  have hd2 : decide (s.size ≤ a) = false := by simp; omega
  go_enter Try.func33, Try.ntmps33
  go_wp2
  go_step3
  go_wp2
  go_step3
  go_wp2
  go_loopw [8] (fun v wr => MeRel (fun i => decide (cl s (a + i) = d)) (s.size - a) w v wr) (fun v _ => s.size - a - (intOf v).toNat)
  case atStart => exact ⟨0, Nat.zero_le _, rfl, fun i h => by omega, rfl⟩
  case round =>
    obtain ⟨k, hk, rfl, hq, rfl⟩ := hrel
    have HQ := Lib.hid hq
    clear hq
    by_cases hlt : a + k < s.size
    · have hx : (k : Int) < (s.size : Int) - a := by omega
      have hx1 : k < s.size - a := by omega
      have hx2 : (k : Int) < (s.extract a s.size).size := by simp; omega
      have hx3 : k < (s.extract a s.size).size := by simp; omega
      have e1 : (bt (s.extract a s.size) k) = bt s (a + k) := bt_extract s a s.size k (Nat.le_refl _) (by omega)
      rw [bt_eq hx3] at e1
      have e2 : cls (s.extract a s.size)[k].toNat = cl s (a + k) := by rw [e1]; rfl
      have E2 := Lib.hid e2
      clear e1 e2
      obtain ⟨y, hy⟩ : ∃ y, (decide (cl s (a + k) = d)) = y := ⟨_, rfl⟩
      have HY := Lib.hid hy
      clear hy
      cases y
      all_goals
        go_wp2_with fail
        refine (of_any _ _).mono ?_
        rintro e w' ⟨rfl, rfl⟩
        rw [E2.out]
        go_wp2_with fail
        refine (is_eq _ _ _ _ _ hc _ HY.out).mono ?_
        rintro e w' ⟨rfl, rfl⟩
        go_wp2
      · rw [Exit.noGoto_ret]
        go_ret
        refine ⟨ret_int ?_, rfl⟩
        rw [show rowN s a d = k from lead_eq _ hk HQ.out (fun _ => HY.out)]
      · go_roundw
        case rel =>
          refine ⟨k + 1, by omega, by go_num, fun i hi => ?_, rfl⟩
          by_cases g : i = k
          · rw [g]; exact HY.out
          · exact HQ.out i (by omega)
        case measure => simp [intOf]; omega
    · have hz : k = s.size - a := by omega
      have HZ := Lib.hid hz
      clear hz
      go_wp2
      go_ret
      refine ⟨ret_int ?_, rfl⟩
      rw [show rowN s a d = k from lead_eq _ hk HQ.out (fun g => absurd HZ.out (Nat.ne_of_lt g))]

/-- What stands at a place, or 0. -/
def atV (s : ByteArray) (a : Int) (f : Nat → Nat) : Int := if 0 ≤ a ∧ a < s.size then (f a.toNat : Nat) else 0

theorem name_any (s : ByteArray) (a : Int) (w : World) (hs : s.size ≤ 1000000) :
    Calls Try.prog 16 #[.string s, .int .i64 a] w fun e w' => e = .returned (.int .i64 (atV s a (nameN s))) ∧ w' = w := by
  unfold atV
  by_cases h : 0 ≤ a ∧ a < s.size
  · rw [if_pos h]
    obtain ⟨k, rfl⟩ := Int.eq_ofNat_of_zero_le h.1
    have hk : k < s.size := by omega
    clear h
    go_enter Try.func16, Try.ntmps16
    go_wp2_with fail
    refine (measureN_any s k _ hs hk).mono ?_
    rintro e w' ⟨rfl, rfl⟩
    go_wp2
    go_ret
    exact ⟨rfl, rfl⟩
  · rw [if_neg h]
    have h' : a < 0 ∨ (s.size : Int) ≤ a := by omega
    have H := Lib.hid h'
    clear h h'
    go_enter Try.func16, Try.ntmps16
    go_wp2_with fail
    refine (measure_out s a _ _ hs H.out).mono ?_
    rintro e w' ⟨rfl, rfl⟩
    go_wp2
    go_ret
    exact ⟨rfl, rfl⟩
theorem row_any (s : ByteArray) (a : Int) (d : Nat) (w : World) (hs : s.size ≤ 1000000) :
    Calls Try.prog 35 #[.string s, .int .i64 a, .int .i64 d] w fun e w' => e = .returned (.int .i64 (atV s a (fun k => rowN s k d))) ∧ w' = w.alloc (.cells #[.int .i64 d] 3) := by
  have hc := (Blk.new w #[.int .i64 (d : Int)] 3).cell 0
  unfold atV
  by_cases h : 0 ≤ a ∧ a < s.size
  · rw [if_pos h]
    obtain ⟨k, rfl⟩ := Int.eq_ofNat_of_zero_le h.1
    have hk : k < s.size := by omega
    clear h
    go_enter Try.func35, Try.ntmps35
    go_wp2_with fail
    refine (measureR_any s k _ hs hk d _ hc).mono ?_
    rintro e w' ⟨rfl, rfl⟩
    go_wp2
    go_ret
    exact ⟨rfl, rfl⟩
  · rw [if_neg h]
    have h' : a < 0 ∨ (s.size : Int) ≤ a := by omega
    have H := Lib.hid h'
    clear h h'
    go_enter Try.func35, Try.ntmps35
    go_wp2_with fail
    refine (measure_out s a _ _ hs H.out).mono ?_
    rintro e w' ⟨rfl, rfl⟩
    go_wp2
    go_ret
    exact ⟨rfl, rfl⟩
theorem digits_any (s : ByteArray) (a : Int) (w : World) (hs : s.size ≤ 1000000) :
    Calls Try.prog 17 #[.string s, .int .i64 a] w fun e w' => e = .returned (.int .i64 (atV s a (fun k => rowN s k 6))) ∧ Below w.heap.size w w' := by
  go_enter Try.func17, Try.ntmps17
  go_wp2_with (go_at_call 35; refine (row_any s a 6 _ hs).mono ?_; rintro e w' ⟨rfl, rfl⟩)
  go_ret
  exact ⟨rfl, (Below.refl _ _).alloc (Nat.le_refl _) _⟩
theorem blanks_any (s : ByteArray) (a : Int) (w : World) (hs : s.size ≤ 1000000) :
    Calls Try.prog 18 #[.string s, .int .i64 a] w fun e w' => e = .returned (.int .i64 (atV s a (fun k => rowN s k 1))) ∧ Below w.heap.size w w' := by
  go_enter Try.func18, Try.ntmps18
  go_wp2_with (go_at_call 35; refine (row_any s a 1 _ hs).mono ?_; rintro e w' ⟨rfl, rfl⟩)
  go_ret
  exact ⟨rfl, (Below.refl _ _).alloc (Nat.le_refl _) _⟩
end Go.Proofs.Ytnpkmbppfeahkaa

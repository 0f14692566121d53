/- The walk of the statement EditMoves: it returns true, and what lay in memory before stays as it was. Condition: the place is given by a number that is not below 0, as every uint16 is. -/
import Derived.Test.YtjickhgkhcojgaaEdH
import Derived.Test.YtjickhgkhcojgaaEdR
namespace Go.Proofs.Ytjickhgkhcojgaa
open Go.RowKit
set_option linter.unusedVariables false

section
variable (s d n : ByteArray) (w : World)

set_option maxHeartbeats 1000000 in
theorem moves_large (a : Int) (m : Nat) (b : Bool) (h : 300 < s.size ∨ 300 < d.size ∨ 300 < n.size) :
    Calls Try.prog 6 #[.string s, .agg #[.int .i64 a, .string d, .string n], .int .u16 m, .bool b] w fun e w' => e = .returned (.bool true) ∧ Below w.heap.size w w' := by
  go_enter Try.func6, Try.ntmps6
  go_wp2_with fail
  refine (awake_any _).mono ?_
  rintro e w1 ⟨rfl, hb1⟩
  have S1 := held_of (held_new _ _ _ _ _) hb1
  have hB := below_new _ hb1
  clear hb1
  by_cases h1 : (300 : Int) < s.size
  · go_wp2
    go_ret
    exact ⟨rfl, hB⟩
  · by_cases h2 : (300 : Int) < d.size
    · go_wp2
      go_ret
      exact ⟨rfl, hB⟩
    · have h3 : (300 : Int) < n.size := by omega
      go_wp2
      go_ret
      exact ⟨rfl, hB⟩

set_option maxHeartbeats 1000000 in
theorem moves_bad (a : Int) (m : Nat) (b : Bool) (k : Int) (hs : s.size ≤ 300) (hd : d.size ≤ 300) (hn : n.size ≤ 300) (hk : wrongN s a d n = k) (k0 : k ≠ 0) :
    Calls Try.prog 6 #[.string s, .agg #[.int .i64 a, .string d, .string n], .int .u16 m, .bool b] w fun e w' => e = .returned (.bool true) ∧ Below w.heap.size w w' := by
  have HW := Lib.hid hk
  clear hk
  have i1 : ¬ (300 : Int) < s.size := by omega
  have i2 : ¬ (300 : Int) < d.size := by omega
  have i3 : ¬ (300 : Int) < n.size := by omega
  have k1 : (k != 0) = true := by simpa using k0
  go_enter Try.func6, Try.ntmps6
  go_wp2_with fail
  refine (awake_any _).mono ?_
  rintro e w1 ⟨rfl, hb1⟩
  have S1 := held_of (held_new _ _ _ _ _) hb1
  have hB := below_new _ hb1
  clear hb1
  go_wp2_with fail
  refine (wrong_eq s d n _ a k HW.out (by omega) (by omega)).mono ?_
  rintro e w3 ⟨rfl, hb3⟩
  have hB3 := hB.trans (hb3.mono hB.size)
  clear S1 hb3 hB
  go_wp2
  go_ret
  exact ⟨rfl, hB3⟩



set_option maxHeartbeats 1000000 in
theorem moves_A (a : Nat) (m : Nat) (b : Bool) (k j : Nat) (hm : m ≤ 65535) (hq : (m : Int) % ((s.size : Int) + 1) = (k : Int)) (hks : (k : Int) ≤ s.size) (HM : Hid (moveN a k d.size n.size b = (j : Int))) (hs : s.size ≤ 300) (hd : d.size ≤ 300) (hn : n.size ≤ 300) (hk : wrongN s a d n = 0) (hlt : (k : Int) < a) (hkj : k = j) :
    Calls Try.prog 6 #[.string s, .agg #[.int .i64 a, .string d, .string n], .int .u16 m, .bool b] w fun e w' => e = .returned (.bool true) ∧ Below w.heap.size w w' := by
  have hf := (wrongN_0 hk).2.2.1
  simp only [Int.toNat_natCast] at hf
  have hf1 := hf.1
  have hz := doB_size (n := n) hf.1
  have hby := fun i => doB_byte (n := n) (i := i) hf.1
  have h2 : (a : Int) + d.size ≤ s.size := by omega
  clear hf
  generalize hgt : doB s a d n = t at *
  have HW := Lib.hid hk
  have HT := Lib.hid hgt
  have HZ := Lib.hid hz
  have HBY := Lib.hid hby
  have zt : (t.size : Int) = (s.size : Int) - d.size + n.size := by omega
  have HZT := Lib.hid zt
  subst hkj
  have g0 : (0 : Int) ≤ (k : Int) := by omega
  have g1 : ¬ (t.size : Int) < (k : Int) := by omega
  have g2 : ((k : Int) == (s.size : Int)) = false := by simp; omega
  have g3 : (k : Int) < s.size := by omega
  have g4 : (k : Int) < t.size := by omega
  have hk' : k < s.size := by omega
  have hj' : k < t.size := by omega
  have eb : bt s k = bt t k := ((hby k).1 (by omega)).symm
  have t1 : ((s[k].toNat : Int) == (t[k].toNat : Int)) = true := by rw [bt_eq hk', bt_eq hj'] at eb; rw [eb]; simp
  clear eb

  clear hk hgt hz hby zt
  have i1 : ¬ (300 : Int) < s.size := by omega
  have i2 : ¬ (300 : Int) < d.size := by omega
  have i3 : ¬ (300 : Int) < n.size := by omega
  go_enter Try.func6, Try.ntmps6
  go_wp2_with fail
  refine (awake_any _).mono ?_
  rintro e w1 ⟨rfl, hb1⟩
  have S1 := held_of (held_new _ _ _ _ _) hb1
  have hB := below_new _ hb1
  clear hb1
  go_wp2_with fail
  refine (wrong_eq s d n _ a 0 HW.out (by omega) (by omega)).mono ?_
  rintro e w2 ⟨rfl, hb2⟩
  have S2 := held_of S1 hb2
  have hB2 := hB.trans (hb2.mono hB.size)
  clear S1 hb2 hB
  go_wp2_with fail
  refine (refdo_any s d n a _ h2 (by omega) (by omega)).mono ?_
  rw [HT.out]
  rintro e w3 ⟨rfl, hb3⟩
  have S3 := held_of S2 hb3
  have hB3 := hB2.trans (hb3.mono hB2.size)
  clear S2 hb3 hB2
  go_wp2_with fail
  refine (move_any a k d n b _ (k : Int) HM.out (by omega) (by omega) (by omega) (by omega)).mono ?_
  rintro e w4 ⟨rfl, hb4⟩
  have S4 := held_of S3 hb4
  have hB4 := hB3.trans (hb4.mono hB3.size)
  clear S3 hb4 hB3
  go_wp2_with fail
  refine (refmove_any a k d n b _ (k : Int) HM.out (by omega) (by omega) (by omega) (by omega)).mono ?_
  rintro e w5 ⟨rfl, hb5⟩
  have S5 := held_of S4 hb5
  have hB5 := hB4.trans (hb5.mono hB4.size)
  clear S4 hb5 hB4 hq
  go_wp2
  go_quiet (fail)
  go_wp2
  go_ret
  exact ⟨rfl, below_drewN hB5 _⟩

set_option maxHeartbeats 1000000 in
theorem moves_B (a : Nat) (m : Nat) (b : Bool) (k j : Nat) (hm : m ≤ 65535) (hq : (m : Int) % ((s.size : Int) + 1) = (k : Int)) (hks : (k : Int) ≤ s.size) (HM : Hid (moveN a k d.size n.size b = (j : Int))) (hs : s.size ≤ 300) (hd : d.size ≤ 300) (hn : n.size ≤ 300) (hk : wrongN s a d n = 0) (hlt : (a : Int) + d.size < k) (hls : (k : Int) < s.size) (hkj : j = k + n.size - d.size) :
    Calls Try.prog 6 #[.string s, .agg #[.int .i64 a, .string d, .string n], .int .u16 m, .bool b] w fun e w' => e = .returned (.bool true) ∧ Below w.heap.size w w' := by
  have hf := (wrongN_0 hk).2.2.1
  simp only [Int.toNat_natCast] at hf
  have hf1 := hf.1
  have hz := doB_size (n := n) hf.1
  have hby := fun i => doB_byte (n := n) (i := i) hf.1
  have h2 : (a : Int) + d.size ≤ s.size := by omega
  clear hf
  generalize hgt : doB s a d n = t at *
  have HW := Lib.hid hk
  have HT := Lib.hid hgt
  have HZ := Lib.hid hz
  have HBY := Lib.hid hby
  have zt : (t.size : Int) = (s.size : Int) - d.size + n.size := by omega
  have HZT := Lib.hid zt
  have g0 : (0 : Int) ≤ (j : Int) := by omega
  have g1 : ¬ (t.size : Int) < (j : Int) := by omega
  have g2 : ((k : Int) == (s.size : Int)) = false := by simp; omega
  have g4 : (j : Int) < t.size := by omega
  have g5 : ¬ (k : Int) < a := by omega
  have hk' : k < s.size := by omega
  have hj' : j < t.size := by omega
  have eb : bt s k = bt t j := by rw [hkj]; exact ((hby k).2 (by omega) (by omega)).symm
  have t1 : ((s[k].toNat : Int) == (t[j].toNat : Int)) = true := by rw [bt_eq hk', bt_eq hj'] at eb; rw [eb]; simp
  clear eb
  have HKJ := Lib.hid hkj
  clear hkj

  clear hk hgt hz hby zt
  have i1 : ¬ (300 : Int) < s.size := by omega
  have i2 : ¬ (300 : Int) < d.size := by omega
  have i3 : ¬ (300 : Int) < n.size := by omega
  go_enter Try.func6, Try.ntmps6
  go_wp2_with fail
  refine (awake_any _).mono ?_
  rintro e w1 ⟨rfl, hb1⟩
  have S1 := held_of (held_new _ _ _ _ _) hb1
  have hB := below_new _ hb1
  clear hb1
  go_wp2_with fail
  refine (wrong_eq s d n _ a 0 HW.out (by omega) (by omega)).mono ?_
  rintro e w2 ⟨rfl, hb2⟩
  have S2 := held_of S1 hb2
  have hB2 := hB.trans (hb2.mono hB.size)
  clear S1 hb2 hB
  go_wp2_with fail
  refine (refdo_any s d n a _ h2 (by omega) (by omega)).mono ?_
  rw [HT.out]
  rintro e w3 ⟨rfl, hb3⟩
  have S3 := held_of S2 hb3
  have hB3 := hB2.trans (hb3.mono hB2.size)
  clear S2 hb3 hB2
  go_wp2_with fail
  refine (move_any a k d n b _ (j : Int) HM.out (by omega) (by omega) (by omega) (by omega)).mono ?_
  rintro e w4 ⟨rfl, hb4⟩
  have S4 := held_of S3 hb4
  have hB4 := hB3.trans (hb4.mono hB3.size)
  clear S3 hb4 hB3
  go_wp2_with fail
  refine (refmove_any a k d n b _ (j : Int) HM.out (by omega) (by omega) (by omega) (by omega)).mono ?_
  rintro e w5 ⟨rfl, hb5⟩
  have S5 := held_of S4 hb5
  have hB5 := hB4.trans (hb5.mono hB4.size)
  clear S4 hb5 hB4 hq
  go_wp2
  go_quiet (fail)
  go_wp2
  go_ret
  exact ⟨rfl, below_drewN hB5 _⟩

set_option maxHeartbeats 1000000 in
theorem moves_C (a : Nat) (m : Nat) (b : Bool) (k j : Nat) (hm : m ≤ 65535) (hq : (m : Int) % ((s.size : Int) + 1) = (k : Int)) (hks : (k : Int) ≤ s.size) (HM : Hid (moveN a k d.size n.size b = (j : Int))) (hs : s.size ≤ 300) (hd : d.size ≤ 300) (hn : n.size ≤ 300) (hk : wrongN s a d n = 0) (hlt : (a : Int) + d.size < k) (hls : k = s.size) (hkj : j = k + n.size - d.size) :
    Calls Try.prog 6 #[.string s, .agg #[.int .i64 a, .string d, .string n], .int .u16 m, .bool b] w fun e w' => e = .returned (.bool true) ∧ Below w.heap.size w w' := by
  have hf := (wrongN_0 hk).2.2.1
  simp only [Int.toNat_natCast] at hf
  have hf1 := hf.1
  have hz := doB_size (n := n) hf.1
  have hby := fun i => doB_byte (n := n) (i := i) hf.1
  have h2 : (a : Int) + d.size ≤ s.size := by omega
  clear hf
  generalize hgt : doB s a d n = t at *
  have HW := Lib.hid hk
  have HT := Lib.hid hgt
  have HZ := Lib.hid hz
  have HBY := Lib.hid hby
  have zt : (t.size : Int) = (s.size : Int) - d.size + n.size := by omega
  have HZT := Lib.hid zt
  have hjt : j = t.size := by omega
  have g0 : (0 : Int) ≤ (j : Int) := by omega
  have g1 : ¬ (t.size : Int) < (j : Int) := by omega
  have g2 : ((k : Int) == (s.size : Int)) = true := by simp; omega
  have g3 : ((j : Int) == (t.size : Int)) = true := by simp; omega
  have g5 : ¬ (k : Int) < a := by omega
  have HLS := Lib.hid hls
  have HJT := Lib.hid hjt
  clear hkj hjt hls

  clear hk hgt hz hby zt
  have i1 : ¬ (300 : Int) < s.size := by omega
  have i2 : ¬ (300 : Int) < d.size := by omega
  have i3 : ¬ (300 : Int) < n.size := by omega
  go_enter Try.func6, Try.ntmps6
  go_wp2_with fail
  refine (awake_any _).mono ?_
  rintro e w1 ⟨rfl, hb1⟩
  have S1 := held_of (held_new _ _ _ _ _) hb1
  have hB := below_new _ hb1
  clear hb1
  go_wp2_with fail
  refine (wrong_eq s d n _ a 0 HW.out (by omega) (by omega)).mono ?_
  rintro e w2 ⟨rfl, hb2⟩
  have S2 := held_of S1 hb2
  have hB2 := hB.trans (hb2.mono hB.size)
  clear S1 hb2 hB
  go_wp2_with fail
  refine (refdo_any s d n a _ h2 (by omega) (by omega)).mono ?_
  rw [HT.out]
  rintro e w3 ⟨rfl, hb3⟩
  have S3 := held_of S2 hb3
  have hB3 := hB2.trans (hb3.mono hB2.size)
  clear S2 hb3 hB2
  go_wp2_with fail
  refine (move_any a k d n b _ (j : Int) HM.out (by omega) (by omega) (by omega) (by omega)).mono ?_
  rintro e w4 ⟨rfl, hb4⟩
  have S4 := held_of S3 hb4
  have hB4 := hB3.trans (hb4.mono hB3.size)
  clear S3 hb4 hB3
  go_wp2_with fail
  refine (refmove_any a k d n b _ (j : Int) HM.out (by omega) (by omega) (by omega) (by omega)).mono ?_
  rintro e w5 ⟨rfl, hb5⟩
  have S5 := held_of S4 hb5
  have hB5 := hB4.trans (hb5.mono hB4.size)
  clear S4 hb5 hB4 hq
  go_wp2
  go_quiet (fail)
  go_wp2
  go_ret
  exact ⟨rfl, below_drewN hB5 _⟩

set_option maxHeartbeats 1000000 in
theorem moves_D (a : Nat) (m : Nat) (b : Bool) (k j : Nat) (hm : m ≤ 65535) (hq : (m : Int) % ((s.size : Int) + 1) = (k : Int)) (hks : (k : Int) ≤ s.size) (HM : Hid (moveN a k d.size n.size b = (j : Int))) (hs : s.size ≤ 300) (hd : d.size ≤ 300) (hn : n.size ≤ 300) (hk : wrongN s a d n = 0) (hlt : (a : Int) ≤ k) (hls : (k : Int) ≤ (a : Int) + d.size) (hjt : (j : Int) ≤ s.size - d.size + n.size) :
    Calls Try.prog 6 #[.string s, .agg #[.int .i64 a, .string d, .string n], .int .u16 m, .bool b] w fun e w' => e = .returned (.bool true) ∧ Below w.heap.size w w' := by
  have hf := (wrongN_0 hk).2.2.1
  simp only [Int.toNat_natCast] at hf
  have hf1 := hf.1
  have hz := doB_size (n := n) hf.1
  have hby := fun i => doB_byte (n := n) (i := i) hf.1
  have h2 : (a : Int) + d.size ≤ s.size := by omega
  clear hf
  generalize hgt : doB s a d n = t at *
  have HW := Lib.hid hk
  have HT := Lib.hid hgt
  have HZ := Lib.hid hz
  have HBY := Lib.hid hby
  have zt : (t.size : Int) = (s.size : Int) - d.size + n.size := by omega
  have HZT := Lib.hid zt
  have g0 : (0 : Int) ≤ (j : Int) := by omega
  have g1 : ¬ (t.size : Int) < (j : Int) := by omega
  have g5 : ¬ (k : Int) < a := by omega
  have g6 : ¬ (a : Int) + d.size < k := by omega

  clear hk hgt hz hby zt
  have i1 : ¬ (300 : Int) < s.size := by omega
  have i2 : ¬ (300 : Int) < d.size := by omega
  have i3 : ¬ (300 : Int) < n.size := by omega
  go_enter Try.func6, Try.ntmps6
  go_wp2_with fail
  refine (awake_any _).mono ?_
  rintro e w1 ⟨rfl, hb1⟩
  have S1 := held_of (held_new _ _ _ _ _) hb1
  have hB := below_new _ hb1
  clear hb1
  go_wp2_with fail
  refine (wrong_eq s d n _ a 0 HW.out (by omega) (by omega)).mono ?_
  rintro e w2 ⟨rfl, hb2⟩
  have S2 := held_of S1 hb2
  have hB2 := hB.trans (hb2.mono hB.size)
  clear S1 hb2 hB
  go_wp2_with fail
  refine (refdo_any s d n a _ h2 (by omega) (by omega)).mono ?_
  rw [HT.out]
  rintro e w3 ⟨rfl, hb3⟩
  have S3 := held_of S2 hb3
  have hB3 := hB2.trans (hb3.mono hB2.size)
  clear S2 hb3 hB2
  go_wp2_with fail
  refine (move_any a k d n b _ (j : Int) HM.out (by omega) (by omega) (by omega) (by omega)).mono ?_
  rintro e w4 ⟨rfl, hb4⟩
  have S4 := held_of S3 hb4
  have hB4 := hB3.trans (hb4.mono hB3.size)
  clear S3 hb4 hB3
  go_wp2_with fail
  refine (refmove_any a k d n b _ (j : Int) HM.out (by omega) (by omega) (by omega) (by omega)).mono ?_
  rintro e w5 ⟨rfl, hb5⟩
  have S5 := held_of S4 hb5
  have hB5 := hB4.trans (hb5.mono hB4.size)
  clear S4 hb5 hB4 hq
  go_wp2
  go_ret
  exact ⟨rfl, hB5⟩

theorem moves_any (a : Int) (m : Nat) (b : Bool) (hm : m ≤ 65535) :
    Calls Try.prog 6 #[.string s, .agg #[.int .i64 a, .string d, .string n], .int .u16 m, .bool b] w fun e w' => e = .returned (.bool true) ∧ Below w.heap.size w w' := by
  by_cases h : 300 < s.size ∨ 300 < d.size ∨ 300 < n.size
  · exact moves_large s d n w a m b h
  · rcases wrongN_cases s a d n with k0 | k0 | k0
    · obtain ⟨a, rfl⟩ := Int.eq_ofNat_of_zero_le (wrongN_0 k0).1
      have hf := (wrongN_0 k0).2.2.1.1
      simp only [Int.toNat_natCast] at hf
      obtain ⟨k, hkk⟩ : ∃ k, k = m % (s.size + 1) := ⟨_, rfl⟩
      have hks : k ≤ s.size := by have : m % (s.size + 1) < s.size + 1 := Nat.mod_lt m (by omega); rw [hkk]; omega
      have hq : (m : Int) % ((s.size : Int) + 1) = (k : Int) := by rw [hkk]; simp
      by_cases c1 : k < a
      · exact moves_A s d n w a m b k k hm hq (by omega) (by unfold moveN; rw [if_pos c1]; exact rfl) (by omega) (by omega) (by omega) k0 (by omega) rfl
      · by_cases c2 : a + d.size < k
        · have HM : Hid (moveN a k d.size n.size b = ((k + n.size - d.size : Nat) : Int)) := by
            show moveN a k d.size n.size b = _
            unfold moveN; rw [if_neg c1, if_pos c2]; omega
          by_cases c3 : k = s.size
          · exact moves_C s d n w a m b k _ hm hq (by omega) HM (by omega) (by omega) (by omega) k0 (by omega) c3 rfl
          · exact moves_B s d n w a m b k _ hm hq (by omega) HM (by omega) (by omega) (by omega) k0 (by omega) (by omega) rfl
        · cases b
          · exact moves_D s d n w a m false k a hm hq (by omega) (by show moveN a k d.size n.size false = _; unfold moveN; rw [if_neg c1, if_neg c2]; rfl) (by omega) (by omega) (by omega) k0 (by omega) (by omega) (by omega)
          · exact moves_D s d n w a m true k (a + n.size) hm hq (by omega) (by show moveN a k d.size n.size true = _; unfold moveN; rw [if_neg c1, if_neg c2]; simp) (by omega) (by omega) (by omega) k0 (by omega) (by omega) (by omega)
    · exact moves_bad s d n w a m b 1 (by omega) (by omega) (by omega) k0 (by decide)
    · exact moves_bad s d n w a m b 2 (by omega) (by omega) (by omega) k0 (by decide)
end
end Go.Proofs.Ytjickhgkhcojgaa

/- The walks of ClassNames and ClassWhole of layer 4 (class): the laws return true. Condition: texts as they come. -/
import Derived.Test.YtnpkmbppfeahkaaClH
import Derived.Test.YtnpkmbppfeahkaaClQ
namespace Go.Proofs.Ytnpkmbppfeahkaa
open Go.RowKit
set_option linter.unusedVariables false

theorem assign_eq (s : ByteArray) (w : World) (hs : s.size ≤ 1000000) (V : Value) (h : assignV s = V) :
    Calls Try.prog 24 #[.string s] w fun e w' => e = .returned V ∧ Below w.heap.size w w' := by
  rw [← h]; exact assign_any s w hs
theorem refassign_eq (s : ByteArray) (w : World) (hs : s.size ≤ 1000000) (k : Nat) (h : assignN s = k) :
    Calls Try.prog 23 #[.string s] w fun e w' => e = .returned (.int .i64 k) ∧ w' = w := by
  rw [← h]; exact refassign_any s w hs
theorem isname_eq (s : ByteArray) (w : World) (hs : s.size ≤ 1000000) (b : Bool) (h : isNm s = b) :
    Calls Try.prog 25 #[.string s] w fun e w' => e = .returned (.bool b) ∧ w' = w := by
  rw [← h]; exact isname_any s w hs

set_option maxHeartbeats 2000000 in
theorem names_law (s : ByteArray) (w : World) (hmax : s.size ≤ 9223372036854775807) :
    Calls Try.prog 5 #[.string s] w fun e w' => e = .returned (.bool true) ∧ Below w.heap.size w w' := by
  by_cases hs : (s.size : Int) ≤ 100
  · have hm : s.size ≤ 1000000 := by omega
    obtain ⟨b, hb⟩ : ∃ b, isNm s = b := ⟨_, rfl⟩
    have HB := Lib.hid hb
    clear hb
    obtain ⟨m, hmm⟩ : ∃ m, assignN s = m := ⟨_, rfl⟩
    have hml : m ≤ s.size := by have := assignN_le s; omega
    have hml1 : (m : Int) ≤ s.size := by omega
    by_cases h0 : m = 0
    · subst h0
      have hV : assignV s = .tuple #[.string ⟨#[]⟩, .string ⟨#[]⟩, .bool false] := by unfold assignV; rw [if_pos hmm]
      have HM := Lib.hid hmm
      have HV := Lib.hid hV
      clear hmm hV
      go_enter Try.func5, Try.ntmps5
      go_wp2_with fail
      refine (awake_any _).mono ?_
      rintro e w1 ⟨rfl, rfl⟩
      go_wp2_with fail
      refine (refassign_eq _ _ hm 0 HM.out).mono ?_
      rintro e w1 ⟨rfl, rfl⟩
      go_wp2_with fail
      refine (assign_eq _ _ hm _ HV.out).mono ?_
      rintro e w2 ⟨rfl, b2⟩
      go_wp2_with fail
      refine (isname_eq _ _ hm _ HB.out).mono ?_
      rintro e w1 ⟨rfl, rfl⟩
      go_wp2_with fail
      refine (refisname_eq _ _ hm _ HB.out).mono ?_
      rintro e w1 ⟨rfl, rfl⟩
      go_wp2
      go_ret
      exact ⟨rfl, b2⟩
    · have hm0 : 0 < m := by omega
      have hm1 : m < s.size := by have := assignN_lt (s := s) (by omega); omega
      have hm2 : (m : Int) + 1 ≤ s.size := by omega
      have d0 : decide ((0 : Int) < m) = true := by simp; omega
      have d1 : decide (0 < m) = true := by simp; omega
      have g0 : ((m : Int) == 0) = false := beq_eq_false_iff_ne.2 (by omega)
      have hV : assignV s = .tuple #[.string (s.extract 0 m), .string (s.extract (m + 1) s.size), .bool true] := by unfold assignV; rw [hmm, if_neg h0]
      have HM := Lib.hid hmm
      have HV := Lib.hid hV
      clear hmm hV h0
      go_enter Try.func5, Try.ntmps5
      go_wp2_with fail
      refine (awake_any _).mono ?_
      rintro e w1 ⟨rfl, rfl⟩
      go_wp2_with fail
      refine (refassign_eq _ _ hm m HM.out).mono ?_
      rintro e w1 ⟨rfl, rfl⟩
      go_wp2_with fail
      refine (assign_eq _ _ hm _ HV.out).mono ?_
      rintro e w2 ⟨rfl, b2⟩
      go_wp2_with fail
      refine (isname_eq _ _ hm _ HB.out).mono ?_
      rintro e w1 ⟨rfl, rfl⟩
      go_wp2_with fail
      refine (refisname_eq _ _ hm _ HB.out).mono ?_
      rintro e w1 ⟨rfl, rfl⟩
      go_wp2
      go_ret
      exact ⟨ret_bool (by simp), b2⟩
  · have hs2 : (100 : Int) < s.size := by omega
    clear hs
    go_enter Try.func5, Try.ntmps5
    go_wp2_with fail
    refine (awake_any _).mono ?_
    rintro e w' ⟨rfl, rfl⟩
    go_wp2
    go_ret
    exact ⟨rfl, Below.refl _ _⟩

set_option maxHeartbeats 2000000 in
theorem whole_law (n v : ByteArray) (w : World) (hn : n.size ≤ 9223372036854775807) (hv : v.size ≤ 9223372036854775807) :
    Calls Try.prog 8 #[.string n, .string v] w fun e w' => e = .returned (.bool true) ∧ Below w.heap.size w w' := by
  by_cases hs : (n.size : Int) ≤ 100
  · by_cases hs' : (v.size : Int) ≤ 100
    · have d1 : decide ((100 : Int) < n.size) = false := by simp; omega
      have d2 : decide ((100 : Int) < v.size) = false := by simp; omega
      have d3 : decide (100 < n.size) = false := by simp; omega
      have d4 : decide (100 < v.size) = false := by simp; omega
      have hnm : n.size ≤ 1000000 := by omega
      have hz : (n ++ ⟨#[61]⟩ ++ v).size ≤ 1000000 := by rw [put_size]; omega
      by_cases hb : isNm n = true
      · have hV : assignV (n ++ ⟨#[61]⟩ ++ v) = .tuple #[.string n, .string v, .bool true] := by
          have h0 : n.size ≠ 0 := by unfold isNm at hb; rw [decide_eq_true_iff] at hb; exact hb.1
          unfold assignV
          rw [whole_yes hb, if_neg h0, put_head, put_tail]
        have HB := Lib.hid hb
        have HV := Lib.hid hV
        clear hb hV
        go_enter Try.func8, Try.ntmps8
        go_wp2_with fail
        refine (awake_any _).mono ?_
        rintro e w1 ⟨rfl, rfl⟩
        go_wp2_with fail
        refine (assign_eq _ _ hz _ HV.out).mono ?_
        rintro e w2 ⟨rfl, b2⟩
        go_wp2_with fail
        refine (refisname_eq _ _ hnm _ HB.out).mono ?_
        rintro e w1 ⟨rfl, rfl⟩
        go_wp2
        go_ret
        exact ⟨ret_bool (by simp), b2⟩
      · have hb2 : isNm n = false := by simpa using hb
        by_cases h0 : assignN (n ++ ⟨#[61]⟩ ++ v) = 0
        · have hV : assignV (n ++ ⟨#[61]⟩ ++ v) = .tuple #[.string ⟨#[]⟩, .string ⟨#[]⟩, .bool false] := by unfold assignV; rw [if_pos h0]
          have HB := Lib.hid hb2
          have HV := Lib.hid hV
          clear hb hb2 hV h0
          go_enter Try.func8, Try.ntmps8
          go_wp2_with fail
          refine (awake_any _).mono ?_
          rintro e w1 ⟨rfl, rfl⟩
          go_wp2_with fail
          refine (assign_eq _ _ hz _ HV.out).mono ?_
          rintro e w2 ⟨rfl, b2⟩
          go_wp2_with fail
          refine (refisname_eq _ _ hnm _ HB.out).mono ?_
          rintro e w1 ⟨rfl, rfl⟩
          go_wp2
          go_ret
          exact ⟨rfl, b2⟩
        · have hne := whole_no (v := v) hb2 (by omega)
          have hV : assignV (n ++ ⟨#[61]⟩ ++ v) = .tuple #[.string ((n ++ ⟨#[61]⟩ ++ v).extract 0 (assignN (n ++ ⟨#[61]⟩ ++ v))), .string ((n ++ ⟨#[61]⟩ ++ v).extract (assignN (n ++ ⟨#[61]⟩ ++ v) + 1) (n ++ ⟨#[61]⟩ ++ v).size), .bool true] := by unfold assignV; rw [if_neg h0]
          obtain ⟨x, hx⟩ : ∃ x, (n ++ ⟨#[61]⟩ ++ v).extract 0 (assignN (n ++ ⟨#[61]⟩ ++ v)) = x := ⟨_, rfl⟩
          obtain ⟨y, hy⟩ : ∃ y, (n ++ ⟨#[61]⟩ ++ v).extract (assignN (n ++ ⟨#[61]⟩ ++ v) + 1) (n ++ ⟨#[61]⟩ ++ v).size = y := ⟨_, rfl⟩
          rw [hx] at hne hV
          rw [hy] at hV
          have q1 : (x.toList == n.toList) = false := by rw [bs_eqb]; simpa using hne
          have q2 : (x.toList != n.toList) = true := by unfold bne; rw [q1]; rfl
          have HB := Lib.hid hb2
          have HV := Lib.hid hV
          clear hb hb2 hV h0 hx hy hne
          go_enter Try.func8, Try.ntmps8
          go_wp2_with fail
          refine (awake_any _).mono ?_
          rintro e w1 ⟨rfl, rfl⟩
          go_wp2_with fail
          refine (assign_eq _ _ hz _ HV.out).mono ?_
          rintro e w2 ⟨rfl, b2⟩
          go_wp2_with fail
          refine (refisname_eq _ _ hnm _ HB.out).mono ?_
          rintro e w1 ⟨rfl, rfl⟩
          go_wp2
          go_ret
          exact ⟨ret_bool (by simp), b2⟩
    · have d1 : decide ((100 : Int) < n.size) = false := by simp; omega
      have d3 : decide (100 < n.size) = false := by simp; omega
      have d2 : decide ((100 : Int) < v.size) = true := by simp; omega
      have d4 : decide (100 < v.size) = true := by simp; omega
      clear hs hs'
      go_enter Try.func8, Try.ntmps8
      go_wp2_with fail
      refine (awake_any _).mono ?_
      rintro e w1 ⟨rfl, rfl⟩
      go_wp2
      go_ret
      exact ⟨rfl, Below.refl _ _⟩
  · have d1 : decide ((100 : Int) < n.size) = true := by simp; omega
    have d3 : decide (100 < n.size) = true := by simp; omega
    clear hs
    go_enter Try.func8, Try.ntmps8
    go_wp2_with fail
    refine (awake_any _).mono ?_
    rintro e w1 ⟨rfl, rfl⟩
    go_wp2
    go_ret
    exact ⟨rfl, Below.refl _ _⟩
end Go.Proofs.Ytnpkmbppfeahkaa

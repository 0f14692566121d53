/- What IsName and Param of layer 4 (class) and the document's own IsName, All, Name, Row, Param and Assign return. Condition: texts of at most a million bytes. -/
import Derived.Test.YtnpkmbppfeahkaaClC
namespace Go.Proofs.Ytnpkmbppfeahkaa
open Go.RowKit
set_option linter.unusedVariables false

theorem cl_at {s : ByteArray} {k : Nat} (h : k < s.size) : cls s[k].toNat = cl s k := by unfold cl; rw [bt_eq h]
theorem u8_lt (s : ByteArray) (k : Nat) (h : k < s.size) : s[k].toNat < 256 := s[k].toNat_lt
theorem of_at (s : ByteArray) (k : Nat) (h : k < s.size) (c : Nat) (e : cl s k = c) (w : World) :
    Calls Try.prog 10 #[.int .u8 s[k].toNat] w fun e w' => e = .returned (.int .i64 c) ∧ w' = w := by
  rw [← e, ← cl_at h]; exact of_any _ _
theorem class_at (s : ByteArray) (k : Nat) (h : k < s.size) (c : Nat) (e : cl s k = c) (w : World) :
    Calls Try.prog 11 #[.int .u8 s[k].toNat] w fun e w' => e = .returned (.int .i64 c) ∧ w' = w := by
  rw [← e, ← cl_at h]; exact class_any _ _

set_option maxHeartbeats 1000000 in
theorem isname_any (s : ByteArray) (w : World) (hs : s.size ≤ 1000000) :
    Calls Try.prog 25 #[.string s] w fun e w' => e = .returned (.bool (isNm s)) ∧ w' = w := by
  rw [isNm_name]
  by_cases h0 : s.size = 0
  · have hs0 : s = ⟨#[]⟩ := ByteArray.ext (Array.eq_empty_of_size_eq_zero h0)
    subst hs0
    go_enter Try.func25, Try.ntmps25
    go_wp2
    go_ret
    exact ⟨rfl, rfl⟩
  · have h1 : s.toList ≠ [] := by
      intro h
      rw [Go.ByteArray.toList_eq] at h
      exact h0 (by have := congrArg List.length h; simpa using this)
    have h2 : (!s.toList.isEmpty) = true := by simpa using h1
    have h3 : s.toList.isEmpty = false := by simpa using h1
    have hv : atV s 0 (nameN s) = (nameN s 0 : Nat) := by unfold atV; rw [if_pos ⟨by omega, by omega⟩]; rfl
    have HV := Lib.hid hv
    clear hv h0 h1
    go_enter Try.func25, Try.ntmps25
    go_wp2_with fail
    refine (name_any s 0 _ hs).mono ?_
    rintro e w' ⟨rfl, rfl⟩
    rw [HV.out]
    go_wp2
    go_ret
    refine ⟨ret_bool ?_, rfl⟩
    rw [Bool.eq_iff_iff, decide_eq_true_iff, beq_iff_eq]
    constructor
    · intro h
      refine ⟨fun h0 => ?_, by omega⟩
      rw [Go.ByteArray.toList_eq] at h3
      have : s.data.toList.length = 0 := by simpa using h0
      rw [List.length_eq_zero_iff.1 this] at h3
      cases h3
    · rintro ⟨_, h⟩
      omega

def NmRel (s : ByteArray) (w : World) (v : Value) (wr : World) : Prop := ∃ k : Nat, 1 ≤ k ∧ k ≤ s.size ∧ v = .int .i64 k ∧ (∀ i, i < k → mayN (cl s i) i = true) ∧ wr = w
set_option maxHeartbeats 2000000 in
theorem refisname_any (s : ByteArray) (w : World) (hs : s.size ≤ 1000000) :
    Calls Try.prog 26 #[.string s] w fun e w' => e = .returned (.bool (isNm s)) ∧ w' = w := by
  by_cases h0 : s.size = 0
  · have hz : ((s.size : Int) == 0) = true := beq_iff_eq.2 (by omega)
    have hz2 : (s.size == 0) = true := beq_iff_eq.2 h0
    have H0 := Lib.hid h0
    clear h0
    go_enter Try.func26, Try.ntmps26
    go_wp2
    go_ret
    exact ⟨ret_bool (by unfold isNm; symm; rw [decide_eq_false_iff_not]; exact fun h => h.1 H0.out), rfl⟩
  · have hp : 0 < s.size := by omega
    have hp2 : (0 : Int) < s.size := by omega
    have hz : ((s.size : Int) == 0) = false := beq_eq_false_iff_ne.2 (by omega)
    have hz2 : (s.size == 0) = false := beq_eq_false_iff_ne.2 h0
    obtain ⟨c, hc⟩ : ∃ c, cl s 0 = c := ⟨_, rfl⟩
    have HC := Lib.hid hc
    by_cases h5 : c = 5
    · subst h5
      clear hc h0
      go_enter Try.func26, Try.ntmps26
      go_wp2_with fail
      refine (class_at s 0 hp 5 HC.out _).mono ?_
      rintro e w' ⟨rfl, rfl⟩
      go_wp2
      go_loopw [3] (fun v wr => NmRel s w' v wr) (fun v _ => s.size - (intOf v).toNat)
      case atStart => exact ⟨1, Nat.le_refl _, hp, rfl, fun i h => by obtain rfl : i = 0 := by omega
                                                                      rw [HC.out]; rfl, rfl⟩
      case round =>
        obtain ⟨k, hk1, hk, rfl, hn, rfl⟩ := hrel
        have HN := Lib.hid hn
        clear hn
        by_cases hlt : (k : Int) < s.size
        · have hlt' : k < s.size := by omega
          obtain ⟨d, hd⟩ : ∃ d, cl s k = d := ⟨_, rfl⟩
          have HD := Lib.hid hd
          clear hd
          by_cases g : d = 5 ∨ d = 6
          · rcases g with rfl | rfl
            · go_wp2_with fail
              refine (class_at s k hlt' 5 HD.out _).mono ?_
              rintro e w2 ⟨rfl, rfl⟩
              go_wp2
              go_roundw
              case rel =>
                refine ⟨k + 1, by omega, by omega, by go_num, fun i hi => ?_, rfl⟩
                by_cases g : i = k
                · rw [g, HD.out]; rfl
                · exact HN.out i (by omega)
              case measure => simp [intOf]; omega
            · go_wp2_with fail
              refine (class_at s k hlt' 6 HD.out _).mono ?_
              rintro e w2 ⟨rfl, rfl⟩
              go_wp2_with fail
              refine (class_at s k hlt' 6 HD.out _).mono ?_
              rintro e w2 ⟨rfl, rfl⟩
              go_wp2
              go_roundw
              case rel =>
                refine ⟨k + 1, by omega, by omega, by go_num, fun i hi => ?_, rfl⟩
                by_cases g : i = k
                · rw [g, HD.out]; unfold mayN; rw [decide_eq_true_iff]; omega
                · exact HN.out i (by omega)
              case measure => simp [intOf]; omega
          · have g5 : ((d : Int) == 5) = false := by simp; omega
            have g6 : ((d : Int) == 6) = false := by simp; omega
            have n5 : ((d : Int) != 5) = true := by simp; omega
            have n6 : ((d : Int) != 6) = true := by simp; omega
            go_wp2_with fail
            refine (class_at s k hlt' d HD.out _).mono ?_
            rintro e w2 ⟨rfl, rfl⟩
            go_wp2_with fail
            refine (class_at s k hlt' d HD.out _).mono ?_
            rintro e w2 ⟨rfl, rfl⟩
            go_wp2
            go_ret
            refine ⟨ret_bool ?_, rfl⟩
            unfold isNm
            symm
            rw [decide_eq_false_iff_not]
            rintro ⟨_, h2⟩
            have := h2 k hlt'
            rw [HD.out] at this
            unfold mayN at this
            rw [decide_eq_true_iff] at this
            omega
        · obtain rfl : k = s.size := by omega
          go_wp2
          go_ret
          refine ⟨ret_bool ?_, rfl⟩
          unfold isNm
          symm
          rw [decide_eq_true_iff]
          exact ⟨by omega, HN.out⟩
    · have g5 : ((c : Int) == 5) = false := by simp; omega
      have n5 : ((c : Int) != 5) = true := by simp; omega
      clear hc h0
      go_enter Try.func26, Try.ntmps26
      go_wp2_with fail
      refine (class_at s 0 hp c HC.out _).mono ?_
      rintro e w' ⟨rfl, rfl⟩
      go_wp2
      go_ret
      refine ⟨ret_bool ?_, rfl⟩
      unfold isNm
      symm
      rw [decide_eq_false_iff_not]
      rintro ⟨_, h2⟩
      have := h2 0 hp
      rw [HC.out] at this
      unfold mayN at this
      rw [decide_eq_true_iff] at this
      omega

def AlRel (s : ByteArray) (d : Nat) (w : World) (v : Value) (wr : World) : Prop := ∃ k : Nat, k ≤ s.size ∧ v = .int .i64 k ∧ (∀ i, i < k → cl s i = d) ∧ wr = w
set_option maxHeartbeats 1000000 in
theorem all_any (s : ByteArray) (d : Nat) (w : World) (hs : s.size ≤ 1000000) :
    Calls Try.prog 30 #[.string s, .int .i64 d] w fun e w' => e = .returned (.bool (allB s d)) ∧ w' = w := by
  go_enter Try.func30, Try.ntmps30
  go_wp2
  go_loopw [5] (fun v wr => AlRel s d w v wr) (fun v _ => s.size - (intOf v).toNat)
  case atStart => exact ⟨0, Nat.zero_le _, rfl, fun i h => by omega, rfl⟩
  case round =>
    obtain ⟨k, hk, rfl, hn, rfl⟩ := hrel
    have HN := Lib.hid hn
    clear hn
    by_cases hlt : (k : Int) < s.size
    · have hlt' : k < s.size := by omega
      obtain ⟨x, hx⟩ : ∃ x, cl s k = x := ⟨_, rfl⟩
      have HX := Lib.hid hx
      clear hx
      by_cases g : x = d
      · subst g
        go_wp2_with fail
        refine (class_at s k hlt' x HX.out _).mono ?_
        rintro e w2 ⟨rfl, rfl⟩
        go_wp2
        go_roundw
        case rel =>
          refine ⟨k + 1, by omega, by go_num, fun i hi => ?_, rfl⟩
          by_cases g : i = k
          · rw [g, HX.out]
          · exact HN.out i (by omega)
        case measure => simp [intOf]; omega
      · have g1 : ((x : Int) == (d : Int)) = false := by simp; omega
        have g2 : ((x : Int) != (d : Int)) = true := by simp; omega
        have g3 : (x == d) = false := by simp; omega
        have g4 : (x != d) = true := by simp; omega
        go_wp2_with fail
        refine (class_at s k hlt' x HX.out _).mono ?_
        rintro e w2 ⟨rfl, rfl⟩
        go_wp2
        go_ret
        refine ⟨ret_bool ?_, rfl⟩
        unfold allB
        symm
        rw [decide_eq_false_iff_not]
        intro h2
        have := h2 k hlt'
        rw [HX.out] at this
        exact g this
    · obtain rfl : k = s.size := by omega
      go_wp2
      go_ret
      refine ⟨ret_bool ?_, rfl⟩
      unfold allB
      symm
      rw [decide_eq_true_iff]
      exact HN.out
end Go.Proofs.Ytnpkmbppfeahkaa

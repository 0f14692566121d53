/- What At of layer 5 (oper) and the document's own At return: the longest operator at a place. Condition: texts of at most a million bytes; the program's table lies as start-up lays it. -/
import Derived.Test.YtlfmpjneopeadaaDoorOpB
namespace Go.Proofs.YtlfmpjneopeadaaDoor
open Go.RowKit
set_option linter.unusedVariables false

def OuRel (s : ByteArray) (k z : Nat) (w : World) (v4 v : Value) (wr : World) : Prop :=
  ∃ n : Nat, v4 = .int .i64 0 ∧ n ≤ 3 ∧ n ≤ z ∧ v = .int .i64 n ∧ (∀ i ∈ ops, n < (txt i).size → ¬ fits s k (txt i)) ∧ Drew w wr
def InRel (x : ByteArray) (w : World) (v4 v : Value) (wr : World) : Prop :=
  ∃ j : Nat, v4 = .int .i64 0 ∧ j ≤ 18 ∧ v = .int .i64 j ∧ (∀ i, i < j → x ≠ txt i) ∧ Drew w wr

set_option maxRecDepth 100000 in
set_option maxHeartbeats 2000000 in
theorem at_in (s : ByteArray) (k : Nat) (w : World) (hs : s.size ≤ 1000000) (hT : Tx w) (hk : k < s.size) :
    Calls Tryd.prog 9 #[.string s, .int .i64 k] w fun e w' => e = .returned (.tuple #[.int .i64 (opN s k : Nat), .int .i64 ((txt (opN s k)).size : Nat)]) ∧ Drew w w' := by
  have hd : decide ((k : Int) < 0) = false := decide_eq_false_iff_not.2 (by omega)
  have hd2 : decide ((s.size : Int) ≤ k) = false := decide_eq_false_iff_not.2 (by omega)
  have hd3 : decide (s.size ≤ k) = false := decide_eq_false_iff_not.2 (by omega)
  have hi : (k : Int) ≤ s.size := by omega
  obtain ⟨x, hx⟩ : ∃ x, s.extract k s.size = x := ⟨_, rfl⟩
  obtain ⟨z, hz⟩ : ∃ z, x.size = z := ⟨_, rfl⟩
  have hz2 : z = s.size - k := by rw [← hz, ← hx]; simp
  obtain ⟨m, hm⟩ : ∃ m : Nat, (if (z : Int) < 3 then (z : Int) else 3) = (m : Int) := ⟨min 3 z, by split <;> omega⟩
  have hm3 : m ≤ 3 ∧ m ≤ z ∧ (m = 3 ∨ m = z) := by split at hm <;> omega
  obtain ⟨hm3, hmz, hmo⟩ := hm3
  have HM := Lib.hid hm
  have HZ2 := Lib.hid hz2
  have HX := Lib.hid hx
  clear hz2
  go_enter Tryd.func9, Tryd.ntmps9
  go_wp2
  go_step3
  go_wp2
  go_step3
  go_wp2
  go_loopw [4, 5] (fun v4 v5 wr => OuRel s k z w v4 v5 wr) (fun _ v _ => (intOf v).toNat)
  case atStart =>
    refine ⟨m, rfl, hm3, hmz, rfl, fun i hi hlt hf => ?_, Drew.refl _⟩
    have h1 := txt_le i
    have h2 := hf.1
    have h3 := HZ2.out
    omega
  case round =>
    obtain ⟨n, rfl, hn3, hnz, rfl, hno, hdr⟩ := hrel
    have HNO := Lib.hid hno
    clear hno
    rcases Nat.eq_zero_or_pos n with rfl | hpos
    · go_wp2
      rw [Exit.noGoto_ret]
      go_ret2
      have h0 : opN s k = 0 := opN_none HNO.out
      refine ⟨?_, hdr⟩
      rw [h0]
      rfl
    · have hp : decide ((0 : Int) < n) = true := decide_eq_true_iff.2 (by omega)
      have hp2 : decide (0 < n) = true := decide_eq_true_iff.2 (by omega)
      have hkn : k + n ≤ s.size := by have := HZ2.out; omega
      go_wp2
      go_loopw [4, 26] (fun v4 v wq => InRel (x.extract 0 n) w v4 v wq) (fun _ v _ => 18 - (intOf v).toNat)
      case atStart => exact ⟨0, rfl, by omega, rfl, fun i hi => absurd hi (by omega), hdr⟩
      case round =>
        obtain ⟨j, rfl, hj, rfl, hne, hdr2⟩ := hrel
        have HNE := Lib.hid hne
        clear hne
        by_cases hlt : j < 18
        · have hc := (hT.d hdr2).2 j hlt
          by_cases e : txt j = x.extract 0 n
          · have t1 : ((txt j).toList == (x.extract 0 n).toList) = true := by rw [bs_eqb]; exact decide_eq_true_iff.2 e
            have HE := Lib.hid e
            clear e
            go_wp2
            go_quiet (fail)
            go_wp2
            rw [Exit.noGoto_ret]
            go_ret2
            have hj0 : 1 ≤ j := by
              refine Nat.pos_of_ne_zero fun g => ?_
              have h1 := ((rest_eq (d := txt j) hkn).1 (by rw [HX.out]; exact HE.out.symm)).1
              rw [g] at h1
              have : (txt 0).size = 0 := rfl
              omega
            have hm : j ∈ ops := mem_ops.2 ⟨hj0, by omega⟩
            have hf := (rest_eq (d := txt j) hkn).1 (by rw [HX.out]; exact HE.out.symm)
            have h0 : opN s k = j := opN_found hm hf.1 hf.2 HNO.out
            refine ⟨?_, hdr2.drewN _⟩
            rw [h0, hf.1]
            rfl
          · have t1 : ((txt j).toList == (x.extract 0 n).toList) = false := by rw [bs_eqb]; exact decide_eq_false_iff_not.2 e
            have HE := Lib.hid e
            clear e
            go_wp2
            go_quiet (fail)
            go_wp2
            go_roundw
            case rel =>
              refine ⟨j + 1, rfl, by omega, by go_num, fun i hi => ?_, hdr2.drewN _⟩
              by_cases g : i = j
              · rw [g]; exact fun h => HE.out h.symm
              · exact HNE.out i (by omega)
            case measure => simp [intOf]; omega
        · obtain rfl : j = 18 := by omega
          go_wp2
          go_roundw
          case rel =>
            refine ⟨n - 1, rfl, by omega, by omega, by first | rfl | (congr 1; omega) | (simp; omega), fun i hi hlt hf => ?_, hdr2⟩
            by_cases g : n < (txt i).size
            · exact HNO.out i hi g hf
            · refine HNE.out i (by have := (mem_ops.1 hi).2; omega) ?_
              rw [← HX.out]
              exact (rest_eq hkn).2 ⟨by omega, hf⟩
          case measure => simp [intOf]; omega

/-- The operator at a place; 0: none stands there, or the place is outside. -/
def atO (s : ByteArray) (a : Int) : Nat := if 0 ≤ a ∧ a < s.size then opN s a.toNat else 0
theorem atO_in {s : ByteArray} {k : Nat} (h : k < s.size) : atO s k = opN s k := by
  unfold atO
  rw [if_pos ⟨by omega, by omega⟩, Int.toNat_natCast]
set_option maxRecDepth 100000 in
theorem at_any (s : ByteArray) (a : Int) (w : World) (hs : s.size ≤ 1000000) (hT : Tx w) :
    Calls Tryd.prog 9 #[.string s, .int .i64 a] w fun e w' => e = .returned (.tuple #[.int .i64 (atO s a : Nat), .int .i64 ((txt (atO s a)).size : Nat)]) ∧ Drew w w' := by
  by_cases h : 0 ≤ a ∧ a < s.size
  · obtain ⟨k, rfl⟩ := Int.eq_ofNat_of_zero_le h.1
    rw [atO_in (by omega)]
    exact at_in s k w hs hT (by omega)
  · have h0 : atO s a = 0 := by unfold atO; rw [if_neg h]
    rw [h0]
    clear h0
    by_cases g : a < 0
    · have hd : decide (a < 0) = true := by simpa using g
      clear h
      go_enter Tryd.func9, Tryd.ntmps9
      go_wp2
      go_step3
      go_wp2
      rw [Exit.noGoto_ret]
      go_ret2
      exact ⟨rfl, Drew.refl _⟩
    · have h2 : (s.size : Int) ≤ a := by omega
      have hd : decide (a < 0) = false := by simpa using g
      have hd2 : decide ((s.size : Int) ≤ a) = true := by simpa using h2
      clear h
      go_enter Tryd.func9, Tryd.ntmps9
      go_wp2
      go_step3
      go_wp2
      rw [Exit.noGoto_ret]
      go_ret2
      exact ⟨rfl, Drew.refl _⟩
end Go.Proofs.YtlfmpjneopeadaaDoor

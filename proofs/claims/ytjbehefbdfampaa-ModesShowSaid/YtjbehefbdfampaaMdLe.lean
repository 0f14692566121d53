/- What layer 6's statement ModesShow does. Condition: the frames lie in memory, or there are more than a hundred. -/
import Derived.Test.YtjbehefbdfampaaMdS
namespace Go.Proofs.Ytjbehefbdfampaa
open Go.RowKit
set_option linter.unusedVariables false

set_option maxHeartbeats 2000000 in
theorem show_large (ao : Option Addr) (len cap : Nat) (w : World) (hl : 100 < len) :
    Calls Try.prog 7 #[.slice ao len cap] w fun e w' => e = .returned (.bool true) ∧ Below w.heap.size w w' := by
  have t1 : decide ((100 : Int) < len) = true := decide_eq_true_iff.2 (by omega)
  go_enter Try.func7, Try.ntmps7
  go_wp2_with fail
  refine (awake_any _).mono ?_
  rintro e w1 ⟨rfl, hb1⟩
  go_wp2
  go_ret
  exact ⟨rfl, hb1⟩
set_option maxRecDepth 100000 in
set_option maxHeartbeats 4000000 in
theorem show_row (ao : Option Addr) (len cap : Nat) (fv : Nat → Int × Int) (w : World) (hl : len ≤ 100) (hrow : FrAt w ao len fv) :
    Calls Try.prog 7 #[.slice ao len cap] w fun e w' => e = .returned (.bool true) ∧ Below w.heap.size w w' := by
  have t1 : decide ((100 : Int) < len) = false := decide_eq_false_iff_not.2 (by omega)
  have HROW := Lib.hid hrow
  clear hrow
  have hTs := showA_size fv len
  have hTb : ∀ i, i < len → bt (showA fv len) i = showB (fv i).1 := fun i hi => showA_bt fv hi
  have hsh := fun W (h : Below w.heap.size w W) => show_any ao len cap fv W (by omega) (HROW.out.below h)
  obtain ⟨T, hT⟩ : ∃ T, showA fv len = T := ⟨_, rfl⟩
  rw [hT] at hTs hTb
  simp only [hT] at hsh
  have HTB := Lib.hid hTb
  clear hT hTb
  have hTs2 : (T.size : Int) = (len : Int) := by omega
  have HTS := Lib.hid hTs
  clear hTs
  go_enter Try.func7, Try.ntmps7
  go_wp2_with fail
  refine (awake_any _).mono ?_
  rintro e w1 ⟨rfl, hb1⟩
  go_wp2_with fail
  refine (hsh _ hb1).mono ?_
  rintro e w2 ⟨rfl, hb2⟩
  have hB : Below w.heap.size w w2 := hb1.trans (hb2.mono hb1.size)
  go_wp2
  clear hTs2 hsh t1
  go_loopw [4, 5] (fun v _ wr => ∃ i : Nat, v = .int .i64 i ∧ i ≤ len ∧ wr = w2) (fun v _ _ => len - (intOf v).toNat)
  case atStart => exact ⟨0, rfl, Nat.zero_le _, rfl⟩
  case round =>
    obtain ⟨i, rfl, hi, rfl⟩ := hrel
    by_cases hlt : i < len
    · have hlt2 : (i : Int) < len := by omega
      have hTi : i < T.size := by rw [HTS.out]; exact hlt
      have hTi2 : (i : Int) < T.size := by omega
      have q0 : (0 : Int) ≤ (i : Int) := by omega
      obtain ⟨b, off, rfl, hb, hc1, hc2⟩ := (HROW.out.below hB) i hlt
      have hbt := HTB.out i hlt
      rw [bt_eq hTi] at hbt
      obtain ⟨m, hm⟩ : ∃ m, (fv i).1 = m := ⟨_, rfl⟩
      rw [hm] at hc1 hbt
      clear hm hc2
      by_cases h0 : m < 0 ∨ 15 ≤ m
      · rw [showB_out h0] at hbt
        have hby : (T[i].toNat : Int) = 63 := by rw [hbt]; rfl
        have key : (decide (0 ≤ m) = false) ∨ (decide (0 ≤ m) = true ∧ decide (m ≤ 14) = false) := by
          rcases h0 with h | h
          · exact .inl (decide_eq_false_iff_not.2 (by omega))
          · exact .inr ⟨decide_eq_true_iff.2 (by omega), decide_eq_false_iff_not.2 (by omega)⟩
        clear h0 hbt
        rcases key with k1 | ⟨k1, k2⟩
        all_goals
          go_wp2
          go_roundw
          case rel => exact ⟨i + 1, by go_num, by omega, trivial⟩
          case measure => simp [intOf]; omega
      · obtain ⟨k, rfl⟩ : ∃ k : Nat, m = k := ⟨m.toNat, by omega⟩
        have hk : k < lettersB.size := by show k < 15; omega
        rw [showB_in (by omega), bt_eq hk] at hbt
        have t3 : ((T[i].toNat : Int) == (lettersB[k].toNat : Int)) = true := by rw [hbt]; simp
        have k1 : decide (0 ≤ (k : Int)) = true := decide_eq_true_iff.2 (by omega)
        have k2 : decide ((k : Int) ≤ 14) = true := decide_eq_true_iff.2 (by omega)
        have k3 : (k : Int) < 15 := by omega
        clear h0 hbt
        unfold lettersB at t3 hk
        go_wp2
        go_roundw
        case rel => exact ⟨i + 1, by go_num, by omega, trivial⟩
        case measure => simp [intOf]; omega
    · obtain rfl : i = len := by omega
      go_wp2
      go_ret
      exact ⟨rfl, hB⟩
end Go.Proofs.Ytjbehefbdfampaa

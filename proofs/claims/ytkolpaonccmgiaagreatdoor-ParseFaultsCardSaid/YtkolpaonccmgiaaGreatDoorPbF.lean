/- The law ParseFaults of layer 13 (parse). Condition -/
import Derived.Test.YtkolpaonccmgiaaGreatDoorPbE
namespace Go.Proofs.YtkolpaonccmgiaaGreatDoor.Q
set_option linter.unusedSectionVars false
set_option linter.unusedVariables false
open Go.RowKit
set_option linter.unusedVariables false

def FaRl (nv : Nat → Nd) (len : Nat) (w2 : World) (v4 v5 : Value) (wr : World) : Prop :=
  ∃ k : Nat, k ≤ len ∧ v4 = .int .i64 ((selN (fltB nv) k).length : Int) ∧ v5 = .int .i64 (k : Int) ∧ wr = w2
section
variable (w : World)
set_option maxRecDepth 100000 in
set_option maxHeartbeats 4000000 in
theorem faults_law (hT : Tx w) (ao : Option Addr) (len cap : Nat) (nv : Nat → Nd) (hrow : NRow w ao len nv) :
    Calls Tryz.prog 7 #[.slice ao len cap] w fun e w' => e = .returned (.bool true) ∧ Below w.heap.size w w' := by
  have HA := Lib.hid (awakeP_any w hT)
  have HROW := Lib.hid hrow
  clear hT hrow
  by_cases hl : len ≤ 100
  · have t1 : ¬ (100 : Int) < (len : Int) := by omega
    have HF := Lib.hid (fun W (h : Below w.heap.size w W) => faults_any W ao len cap nv (HROW.out.below h) (by omega))
    have HC := Lib.hid (fun W (h : Below w.heap.size w W) => clean_any W ao len cap nv (HROW.out.below h) (by omega))
    go_enter Tryz.func7, Tryz.ntmps7
    go_wp2_with fail
    refine HA.out.mono ?_
    rintro e w1 ⟨rfl, hb1⟩
    have HB1 := Lib.hid hb1
    clear hb1
    go_wp2_with fail
    refine (HF.out _ HB1.out).mono ?_
    rintro e w2 ⟨v, rfl, hO2, hb2⟩
    obtain ⟨oa, oc, rfl, hR2⟩ := owns_rdo hO2
    have HB2 := Lib.hid (HB1.out.trans (hb2.mono HB1.out.size))
    have HR2 := Lib.hid hR2
    obtain ⟨z, hz⟩ : ∃ z, (selN (fltB nv) len).length = z := ⟨_, rfl⟩
    rw [hz] at HR2 ⊢
    have HZ := Lib.hid hz
    have hzl : z ≤ len := by rw [← hz]; exact selN_len _ _
    clear hO2 hb2 hR2 hz
    go_wp2
    go_loopw [4, 5] (fun v4 v5 wr => FaRl nv len w2 v4 v5 wr) (fun _ v5 _ => len - (intOf v5).toNat)
    case atStart => exact ⟨0, Nat.zero_le _, rfl, rfl, rfl⟩
    case round =>
      obtain ⟨k, hk, rfl, rfl, rfl⟩ := hrel
      by_cases hlt : k < len
      · obtain ⟨b, off, hao, hbw, c0, c1, c2, c3⟩ := (HROW.out.below HB2.out) k hlt
        subst hao
        obtain ⟨pk, hpk⟩ : ∃ pk, (nv k).k = pk := ⟨_, rfl⟩
        rw [hpk] at c0
        have hfb : fltB nv k = (decide (pk = 17) || decide (pk = 18)) := by unfold fltB; rw [hpk]
        have q0 : (0 : Int) ≤ (k : Int) := by omega
        have q1 : (k : Int) < (len : Int) := by omega
        have e1 : IntKind.i64.wrap ((k : Int) + 1) = ((k + 1 : Nat) : Int) := by rw [IntWalk.i64_in _ (by omega)]; rfl
        have hss := selN_succ (fltB nv) k
        obtain ⟨m, hm⟩ : ∃ m, (selN (fltB nv) k).length = m := ⟨_, rfl⟩
        rw [hm]
        have hml : m ≤ k := by rw [← hm]; exact selN_len _ _
        by_cases hf : fltB nv k = true
        · have hat := selN_at hf hlt
          rw [hm] at hat
          obtain ⟨ob, ho1, ho2, ho3⟩ := HR2.out.cells m k hat
          have hmz : m < z := by rw [← HZ.out]; exact (List.getElem?_eq_some_iff.1 hat).1
          subst ho1
          rw [if_pos hf] at hss
          have HSS := Lib.hid hss
          have HM := Lib.hid hm
          have s0 : (0 : Int) ≤ (m : Int) := by omega
          have s1 : (m : Int) < (z : Int) := by omega
          have s2 : ¬ (z : Int) ≤ (m : Int) := by omega
          have s3 : decide (z ≤ m) = false := by simp; omega
          have e2 : IntKind.i64.wrap ((m : Int) + 1) = ((m + 1 : Nat) : Int) := by rw [IntWalk.i64_in _ (by omega)]; rfl
          have h1718 : pk = 17 ∨ pk = 18 := by
            rw [hfb] at hf
            simpa using hf
          clear hss hm hat hf hfb hpk c1 c2 c3
          rcases h1718 with rfl | rfl
          · go_wp2
            go_roundw
            case rel => exact ⟨k + 1, by omega, by rw [HSS.out, List.length_append, HM.out]; rfl, rfl, rfl⟩
            case measure => simp [intOf]; omega
          · go_wp2
            go_roundw
            case rel => exact ⟨k + 1, by omega, by rw [HSS.out, List.length_append, HM.out]; rfl, rfl, rfl⟩
            case measure => simp [intOf]; omega
        · have hf' : fltB nv k = false := by simpa using hf
          rw [if_neg hf, List.append_nil] at hss
          have h17 : ¬ pk = 17 := by rintro rfl; rw [hfb] at hf'; cases hf'
          have h18 : ¬ pk = 18 := by rintro rfl; rw [hfb] at hf'; simp at hf'
          have u1 : (pk != 17) = true := by simpa using h17
          have u2 : (pk != 18) = true := by simpa using h18
          have HSS := Lib.hid hss
          have HM := Lib.hid hm
          clear hss hm hf hf' hfb hpk c1 c2 c3 h17 h18
          go_wp2
          go_roundw
          case rel => exact ⟨k + 1, by omega, by rw [HSS.out, HM.out], rfl, rfl⟩
          case measure => simp [intOf]; omega
      · obtain rfl : k = len := by omega
        rw [HZ.out]
        have hc := HC.out _ HB2.out
        have hd : decide (selN (fltB nv) k = []) = (decide (z = 0)) := by
          rw [Bool.eq_iff_iff, decide_eq_true_iff, decide_eq_true_iff, ← HZ.out]
          exact List.length_eq_zero_iff.symm
        rw [hd] at hc
        have HCC := Lib.hid hc
        clear hc hd
        by_cases hz0 : z = 0
        · subst hz0
          go_wp2_with fail
          refine HCC.out.mono ?_
          rintro e w3 ⟨rfl, hb3⟩
          have HB3 := Lib.hid (HB2.out.trans (hb3.mono HB2.out.size))
          clear hb3
          go_wp2
          go_ret
          exact ⟨rfl, HB3.out⟩
        · have y1 : decide (z = 0) = false := decide_eq_false hz0
          have y2 : ((z : Int) == 0) = false := by simpa using hz0
          rw [y1] at HCC
          go_wp2_with fail
          refine HCC.out.mono ?_
          rintro e w3 ⟨rfl, hb3⟩
          have HB3 := Lib.hid (HB2.out.trans (hb3.mono HB2.out.size))
          clear hb3
          go_wp2
          go_ret
          exact ⟨rfl, HB3.out⟩
  · have t1 : (100 : Int) < (len : Int) := by omega
    go_enter Tryz.func7, Tryz.ntmps7
    go_wp2_with fail
    refine HA.out.mono ?_
    rintro e w1 ⟨rfl, hb1⟩
    have HB1 := Lib.hid hb1
    clear hb1
    go_wp2
    go_ret
    exact ⟨rfl, HB1.out⟩
end
end Go.Proofs.YtkolpaonccmgiaaGreatDoor.Q

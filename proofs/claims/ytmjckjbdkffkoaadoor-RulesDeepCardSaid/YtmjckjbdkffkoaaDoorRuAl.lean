/- What Deep of the document's answer to layer 12 (rules), and the law RulesDeep, return. Condition: the program's tables lie as start-up lays them. -/
import Derived.Test.YtmjckjbdkffkoaaDoorRuAk
import Derived.Test.YtmjckjbdkffkoaaDoorRuAg
import Derived.Test.YtmjckjbdkffkoaaDoorTrB
namespace Go.Proofs.YtmjckjbdkffkoaaDoor
open Go.RowKit
set_option linter.unusedVariables false

section
variable (w : World)
set_option maxHeartbeats 1000000 in
theorem nests_any (k : Int) (W : World) :
    Calls Tryd.prog 49 #[.int .i64 k] W fun r w' => r = .returned (.bool (nst k)) ∧ w' = W := by
  by_cases h8 : k ≤ 8
  · have e : nst k = false := decide_eq_false (by omega)
    rw [e]
    have d1 : decide (9 ≤ k) = false := decide_eq_false (by omega)
    have d2 : ¬ 9 ≤ k := by omega
    have d3 : (k == 16) = false := by simp; omega
    clear h8 e
    go_enter Tryd.func49, Tryd.ntmps49
    go_wp2
    go_ret
    exact ⟨rfl, rfl⟩
  have d1 : decide (9 ≤ k) = true := decide_eq_true (by omega)
  have d2 : 9 ≤ k := by omega
  by_cases h14 : k ≤ 14
  · have e : nst k = true := decide_eq_true (by omega)
    rw [e]
    have d3 : decide (k ≤ 14) = true := decide_eq_true h14
    clear h8 e
    go_enter Tryd.func49, Tryd.ntmps49
    go_wp2
    go_ret
    exact ⟨rfl, rfl⟩
  have d3 : decide (k ≤ 14) = false := decide_eq_false h14
  by_cases h16 : k = 16
  · subst h16
    have e : nst 16 = true := by decide
    rw [e]
    go_enter Tryd.func49, Tryd.ntmps49
    go_wp2
    go_ret
    exact ⟨rfl, rfl⟩
  · have e : nst k = false := decide_eq_false (by omega)
    rw [e]
    have d4 : (k == 16) = false := by simpa using h16
    clear h8 e
    go_enter Tryd.func49, Tryd.ntmps49
    go_wp2
    go_ret
    exact ⟨rfl, rfl⟩
set_option maxRecDepth 100000 in
set_option maxHeartbeats 2000000 in
theorem refdeep_any (ao : Option Addr) (n cap : Nat) (nv : Nat → Nd) (hrow : NRow w ao n nv) (hs : Sp nv n) (i : Nat) (hi : i < n) (hn : n ≤ 10000) :
    Calls Tryd.prog 30 #[.slice ao n cap, .int .i64 (i : Int)] w fun e w' => e = .returned (.int .i64 (dcnt nv i (chn nv i) : Nat)) ∧ w' = w := by
  have HAB := Lib.hid (fun (k : Nat) => above_any w ao n cap n nv hrow hs (Nat.le_refl _) (k : Int) i hi (decide (k ∈ chn nv i)) (by
    rw [decide_eq_true_iff, mem_chn]
    constructor
    · intro h; exact ⟨k, rfl, h⟩
    · rintro ⟨y, hy, h⟩
      obtain rfl : y = k := by omega
      exact h) (by omega))
  have HROW := Lib.hid hrow
  have HLEN := Lib.hid (chn_len hs i hi)
  have HST := Lib.hid (fun k => lcnt_step nv k (chn nv i) (chn_nodup hs i hi))
  have HLE := Lib.hid (fun k => lcnt_le nv k (chn nv i))
  have HEN := Lib.hid (lcnt_end nv i)
  have HZ := Lib.hid (lcnt_zero nv (chn nv i))
  clear hrow hs
  go_enter Tryd.func30, Tryd.ntmps30
  go_wp2
  go_loopw [5, 6] (fun v5 v6 wr => ∃ k : Nat, k ≤ i ∧ v6 = .int .i64 (k : Int) ∧ v5 = .int .i64 (lcnt nv k (chn nv i) : Nat) ∧ wr = w) (fun _ v6 _ => i - (intOf v6).toNat)
  case atStart => exact ⟨0, by omega, rfl, by rw [HZ.out]; rfl, rfl⟩
  case round =>
    obtain ⟨k, hk, rfl, rfl, rfl⟩ := hrel
    by_cases hlt : k < i
    · have hp : (k : Int) < (i : Int) := by omega
      obtain ⟨b, off, rfl, hbl, k0, k1, k2, k3⟩ := HROW.out k (by omega)
      have p0 : (0 : Int) ≤ (k : Int) := by omega
      have p1 : (k : Int) < (n : Int) := by omega
      have hnx := HST.out k
      have hdl := HLE.out k
      obtain ⟨d, hd⟩ : ∃ d, lcnt nv k (chn nv i) = d := ⟨_, rfl⟩
      rw [hd] at hnx hdl ⊢
      have hd5 : d ≤ 10001 := by have := HLEN.out; omega
      have e1 : IntKind.i64.wrap ((k : Int) + 1) = (k : Int) + 1 := IntWalk.i64_in _ (by omega)
      have e2 : IntKind.i64.wrap ((d : Int) + 1) = (d : Int) + 1 := IntWalk.i64_in _ (by omega)
      have HAK := Lib.hid (HAB.out k)
      have HNE := Lib.hid (nests_any (nv k).k wr)
      obtain ⟨c, hc⟩ : ∃ c, nst (nv k).k = c := ⟨_, rfl⟩
      obtain ⟨a, ha⟩ : ∃ a, decide (k ∈ chn nv i) = a := ⟨_, rfl⟩
      rw [hc] at HNE hnx
      rw [ha] at HAK hnx
      have HNX := Lib.hid hnx
      clear hnx hdl hd hc ha k1 k2 k3
      go_wp2_with fail
      refine HNE.out.mono ?_
      rintro e w2 ⟨rfl, rfl⟩
      cases c
      · go_wp2
        refine ⟨⟨k + 1, by omega, by rw [show ((k + 1 : Nat) : Int) = (k : Int) + 1 from by omega], ?_, by first | rfl | trivial⟩, by simp [intOf]; omega⟩
        rw [HNX.out]
        rfl
      · go_wp2_with fail
        refine HAK.out.mono ?_
        rintro e w3 ⟨rfl, rfl⟩
        cases a
        · go_wp2
          refine ⟨⟨k + 1, by omega, by rw [show ((k + 1 : Nat) : Int) = (k : Int) + 1 from by omega], ?_, by first | rfl | trivial⟩, by simp [intOf]; omega⟩
          rw [HNX.out]
          rfl
        · go_wp2
          refine ⟨⟨k + 1, by omega, by rw [show ((k + 1 : Nat) : Int) = (k : Int) + 1 from by omega], ?_, by first | rfl | trivial⟩, by simp [intOf]; omega⟩
          rw [HNX.out]
          rfl
    · obtain rfl : k = i := by omega
      have hp : ¬ (k : Int) < (k : Int) := by omega
      rw [HEN.out]
      go_wp2
      go_ret
      exact ⟨rfl, rfl⟩
set_option maxRecDepth 100000 in
set_option maxHeartbeats 2000000 in
theorem rulesDeep_law (ao : Option Addr) (n cap : Nat) (nv : Nat → Nd) (i : Int) (hrow : NRow w ao n nv) (hN : Nm w) (hT : Tx w) :
    Calls Tryd.prog 8 #[.slice ao n cap, .int .i64 i] w fun e w' => e = .returned (.bool true) ∧ Below w.heap.size w w' := by
  have HAW := Lib.hid (awake_any w hN hT)
  have HROW := Lib.hid hrow
  clear hrow hN hT
  by_cases c0 : n = 0
  · subst c0
    have d0 : (((0 : Nat) : Int) == 0) = true := rfl
    go_enter Tryd.func8, Tryd.ntmps8
    go_wp2_with fail
    refine HAW.out.mono ?_
    rintro e w2 ⟨rfl, hb2⟩
    go_wp2
    go_ret
    exact ⟨rfl, hb2⟩
  have d0 : ((n : Int) == 0) = false := by simp; omega
  have d0' : ¬ (n : Int) = 0 := by omega
  by_cases c1 : 60 < n
  · have d1 : decide ((60 : Int) < (n : Int)) = true := decide_eq_true (by omega)
    have d1' : (60 : Int) < (n : Int) := by omega
    clear c1
    go_enter Tryd.func8, Tryd.ntmps8
    go_wp2_with fail
    refine HAW.out.mono ?_
    rintro e w2 ⟨rfl, hb2⟩
    go_wp2
    go_ret
    exact ⟨rfl, hb2⟩
  have d1 : decide ((60 : Int) < (n : Int)) = false := decide_eq_false (by omega)
  have d1' : ¬ (60 : Int) < (n : Int) := by omega
  by_cases c2 : i < 0
  · have d2 : decide (i < 0) = true := decide_eq_true c2
    go_enter Tryd.func8, Tryd.ntmps8
    go_wp2_with fail
    refine HAW.out.mono ?_
    rintro e w2 ⟨rfl, hb2⟩
    go_wp2
    go_ret
    exact ⟨rfl, hb2⟩
  have d2 : decide (i < 0) = false := decide_eq_false c2
  by_cases c3 : (n : Int) ≤ i
  · have d3 : decide ((n : Int) ≤ i) = true := decide_eq_true c3
    go_enter Tryd.func8, Tryd.ntmps8
    go_wp2_with fail
    refine HAW.out.mono ?_
    rintro e w2 ⟨rfl, hb2⟩
    go_wp2
    go_ret
    exact ⟨rfl, hb2⟩
  have d3 : decide ((n : Int) ≤ i) = false := decide_eq_false c3
  obtain ⟨j, rfl⟩ := Int.eq_ofNat_of_zero_le (show 0 ≤ i by omega)
  have hj : j < n := by omega
  have hn60 : n ≤ 60 := by omega
  clear c0 c1
  go_enter Tryd.func8, Tryd.ntmps8
  go_wp2_with fail
  refine HAW.out.mono ?_
  rintro e w2 ⟨rfl, hb2⟩
  have HB2 := Lib.hid hb2
  have hrow2 := HROW.out.below hb2
  have HR2 := Lib.hid hrow2
  have HRT := Lib.hid (refright_any w2 ao n cap nv hrow2 (nv 0).t (by omega))
  obtain ⟨b, off, rfl, hbl, k0, k1, k2, k3⟩ := hrow2 0 (by omega)
  rw [Nat.zero_mul, Nat.add_zero] at k2
  have p0 : (0 : Int) < (n : Int) := by omega
  clear k0 k1 k3 hb2
  go_wp2_with fail
  refine HRT.out.mono ?_
  rintro e w3 ⟨⟨bb, rfl, hbb⟩, hb3⟩
  have HB3 := Lib.hid (HB2.out.trans (hb3.mono HB2.out.size))
  have HR3 := Lib.hid (HR2.out.below hb3)
  clear hb3 k2
  cases bb
  · go_wp2
    go_ret
    exact ⟨rfl, HB3.out⟩
  · have hsp := (hbb.1 rfl).sp
    have HSP := Lib.hid hsp
    clear hbb hsp
    go_wp2_with fail
    refine (deep_any w3 _ n cap nv HR3.out HSP.out j hj (by omega)).mono ?_
    rintro e w4 ⟨rfl, hb4⟩
    have HB4 := Lib.hid (HB3.out.trans (hb4.mono HB3.out.size))
    have HR4 := Lib.hid (HR3.out.below hb4)
    clear hb4
    go_wp2_with fail
    refine (refdeep_any w4 _ n cap nv HR4.out HSP.out j hj (by omega)).mono ?_
    rintro e w5 ⟨rfl, rfl⟩
    go_wp2
    go_ret
    exact ⟨by first | rfl | simp, HB4.out⟩
end
end Go.Proofs.YtmjckjbdkffkoaaDoor

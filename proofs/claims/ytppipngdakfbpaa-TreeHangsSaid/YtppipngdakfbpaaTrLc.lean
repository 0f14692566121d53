/- What layer 11's statement TreeHangs does. No condition but that the nodes can be read. -/
import Derived.Test.YtppipngdakfbpaaTrX
import Derived.Test.YtppipngdakfbpaaTrQ
namespace Go.Proofs.Ytppipngdakfbpaa
open Go.RowKit
set_option linter.unusedVariables false

theorem nl_left {LA LB : List Nd} {n j : Nat} (hn : LA.length = n) (hj : j < n) : nl (LA ++ LB) j = nl LA j := by
  unfold nl
  rw [List.getElem?_append_left (by omega)]
theorem nl_right {LA LB : List Nd} {n j : Nat} (hn : LA.length = n) : nl (LA ++ LB) (n + j) = nl LB j := by
  unfold nl
  rw [List.getElem?_append_right (by omega), show n + j - LA.length = j from by omega]
section
variable (w : World)
set_option maxHeartbeats 1000000 in
theorem clone_zero (oa : Option Addr) (c : Nat) :
    Calls Try.prog 30 #[.slice oa 0 c] w fun e w' => (∃ ob oc, e = .returned (.slice ob 0 oc)) ∧ Below w.heap.size w w' := by
  cases oa with
  | none => exact (clone_none w 0 c).mono fun e w' h => ⟨⟨none, 0, h.1⟩, by rw [h.2]; exact Below.refl _ _⟩
  | some a =>
    have heq := Lib.run_eql_slice_nil (P := Try.prog) w 22 30 (some a) 0 c 0 0 Try.underlying22
    obtain ⟨i0, hi, hz0, hz1, hz2⟩ := info_parts infoN
    have hr : ∀ ty W, (Builtin.append_ #[22, 22] ty #[.slice (some ⟨w.heap.size, 0, none⟩) 0 0, .slice (some a) 0 c]).run Try.prog W = .ok (.slice (some ⟨w.heap.size, 0, none⟩) 0 0) W := fun ty W => by
      simp [Builtin.append_, run_underlying Try.underlying22, sizeOf, typeInfo, hi, Builtin.lenOf, Builtin.firstCells, loadCells, storeCells, loadCellsFrom]
    have HR := Lib.hid hr
    clear hr
    go_enter Try.func30, Try.ntmps30
    go_wp2_with (at_builtin; refine wpl_app_as (by rfl) _ _ 22 22 _ _ _ _ (by rfl) (by rfl) (by rfl) (HR.out _ _) ?_)
    go_ret
    exact ⟨⟨_, _, rfl⟩, (Below.refl _ _).alloc (Nat.le_refl _) _⟩
set_option maxHeartbeats 2000000 in
theorem hang_none (ao bo : Option Addr) (n m ac bc : Nat) (nv : Nat → Nd) (by' : Int) (hA : NRow w ao n nv) (h0 : n = 0 ∨ m = 0) (hn : n ≤ 10000) :
    Calls Try.prog 21 #[.slice ao n ac, .slice bo m bc, .int .i64 by'] w fun e w' => (∃ oa oc, e = .returned (.slice oa n oc) ∧ NRow w' oa n nv) ∧ Below w.heap.size w w' := by
  have hcl : Calls Try.prog 30 #[.slice ao n ac] w fun e w' => (∃ oa oc, e = .returned (.slice oa n oc) ∧ NRow w' oa n nv) ∧ Below w.heap.size w w' := by
    rcases Nat.eq_zero_or_pos n with g | g
    · subst g
      exact (clone_zero w ao ac).mono fun e w' ⟨⟨ob, oc, h⟩, hb⟩ => ⟨⟨ob, oc, h, fun i hi => by omega⟩, hb⟩
    · obtain ⟨b, off, rfl, hb, _⟩ := hA 0 g
      have hs := nrow_src (L := lstf n nv) (cap := ac) (hA.congr (fun j hj => (lstf_nl (f := nv) hj).symm)) (lstf_len _ _).symm (fun h => by omega)
      refine (clone_some w b off n ac (lstf n nv) hs (lstf_len _ _).symm (by omega)).mono fun e w' ⟨⟨oa, oc, h, hO⟩, hb⟩ => ⟨⟨oa, oc, h, ?_⟩, hb⟩
      exact (owns_nrow hO).2.congr (fun j hj => lstf_nl hj)
  have HC := Lib.hid hcl
  clear hcl hA
  by_cases hz : n = 0
  · have t1 : ((n : Int) == 0) = true := by simp; omega
    clear hz h0
    go_enter Try.func21, Try.ntmps21
    go_wp2_with fail
    refine HC.out.mono ?_
    rintro e w2 ⟨⟨oa, oc, rfl, hr⟩, hb⟩
    have HR := Lib.hid hr
    clear hr
    go_wp2
    go_ret
    exact ⟨⟨_, _, rfl, HR.out⟩, hb⟩
  · have t1 : ((n : Int) == 0) = false := by simp; omega
    have t2 : ((m : Int) == 0) = true := by simp; omega
    clear hz h0
    go_enter Try.func21, Try.ntmps21
    go_wp2_with fail
    refine HC.out.mono ?_
    rintro e w2 ⟨⟨oa, oc, rfl, hr⟩, hb⟩
    have HR := Lib.hid hr
    clear hr
    go_wp2
    go_ret
    exact ⟨⟨_, _, rfl, HR.out⟩, hb⟩

def ThR (mv : Nat → Nd) (m : Nat) (w : World) (v32 : Value) (wr : World) : Prop :=
  (∃ k : Nat, v32 = .int .i64 (k : Int) ∧ k ≤ m ∧ ∀ j, j < k → (-2147483648 ≤ (mv j).f ∧ (mv j).f ≤ 2147483648) ∧ (-2147483648 ≤ (mv j).t ∧ (mv j).t ≤ 2147483648) ∧ (-2147483648 ≤ (mv j).u ∧ (mv j).u ≤ 2147483648)) ∧ Below w.heap.size w wr
set_option maxRecDepth 100000 in
set_option maxHeartbeats 8000000 in
theorem treeHangs_law (ao bo : Option Addr) (n m ac bc : Nat) (nv mv : Nat → Nd) (by' : Int) (hA : NRow w ao n nv) (hB : NRow w bo m mv) :
    Calls Try.prog 8 #[.slice ao n ac, .slice bo m bc, .int .i64 by'] w fun e w' => e = .returned (.bool true) ∧ Below w.heap.size w w' := by
  have HA := Lib.hid hA
  have HB := Lib.hid hB
  clear hA hB
  go_enter Try.func8, Try.ntmps8
  go_wp2_with fail
  refine (awake_any _).mono ?_
  rintro e w0 ⟨rfl, hB0⟩
  have HA0 := Lib.hid (HA.out.below hB0)
  have HB0' := Lib.hid (HB.out.below hB0)
  have HB0 := Lib.hid hB0
  by_cases hbig : 40 < n ∨ 40 < m ∨ by' < -1000000 ∨ 1000000 < by'
  · have HBIG := Lib.hid hbig
    clear hbig hB0
    by_cases b1 : (40 : Int) < (n : Int)
    · go_wp2
      go_ret
      exact ⟨rfl, HB0.out⟩
    · by_cases b2 : (40 : Int) < (m : Int)
      · go_wp2
        go_ret
        exact ⟨rfl, HB0.out⟩
      · by_cases b3 : by' < -1000000
        · go_wp2
          go_ret
          exact ⟨rfl, HB0.out⟩
        · have b4 : 1000000 < by' := by have := HBIG.out; omega
          go_wp2
          go_ret
          exact ⟨rfl, HB0.out⟩
  · have b1 : ¬ (40 : Int) < (n : Int) := by omega
    have b2 : ¬ (40 : Int) < (m : Int) := by omega
    have b3 : ¬ by' < -1000000 := by omega
    have b4 : ¬ 1000000 < by' := by omega
    have HBND := Lib.hid hbig
    clear hbig hB0 HA HB
    go_wp2
    go_loopw [32] (fun v32 wr => ThR mv m w0 v32 wr) (fun v32 _ => m - (intOf v32).toNat)
    case atStart => exact ⟨⟨0, rfl, Nat.zero_le _, fun j h => by omega⟩, Below.refl _ _⟩
    case round =>
      obtain ⟨⟨k, rfl, hk, hbd⟩, hBk⟩ := hrel
      have HBD := Lib.hid hbd
      have HBK := Lib.hid hBk
      clear hbd hBk
      by_cases hlt : (k : Int) < (m : Int)
      · have hlt' : k < m := by omega
        obtain ⟨b, off, rfl, hb, c0, c1, c2, c3⟩ := (HB0'.out.below HBK.out) k hlt'
        obtain ⟨P, hP⟩ : ∃ P, mv k = P := ⟨_, rfl⟩
        rw [hP] at c0 c1 c2 c3
        obtain ⟨pk, pf, pt, pu⟩ := P
        simp only at c0 c1 c2 c3
        have HP := Lib.hid hP
        have r0 : (0 : Int) ≤ (k : Int) := by omega
        clear hP
        have hB1 : Hid (Below w0.heap.size w0 (wr.alloc (.cells #[.int .i64 pk, .int .i64 pf, .int .i64 pt, .int .i64 pu] 30))) := Lib.hid (HBK.out.alloc HBK.out.size _)
        obtain ⟨x1, hx1⟩ : ∃ x1, (if pf < pt then pt else pf) = x1 := ⟨_, rfl⟩
        obtain ⟨x2, hx2⟩ : ∃ x2, (if x1 < pu then pu else x1) = x2 := ⟨_, rfl⟩
        obtain ⟨y1, hy1⟩ : ∃ y1, (if pt < pf then pt else pf) = y1 := ⟨_, rfl⟩
        obtain ⟨y2, hy2⟩ : ∃ y2, (if pu < y1 then pu else y1) = y2 := ⟨_, rfl⟩
        have hmx : pf ≤ x2 ∧ pt ≤ x2 ∧ pu ≤ x2 ∧ y2 ≤ pf ∧ y2 ≤ pt ∧ y2 ≤ pu := by
          rw [← hx2, ← hy2, ← hx1, ← hy1]
          (repeat' split) <;> omega
        have HMX := Lib.hid hmx
        clear hmx
        by_cases g1 : 2147483648 < x2
        · go_wp2
          go_ret
          exact ⟨rfl, HB0.out.trans (hB1.out.mono HB0.out.size)⟩
        · by_cases g2 : y2 < -2147483648
          · go_wp2
            go_ret
            exact ⟨rfl, HB0.out.trans (hB1.out.mono HB0.out.size)⟩
          · have HG := Lib.hid (And.intro g1 g2)
            go_wp2
            go_roundw
            case rel =>
              refine ⟨⟨k + 1, by go_num, by omega, fun j hj => ?_⟩, hB1.out⟩
              rcases Nat.lt_or_ge j k with g | g
              · exact HBD.out j g
              · obtain rfl : j = k := by omega
                rw [HP.out]
                have h1 := HMX.out
                have h2 := HG.out
                simp only
                omega
            case measure => simp [intOf]; omega
      · obtain rfl : k = m := by omega
        have HBk := Lib.hid (HB0.out.trans (HBK.out.mono HB0.out.size))
        by_cases hz : n = 0 ∨ k = 0
        · have HC := Lib.hid (hang_none wr ao bo n k ac bc nv by' (HA0.out.below HBK.out) hz (by omega))
          have HZ := Lib.hid hz
          clear hz
          go_wp2_with fail
          refine HC.out.mono ?_
          rintro e w2 ⟨⟨oa, oc, rfl, hr⟩, hb⟩
          have HS := Lib.hid (same_yes w2 oa ao n oc ac nv hr ((HA0.out.below HBK.out).below hb) (by omega))
          have HB2 := Lib.hid (HBk.out.trans (hb.mono HBk.out.size))
          clear hr hb
          by_cases hz0 : n = 0
          · have t1 : ((n : Int) == 0) = true := by simp; omega
            have HZ0 := Lib.hid hz0
            clear hz0
            go_wp2_with fail
            refine HS.out.mono ?_
            rintro e w3 ⟨rfl, hb3⟩
            have HB3 := Lib.hid (HB2.out.trans (hb3.mono HB2.out.size))
            clear hb3
            go_wp2
            go_ret
            exact ⟨rfl, HB3.out⟩
          · have t1 : ((n : Int) == 0) = false := by simp; omega
            have t2 : ((k : Int) == 0) = true := by have := HZ.out; simp; omega
            have HZ0 := Lib.hid hz0
            clear hz0
            go_wp2_with fail
            refine HS.out.mono ?_
            rintro e w3 ⟨rfl, hb3⟩
            have HB3 := Lib.hid (HB2.out.trans (hb3.mono HB2.out.size))
            clear hb3
            go_wp2
            go_ret
            exact ⟨rfl, HB3.out⟩
        · have hn0 : 0 < n := by omega
          have hk0 : 0 < k := by omega
          have t1 : ((n : Int) == 0) = false := by simp; omega
          have t2 : ((k : Int) == 0) = false := by simp; omega
          have hwf : ∀ j, j < k → IntKind.i64.wrap ((mv j).f + by') = (mv j).f + by' ∧ IntKind.i64.wrap ((mv j).t + by') = (mv j).t + by' ∧ IntKind.i64.wrap ((mv j).u + (n : Int)) = (mv j).u + (n : Int) := fun j hj => by
            have h := HBD.out j hj
            exact ⟨IntWalk.i64_in _ (by omega), IntWalk.i64_in _ (by omega), IntWalk.i64_in _ (by omega)⟩
          have HWF := Lib.hid hwf
          have HC := Lib.hid (hang_any wr ao bo n k ac bc nv mv by' (HA0.out.below HBK.out) (HB0'.out.below HBK.out) hn0 hk0 (by omega) (by omega) hwf)
          clear hz hwf
          go_wp2_with fail
          refine HC.out.mono ?_
          rintro e w2 ⟨⟨oa, oc, rfl, hO⟩, hb⟩
          have hnr := (owns_nrow hO).2
          have hbB := HBk.out.trans (hb.mono HBk.out.size)
          obtain ⟨g, c', hgc, _, hgc1, hgc2, hgl⟩ := owns_nil hO (by omega)
          obtain ⟨rfl, rfl⟩ : oa = some ⟨g, 0, none⟩ ∧ oc = c' := by simpa using hgc
          have hS := same_yes w2 (some ⟨g, 0, none⟩) ao n oc ac nv ((hnr.less (m := n) (by omega)).congr (fun j hj => by rw [nl_left (lstf_len _ _) hj, lstf_nl hj])) ((HA0.out.below HBK.out).below hb) (by omega)
          have HNR := Lib.hid hnr
          have HS := Lib.hid hS
          have HB2 := Lib.hid hbB
          have HSB := Lib.hid (HBK.out.trans (hb.mono HBK.out.size))
          have q1 : n ≤ n + k := by omega
          have q2 : n ≤ oc := by omega
          have t3 : (((n + k : Nat) : Int) != (n : Int) + (k : Int)) = false := by simp
          clear hO hb hnr hbB hgc hS
          go_wp2_with fail
          refine HS.out.mono ?_
          rintro e w3 ⟨rfl, hb3⟩
          have HB3 := Lib.hid (HB2.out.trans (hb3.mono HB2.out.size))
          have HNR3 := Lib.hid (HNR.out.below hb3)
          have HSUB := Lib.hid (HB0'.out.below (HSB.out.trans (hb3.mono HSB.out.size)))
          clear hb3
          go_wp2
          go_loopw [10] (fun v10 wx => (∃ j : Nat, v10 = .int .i64 (j : Int) ∧ j ≤ k) ∧ Below w3.heap.size w3 wx) (fun v10 _ => k - (intOf v10).toNat)
          case atStart => exact ⟨⟨0, rfl, Nat.zero_le _⟩, Below.refl _ _⟩
          case round =>
            obtain ⟨⟨j, rfl, hj⟩, hbj⟩ := hrel
            have HBJ := Lib.hid hbj
            have HBJ2 := Lib.hid (HB3.out.trans (hbj.mono HB3.out.size))
            clear hbj
            by_cases hjk : (j : Int) < (k : Int)
            · have hjk' : j < k := by omega
              obtain ⟨b, off, rfl, hb, c0, c1, c2, c3⟩ := (HSUB.out.below HBJ.out) j hjk'
              obtain ⟨b', off', hao, hb', d0, d1, d2, d3⟩ := (HNR3.out.below HBJ.out) (n + j) (by omega)
              cases hao
              rw [nl_right (lstf_len _ _), lstf_nl (f := hangN mv n by') hjk'] at d0 d1 d2 d3
              obtain ⟨w1, w2', w3'⟩ := HWF.out j hjk'
              have e4 : 0 + (n + j) * 4 = (n + j) * 4 := Nat.zero_add _
              rw [e4] at d0 d1 d2 d3
              obtain ⟨P, hP⟩ : ∃ P, mv j = P := ⟨_, rfl⟩
              unfold hangN at d0 d1 d2 d3
              rw [hP] at c0 c1 c2 c3 w1 w2' w3' d0 d1 d2 d3
              obtain ⟨pk, pf, pt, pu⟩ := P
              simp only at c0 c1 c2 c3 w1 w2' w3' d0 d1 d2 d3
              have r0 : (0 : Int) ≤ (j : Int) := by omega
              have r1 : IntKind.i64.wrap ((n : Int) + (j : Int)) = ((n + j : Nat) : Int) := by rw [IntWalk.i64_in _ (by omega)]; omega
              have r2 : ((n + j : Nat) : Int) < ((n + k : Nat) : Int) := by omega
              clear hP
              by_cases hj0 : j = 0
              · have t4 : ((j : Int) == 0) = true := by simp; omega
                rw [if_pos hj0] at d3
                have hnq := neq_node pk (pf + by') (pt + by') 0
                have HJ0 := Lib.hid hj0
                clear hj0
                have hal : ∀ A o, (wr.alloc A).cell? ⟨g, o, none⟩ = wr.cell? ⟨g, o, none⟩ := fun A o => ((Below.refl wr.heap.size wr).alloc (Nat.le_refl _) A).cell (p := ⟨g, o, none⟩) hb'
                have D0 := fun A => (hal A _).trans d0
                have D1 := fun A => (hal A _).trans d1
                have D2 := fun A => (hal A _).trans d2
                have D3 := fun A => (hal A _).trans d3
                clear d0 d1 d2 d3 hal
                go_wp2
                go_quiet (fail)
                go_wp2
                go_roundw
                case rel => exact ⟨⟨j + 1, by go_num, by omega⟩, belN (HBJ.out.alloc HBJ.out.size _) _⟩
                case measure => simp [intOf]; omega
              · have t4 : ((j : Int) == 0) = false := by simp; omega
                rw [if_neg hj0] at d3
                have hnq := neq_node pk (pf + by') (pt + by') (pu + (n : Int))
                have HJ0 := Lib.hid hj0
                clear hj0
                have hal : ∀ A o, (wr.alloc A).cell? ⟨g, o, none⟩ = wr.cell? ⟨g, o, none⟩ := fun A o => ((Below.refl wr.heap.size wr).alloc (Nat.le_refl _) A).cell (p := ⟨g, o, none⟩) hb'
                have D0 := fun A => (hal A _).trans d0
                have D1 := fun A => (hal A _).trans d1
                have D2 := fun A => (hal A _).trans d2
                have D3 := fun A => (hal A _).trans d3
                clear d0 d1 d2 d3 hal
                go_wp2
                go_quiet (fail)
                go_wp2
                go_roundw
                case rel => exact ⟨⟨j + 1, by go_num, by omega⟩, belN (HBJ.out.alloc HBJ.out.size _) _⟩
                case measure => simp [intOf]; omega
            · obtain rfl : j = k := by omega
              go_wp2
              go_ret
              exact ⟨rfl, HBJ2.out⟩
end
end Go.Proofs.Ytppipngdakfbpaa

/- What layer 11's statement TreeGrafts does. No condition but that the nodes can be read. -/
import Derived.Test.YtppipngdakfbpaaTrB
import Derived.Test.YtppipngdakfbpaaTrX
import Derived.Test.YtppipngdakfbpaaTrQ
namespace Go.Proofs.Ytppipngdakfbpaa
open Go.RowKit
set_option linter.unusedVariables false

theorem lstf_app (k d : Nat) (f : Nat → Nd) : lstf k f ++ lstf d (fun j => f (k + j)) = lstf (k + d) f := by
  unfold lstf
  rw [List.range_add, List.map_append, List.map_map]
  rfl
theorem kid_end {nv : Nat → Nd} {n c x : Nat} (hs : Sp nv n) (hc : (nv c).u = ((0 : Nat) : Int)) (hc0 : 0 < c) (hcn : c < n) (he : IsEnd nv n c x) (hx : x < n) : (nv x).u = 0 := by
  obtain ⟨u, e, l, g⟩ := hs.2 x (by have := he.lt; omega) hx
  have h1 := he.stop hx
  have h2 := (end_iff hs he (k := x - 1) (by omega)).2 ⟨by have := he.lt; omega, by have := he.lt; omega⟩
  have h3 := g.tot h2 (by omega)
  rcases h3.inv with rfl | ⟨d, e', l', g'⟩
  · omega
  · have := g'.le; omega
/-- Where the law's own row ends when the number k comes. -/
def GrX (nv : Nat → Nd) (n k x : Nat) : Prop := (k ≤ x ∧ x ≤ n) ∧ (∀ j, k ≤ j → j < x → (nv j).u ≠ 0) ∧ (x < n → (nv x).u = 0)
theorem GrX.start {nv : Nat → Nd} {n : Nat} (hs : Sp nv n) (h0 : 0 < n) : GrX nv n 1 1 :=
  ⟨⟨Nat.le_refl _, h0⟩, fun j h1 h2 => by omega, fun h => by
    obtain ⟨u, e, l, _⟩ := hs.2 1 (by decide) h
    omega⟩
theorem GrX.kid {nv : Nat → Nd} {n k x e : Nat} (hs : Sp nv n) (h : GrX nv n k x) (hk : k < n) (h1 : 0 < k) (hu : (nv k).u = 0) (he : IsEnd nv n k e) : k = x ∧ GrX nv n (k + 1) e := by
  have hkx : k = x := by
    rcases Nat.lt_or_ge k x with g | g
    · exact absurd hu (h.2.1 k (Nat.le_refl _) g)
    · have := h.1.1; omega
  refine ⟨hkx, ⟨⟨he.lt, he.le⟩, fun j h2 h3 => ?_, fun h2 => kid_end hs (by rw [hu]; rfl) h1 hk he h2⟩⟩
  have := he.below j (by omega) h3
  omega
theorem GrX.pass {nv : Nat → Nd} {n k x : Nat} (h : GrX nv n k x) (hk : k < n) (hu : (nv k).u ≠ 0) : GrX nv n (k + 1) x := by
  have hkx : k < x := by
    rcases Nat.lt_or_ge k x with g | g
    · exact g
    · have h1 := h.1.1
      obtain rfl : k = x := by omega
      exact absurd (h.2.2 hk) hu
  exact ⟨⟨hkx, h.1.2⟩, fun j h1 h2 => h.2.1 j (by omega) h2, h.2.2⟩
def GrR (nv : Nat → Nd) (n : Nat) (base : Nat) (w : World) (v9 v10 : Value) (wr : World) : Prop :=
  ∃ (k x : Nat) (oa : Option Addr) (oc : Nat), v10 = .int .i64 (k : Int) ∧ 1 ≤ k ∧ k ≤ n ∧ v9 = .slice oa x oc ∧ GrX nv n k x ∧ wr.ownsRow base 30 4 (.slice oa x oc) x (cellsN (lstf x nv)) ∧ Below base w wr
theorem sub_none (w : World) (ao : Option Addr) (len cap : Nat) (i : Int) (hi : i < 0 ∨ (len : Int) ≤ i) :
    Calls Try.prog 20 #[.slice ao len cap, .int .i64 i] w fun r w' => r = .returned (.slice none 0 0) ∧ w' = w := by
  have HS := Lib.hid (fun W => stands_any W ao len cap i false (by simp; omega))
  clear hi
  go_enter Try.func20, Try.ntmps20
  go_wp2_with fail
  refine (HS.out w).mono ?_
  rintro r w1 ⟨rfl, rfl⟩
  go_wp2
  go_ret
  exact ⟨rfl, rfl⟩
section
variable (w : World)
set_option maxRecDepth 100000 in
set_option maxHeartbeats 8000000 in
theorem treeGrafts_law (ao : Option Addr) (len cap : Nat) (nv : Nat → Nd) (ii : Int) (hrow : NRow w ao len nv) (hcap : len ≤ cap) (hwf : ∀ i, i < len → (-9223372036854775808 ≤ (nv i).f ∧ (nv i).f ≤ 9223372036854775807) ∧ (-9223372036854775808 ≤ (nv i).t ∧ (nv i).t ≤ 9223372036854775807)) :
    Calls Try.prog 7 #[.slice ao len cap, .int .i64 ii] w fun e w' => e = .returned (.bool true) ∧ Below w.heap.size w w' := by
  have HROW := Lib.hid hrow
  have HWF := Lib.hid hwf
  clear hrow hwf
  go_enter Try.func7, Try.ntmps7
  go_wp2_with fail
  refine (awake_any _).mono ?_
  rintro e w0 ⟨rfl, hB0⟩
  have HR0 := Lib.hid (HROW.out.below hB0)
  have HRI := Lib.hid (right_any w0 ao len cap nv (fun _ => HR0.out))
  have HB0 := Lib.hid hB0
  clear hB0
  go_wp2_with fail
  refine HRI.out.mono ?_
  rintro e w1 ⟨⟨x, rfl, hx⟩, hb1⟩
  have HB1 := Lib.hid (HB0.out.trans (hb1.mono HB0.out.size))
  have HR1 := Lib.hid (HR0.out.below hb1)
  have HX := Lib.hid hx
  clear hx hb1
  cases x
  · go_wp2
    go_ret
    exact ⟨rfl, HB1.out⟩
  · have hrt := HX.out.1 (by trivial)
    have hl40 := hrt.1
    have HRT := Lib.hid hrt.2
    have HSP := Lib.hid hrt.2.sp
    have hlen0 : 0 < len := hrt.2.pos
    have HUB : Hid (∀ j, j < len → -1 ≤ (nv j).u ∧ (nv j).u ≤ 10000) := Lib.hid (fun j hj => by
      rcases Nat.eq_zero_or_pos j with rfl | g
      · rw [hrt.2.u0]; decide
      · obtain ⟨u, e, l, _⟩ := hrt.2.sp.2 j g hj
        omega)
    clear hrt
    by_cases hi : 0 ≤ ii ∧ ii < (len : Int)
    · obtain ⟨i, rfl⟩ : ∃ i : Nat, ii = (i : Int) := ⟨ii.toNat, by omega⟩
      have hil : i < len := by omega
      obtain ⟨E, hE⟩ := isEnd_ex nv len i hil
      have hiE := hE.lt
      have hEl := hE.le
      have HE := Lib.hid hE
      have HSU := Lib.hid (sub_any w1 ao len cap nv HR1.out i hil (by omega) hcap E hE HUB.out)
      have s2 : ¬ (i : Int) < 0 := by omega
      have s3 : ¬ (len : Int) ≤ (i : Int) := by omega
      have s3' : decide (len ≤ i) = false := by simp; omega
      have s4' : decide ((i : Int) < 0) = false := by simp
      obtain ⟨d, hd⟩ : ∃ d, E - i = d := ⟨_, rfl⟩
      rw [hd] at HSU
      have HD := Lib.hid hd
      have hdl : d ≤ 40 := by omega
      have hd0 : 0 < d := by omega
      have r9 : IntKind.i64.wrap ((E : Int) - (i : Int)) = (d : Int) := by rw [IntWalk.i64_in _ (by omega)]; omega
      clear hE hd hi
      go_wp2_with fail
      refine HSU.out.mono ?_
      rintro e w2 ⟨⟨ob, obc, rfl, hO2⟩, hb2⟩
      have HR2 := Lib.hid (HR1.out.below hb2)
      have HB2 := Lib.hid (HB1.out.trans (hb2.mono HB1.out.size))
      have HS2 := Lib.hid (owns_nrow hO2).2
      have HEN := Lib.hid (end_any w2 ao len cap nv HR2.out i hil (by omega) E HE.out)
      clear hO2 hb2
      go_wp2_with fail
      refine HEN.out.mono ?_
      rintro e w3 ⟨rfl, rfl⟩
      have t9 : ((d : Int) != (d : Int)) = false := by simp
      go_wp2
      go_loopw [7] (fun v7 wx => (∃ k : Nat, v7 = .int .i64 (k : Int) ∧ k ≤ d) ∧ Below w3.heap.size w3 wx) (fun v7 _ => d - (intOf v7).toNat)
      case atStart => exact ⟨⟨0, rfl, Nat.zero_le _⟩, Below.refl _ _⟩
      case round =>
        obtain ⟨⟨k, rfl, hk⟩, hbk⟩ := hrel
        obtain ⟨wz, rfl⟩ : ∃ wz, wz = wr := ⟨wr, rfl⟩
        have HRW := Lib.hid (HR2.out.below hbk)
        have HSW := Lib.hid (HS2.out.below hbk)
        have HBW := Lib.hid (HB2.out.trans (hbk.mono HB2.out.size))
        have HBK := Lib.hid hbk
        clear hbk
        by_cases hlt : (k : Int) < (d : Int)
        · have hlt' : k < d := by omega
          obtain ⟨b, off, hao, hb, c0, c1, c2, c3⟩ := HRW.out (i + k) (by have := HD.out; omega)
          cases hao
          obtain ⟨b', off', hao, hb', d0, d1, d2, d3⟩ := HSW.out k hlt'
          cases hao
          rw [lstf_nl (f := subN nv i) hlt'] at d0 d1 d2 d3
          have hub := HUB.out (i + k) (by have := HD.out; omega)
          obtain ⟨P, hP⟩ : ∃ P, nv (i + k) = P := ⟨_, rfl⟩
          unfold subN at d0 d1 d2 d3
          rw [hP] at c0 c1 c2 c3 d0 d1 d2 d3 hub
          obtain ⟨pk, pf, pt, pu⟩ := P
          simp only at c0 c1 c2 c3 d0 d1 d2 d3 hub
          have r0 : (0 : Int) ≤ (k : Int) := by omega
          have r1 : IntKind.i64.wrap ((i : Int) + (k : Int)) = ((i + k : Nat) : Int) := by rw [IntWalk.i64_in _ (by omega)]; omega
          have r2 : ((i + k : Nat) : Int) < (len : Int) := by have := HD.out; omega
          have r3 : IntKind.i64.wrap (pu - (i : Int)) = pu - (i : Int) := IntWalk.i64_in _ (by omega)
          have hal : ∀ A o, (wz.alloc A).cell? ⟨b', o, none⟩ = wz.cell? ⟨b', o, none⟩ := fun A o => ((Below.refl wz.heap.size wz).alloc (Nat.le_refl _) A).cell (p := ⟨b', o, none⟩) hb'
          have HNX := Lib.hid (fun A q => belN (HBK.out.alloc HBK.out.size A) q)
          clear hP hub
          by_cases hk0 : k = 0
          · have t4 : ((k : Int) == 0) = true := by simp; omega
            rw [if_pos hk0] at d3
            have hnq := neq_node pk pf pt (-1)
            have D0 := fun A => (hal A _).trans d0
            have D1 := fun A => (hal A _).trans d1
            have D2 := fun A => (hal A _).trans d2
            have D3 := fun A => (hal A _).trans d3
            have HK0 := Lib.hid hk0
            clear d0 d1 d2 d3 hal hk0
            go_wp2
            go_quiet (fail)
            go_wp2
            go_roundw
            case rel => exact ⟨⟨k + 1, by go_num, by omega⟩, HNX.out _ _⟩
            case measure => simp [intOf]; omega
          · have t4 : ((k : Int) == 0) = false := by simp; omega
            rw [if_neg hk0] at d3
            have hnq := neq_node pk pf pt (pu - (i : Int))
            have D0 := fun A => (hal A _).trans d0
            have D1 := fun A => (hal A _).trans d1
            have D2 := fun A => (hal A _).trans d2
            have D3 := fun A => (hal A _).trans d3
            have HK0 := Lib.hid hk0
            clear d0 d1 d2 d3 hal hk0
            go_wp2
            go_quiet (fail)
            go_wp2
            go_roundw
            case rel => exact ⟨⟨k + 1, by go_num, by omega⟩, HNX.out _ _⟩
            case measure => simp [intOf]; omega
        · obtain rfl : k = d := by omega
          obtain ⟨b0, off0, hao0, hb0, c0, c1, c2, c3⟩ := HRW.out 0 hlen0
          cases hao0
          simp only [Nat.zero_mul, Nat.add_zero] at c0 c1 c2 c3
          have hO0 : Hid (∀ pk pf pt pu, nv 0 = ⟨pk, pf, pt, pu⟩ → (wz.alloc (.cells #[.int .i64 pk, .int .i64 pf, .int .i64 pt, .int .i64 pu] 30)).ownsRow wz.heap.size 30 4 (.slice (some ⟨wz.heap.size, 0, none⟩) 1 1) 1 (cellsN (lstf 1 nv))) := Lib.hid (fun pk pf pt pu h => by
            have e : cellsN (lstf 1 nv) = cellN ⟨pk, pf, pt, pu⟩ := by simp [lstf, cellsN, h]
            rw [e]
            exact ⟨rfl, .inr ⟨wz.heap.size, 1, _, rfl, Nat.le_refl _, Blk.new _ _ _, Nat.le_refl _, by unfold maxLen; omega, rfl, rfl⟩⟩)
          obtain ⟨P0, hP0⟩ : ∃ P0, nv 0 = P0 := ⟨_, rfl⟩
          rw [hP0] at c0 c1 c2 c3
          obtain ⟨zk, zf, zt, zu⟩ := P0
          simp only at c0 c1 c2 c3
          have HO0 := Lib.hid (hO0.out _ _ _ _ hP0)
          have p0 : (0 : Int) < (len : Int) := by omega
          clear hP0 hO0
          go_wp2
          go_loopw [9, 10] (fun v9 v10 wr => GrR nv len wz.heap.size wz v9 v10 wr) (fun _ v _ => len - (intOf v).toNat)
          case atStart => exact ⟨1, 1, _, _, rfl, Nat.le_refl _, hlen0, rfl, GrX.start HSP.out hlen0, HO0.out, (Below.refl _ _).alloc (Nat.le_refl _) _⟩
          case round =>
            obtain ⟨k, x, oa, oc, rfl, hk1, hk2, rfl, hG, hO, hB⟩ := hrel
            have HG := Lib.hid hG
            have HO := Lib.hid hO
            have HB := Lib.hid hB
            have HRK := Lib.hid (HRW.out.below hB)
            clear hG hO hB c0 c1 c2 c3
            by_cases hlt : (k : Int) < (len : Int)
            · have hlt' : k < len := by omega
              obtain ⟨b, off, hao, hb, d0, d1, d2, d3⟩ := HRK.out k hlt'
              cases hao
              obtain ⟨u, hu⟩ : ∃ u, (nv k).u = u := ⟨_, rfl⟩
              rw [hu] at d3
              have HU := Lib.hid hu
              have r0 : (0 : Int) ≤ (k : Int) := by omega
              clear hu d0 d1 d2
              by_cases hu0 : u = 0
              · have t1 : (u == 0) = true := by simpa using hu0
                obtain ⟨E, hE⟩ := isEnd_ex nv len k hlt'
                obtain ⟨hkx, hG2⟩ := HG.out.kid HSP.out hlt' (by omega) (by rw [HU.out]; exact hu0) hE
                subst hkx
                have HG2 := Lib.hid hG2
                have HE := Lib.hid hE
                have HSU := Lib.hid (sub_any wr _ len cap nv HRK.out k hlt' (by omega) hcap E hE HUB.out)
                have hEk := hE.lt
                have hEl := hE.le
                obtain ⟨d, hd⟩ : ∃ d, E - k = d := ⟨_, rfl⟩
                rw [hd] at HSU
                have HD := Lib.hid hd
                have hdl : d ≤ 40 := by omega
                have hd0 : 0 < d := by omega
                subst hu0
                clear hE hG2 hd
                go_wp2_with fail
                refine HSU.out.mono ?_
                rintro e w5 ⟨⟨ob, obc, rfl, hO5⟩, hb5⟩
                have hnA := (owns_nrow HO.out).2.below hb5
                have hnB := (owns_nrow hO5).2
                have HH := Lib.hid (hang_any w5 oa ob k d oc obc (nl (lstf k nv)) (nl (lstf d (subN nv k))) 0 hnA hnB (by omega) hd0 (by omega) (by omega) (fun j hj => by
                  rw [lstf_nl hj]
                  have h1 := HWF.out (k + j) (by have := HD.out; omega)
                  have h2 := HUB.out (k + j) (by have := HD.out; omega)
                  unfold subN
                  refine ⟨IntWalk.i64_in _ (by simp only; omega), IntWalk.i64_in _ (by simp only; omega), IntWalk.i64_in _ ?_⟩
                  simp only
                  split <;> omega))
                have HB5 := Lib.hid (HB.out.trans (hb5.mono HB.out.size))
                clear hO5 hb5 hnA hnB
                go_wp2_with fail
                refine HH.out.mono ?_
                rintro e w6 ⟨⟨og, oh, rfl, hO6⟩, hb6⟩
                have hfin : lstf k (nl (lstf k nv)) ++ lstf d (hangN (nl (lstf d (subN nv k))) k 0) = lstf E nv := by
                  rw [lstf_congr (g := nv) (fun j hj => lstf_nl hj), lstf_congr (m := d) (g := fun j => nv (k + j)) (fun j hj => by
                    unfold hangN
                    rw [lstf_nl hj]
                    unfold subN
                    by_cases h0 : j = 0
                    · subst h0
                      rw [if_pos rfl]
                      refine Nd.ext' rfl (by simp) (by simp) ?_
                      show (0 : Int) = (nv (k + 0)).u
                      rw [Nat.add_zero, HU.out]
                    · rw [if_neg h0, if_neg h0]
                      exact Nd.ext' rfl (by simp) (by simp) (by simp only; omega))]
                  have := HD.out
                  rw [show E = k + d from by omega]
                  exact lstf_app k d nv
                rw [hfin] at hO6
                rw [show k + d = E from by have := HD.out; omega] at hO6 ⊢
                have HO6 := Lib.hid (owns_base hO6 (c := wz.heap.size) (fun g hg => by have h1 := own_ge hO6 g hg; have h2 := HB5.out.size; omega))
                have HB6 := Lib.hid (HB5.out.trans (hb6.mono HB5.out.size))
                clear hO6 hb6 hfin
                go_wp2
                go_roundw
                case rel => exact ⟨k + 1, E, og, oh, by go_num, by omega, by omega, rfl, HG2.out, HO6.out, HB6.out⟩
                case measure => simp [intOf]; omega
              · have t1 : (u == 0) = false := by simpa using hu0
                have HG2 := Lib.hid (HG.out.pass hlt' (by rw [HU.out]; exact hu0))
                clear hu0
                go_wp2
                go_roundw
                case rel => exact ⟨k + 1, x, oa, oc, by go_num, by omega, by omega, rfl, HG2.out, HO.out, HB.out⟩
                case measure => simp [intOf]; omega
            · obtain rfl : k = len := by omega
              obtain rfl : x = k := by have := HG.out.1; omega
              have HS := Lib.hid (same_yes wr oa _ x oc cap nv ((owns_nrow HO.out).2.congr (fun j hj => lstf_nl hj)) HRK.out (by omega))
              go_wp2_with fail
              refine HS.out.mono ?_
              rintro e w5 ⟨rfl, hb5⟩
              have HB5 := Lib.hid ((HBW.out.trans (HB.out.mono HBW.out.size)).trans (hb5.mono (Nat.le_trans HBW.out.size HB.out.size)))
              clear hb5
              go_wp2
              go_ret
              exact ⟨rfl, HB5.out⟩

    · have hi' : ii < 0 ∨ (len : Int) ≤ ii := by omega
      have HSU := Lib.hid (sub_none w1 ao len cap ii hi')
      have HI := Lib.hid hi'
      have HRW := HR1
      have HBW := HB1
      clear hi hi'
      go_wp2_with fail
      refine HSU.out.mono ?_
      rintro e w2 ⟨rfl, rfl⟩
      by_cases h1 : ii < 0
      · have g1 : decide (ii < 0) = true := by simpa using h1
        obtain ⟨b0, off0, hao0, hb0, c0, c1, c2, c3⟩ := HRW.out 0 hlen0
        subst hao0
        simp only [Nat.zero_mul, Nat.add_zero] at c0 c1 c2 c3
        have hO0 : Hid (∀ pk pf pt pu, nv 0 = ⟨pk, pf, pt, pu⟩ → (w2.alloc (.cells #[.int .i64 pk, .int .i64 pf, .int .i64 pt, .int .i64 pu] 30)).ownsRow w2.heap.size 30 4 (.slice (some ⟨w2.heap.size, 0, none⟩) 1 1) 1 (cellsN (lstf 1 nv))) := Lib.hid (fun pk pf pt pu h => by
          have e : cellsN (lstf 1 nv) = cellN ⟨pk, pf, pt, pu⟩ := by simp [lstf, cellsN, h]
          rw [e]
          exact ⟨rfl, .inr ⟨w2.heap.size, 1, _, rfl, Nat.le_refl _, Blk.new _ _ _, Nat.le_refl _, by unfold maxLen; omega, rfl, rfl⟩⟩)
        obtain ⟨P0, hP0⟩ : ∃ P0, nv 0 = P0 := ⟨_, rfl⟩
        rw [hP0] at c0 c1 c2 c3
        obtain ⟨zk, zf, zt, zu⟩ := P0
        simp only at c0 c1 c2 c3
        have HO0 := Lib.hid (hO0.out _ _ _ _ hP0)
        have p0 : (0 : Int) < (len : Int) := by omega
        clear hP0 hO0
        go_wp2
        go_loopw [9, 10] (fun v9 v10 wr => GrR nv len w2.heap.size w2 v9 v10 wr) (fun _ v _ => len - (intOf v).toNat)
        case atStart => exact ⟨1, 1, _, _, rfl, Nat.le_refl _, hlen0, rfl, GrX.start HSP.out hlen0, HO0.out, (Below.refl _ _).alloc (Nat.le_refl _) _⟩
        case round =>
          obtain ⟨k, x, oa, oc, rfl, hk1, hk2, rfl, hG, hO, hB⟩ := hrel
          have HG := Lib.hid hG
          have HO := Lib.hid hO
          have HB := Lib.hid hB
          have HRK := Lib.hid (HRW.out.below hB)
          clear hG hO hB c0 c1 c2 c3
          by_cases hlt : (k : Int) < (len : Int)
          · have hlt' : k < len := by omega
            obtain ⟨b, off, hao, hb, d0, d1, d2, d3⟩ := HRK.out k hlt'
            cases hao
            obtain ⟨u, hu⟩ : ∃ u, (nv k).u = u := ⟨_, rfl⟩
            rw [hu] at d3
            have HU := Lib.hid hu
            have r0 : (0 : Int) ≤ (k : Int) := by omega
            clear hu d0 d1 d2
            by_cases hu0 : u = 0
            · have t1 : (u == 0) = true := by simpa using hu0
              obtain ⟨E, hE⟩ := isEnd_ex nv len k hlt'
              obtain ⟨hkx, hG2⟩ := HG.out.kid HSP.out hlt' (by omega) (by rw [HU.out]; exact hu0) hE
              subst hkx
              have HG2 := Lib.hid hG2
              have HE := Lib.hid hE
              have HSU := Lib.hid (sub_any wr _ len cap nv HRK.out k hlt' (by omega) hcap E hE HUB.out)
              have hEk := hE.lt
              have hEl := hE.le
              obtain ⟨d, hd⟩ : ∃ d, E - k = d := ⟨_, rfl⟩
              rw [hd] at HSU
              have HD := Lib.hid hd
              have hdl : d ≤ 40 := by omega
              have hd0 : 0 < d := by omega
              subst hu0
              clear hE hG2 hd
              go_wp2_with fail
              refine HSU.out.mono ?_
              rintro e w5 ⟨⟨ob, obc, rfl, hO5⟩, hb5⟩
              have hnA := (owns_nrow HO.out).2.below hb5
              have hnB := (owns_nrow hO5).2
              have HH := Lib.hid (hang_any w5 oa ob k d oc obc (nl (lstf k nv)) (nl (lstf d (subN nv k))) 0 hnA hnB (by omega) hd0 (by omega) (by omega) (fun j hj => by
                rw [lstf_nl hj]
                have h1 := HWF.out (k + j) (by have := HD.out; omega)
                have h2 := HUB.out (k + j) (by have := HD.out; omega)
                unfold subN
                refine ⟨IntWalk.i64_in _ (by simp only; omega), IntWalk.i64_in _ (by simp only; omega), IntWalk.i64_in _ ?_⟩
                simp only
                split <;> omega))
              have HB5 := Lib.hid (HB.out.trans (hb5.mono HB.out.size))
              clear hO5 hb5 hnA hnB
              go_wp2_with fail
              refine HH.out.mono ?_
              rintro e w6 ⟨⟨og, oh, rfl, hO6⟩, hb6⟩
              have hfin : lstf k (nl (lstf k nv)) ++ lstf d (hangN (nl (lstf d (subN nv k))) k 0) = lstf E nv := by
                rw [lstf_congr (g := nv) (fun j hj => lstf_nl hj), lstf_congr (m := d) (g := fun j => nv (k + j)) (fun j hj => by
                  unfold hangN
                  rw [lstf_nl hj]
                  unfold subN
                  by_cases h0 : j = 0
                  · subst h0
                    rw [if_pos rfl]
                    refine Nd.ext' rfl (by simp) (by simp) ?_
                    show (0 : Int) = (nv (k + 0)).u
                    rw [Nat.add_zero, HU.out]
                  · rw [if_neg h0, if_neg h0]
                    exact Nd.ext' rfl (by simp) (by simp) (by simp only; omega))]
                have := HD.out
                rw [show E = k + d from by omega]
                exact lstf_app k d nv
              rw [hfin] at hO6
              rw [show k + d = E from by have := HD.out; omega] at hO6 ⊢
              have HO6 := Lib.hid (owns_base hO6 (c := w2.heap.size) (fun g hg => by have h1 := own_ge hO6 g hg; have h2 := HB5.out.size; omega))
              have HB6 := Lib.hid (HB5.out.trans (hb6.mono HB5.out.size))
              clear hO6 hb6 hfin
              go_wp2
              go_roundw
              case rel => exact ⟨k + 1, E, og, oh, by go_num, by omega, by omega, rfl, HG2.out, HO6.out, HB6.out⟩
              case measure => simp [intOf]; omega
            · have t1 : (u == 0) = false := by simpa using hu0
              have HG2 := Lib.hid (HG.out.pass hlt' (by rw [HU.out]; exact hu0))
              clear hu0
              go_wp2
              go_roundw
              case rel => exact ⟨k + 1, x, oa, oc, by go_num, by omega, by omega, rfl, HG2.out, HO.out, HB.out⟩
              case measure => simp [intOf]; omega
          · obtain rfl : k = len := by omega
            obtain rfl : x = k := by have := HG.out.1; omega
            have HS := Lib.hid (same_yes wr oa _ x oc cap nv ((owns_nrow HO.out).2.congr (fun j hj => lstf_nl hj)) HRK.out (by omega))
            go_wp2_with fail
            refine HS.out.mono ?_
            rintro e w5 ⟨rfl, hb5⟩
            have HB5 := Lib.hid ((HBW.out.trans (HB.out.mono HBW.out.size)).trans (hb5.mono (Nat.le_trans HBW.out.size HB.out.size)))
            clear hb5
            go_wp2
            go_ret
            exact ⟨rfl, HB5.out⟩

      · have g1 : decide (ii < 0) = false := by simpa using h1
        have h2 : (len : Int) ≤ ii := by have := HI.out; omega
        obtain ⟨b0, off0, hao0, hb0, c0, c1, c2, c3⟩ := HRW.out 0 hlen0
        subst hao0
        simp only [Nat.zero_mul, Nat.add_zero] at c0 c1 c2 c3
        have hO0 : Hid (∀ pk pf pt pu, nv 0 = ⟨pk, pf, pt, pu⟩ → (w2.alloc (.cells #[.int .i64 pk, .int .i64 pf, .int .i64 pt, .int .i64 pu] 30)).ownsRow w2.heap.size 30 4 (.slice (some ⟨w2.heap.size, 0, none⟩) 1 1) 1 (cellsN (lstf 1 nv))) := Lib.hid (fun pk pf pt pu h => by
          have e : cellsN (lstf 1 nv) = cellN ⟨pk, pf, pt, pu⟩ := by simp [lstf, cellsN, h]
          rw [e]
          exact ⟨rfl, .inr ⟨w2.heap.size, 1, _, rfl, Nat.le_refl _, Blk.new _ _ _, Nat.le_refl _, by unfold maxLen; omega, rfl, rfl⟩⟩)
        obtain ⟨P0, hP0⟩ : ∃ P0, nv 0 = P0 := ⟨_, rfl⟩
        rw [hP0] at c0 c1 c2 c3
        obtain ⟨zk, zf, zt, zu⟩ := P0
        simp only at c0 c1 c2 c3
        have HO0 := Lib.hid (hO0.out _ _ _ _ hP0)
        have p0 : (0 : Int) < (len : Int) := by omega
        clear hP0 hO0
        go_wp2
        go_loopw [9, 10] (fun v9 v10 wr => GrR nv len w2.heap.size w2 v9 v10 wr) (fun _ v _ => len - (intOf v).toNat)
        case atStart => exact ⟨1, 1, _, _, rfl, Nat.le_refl _, hlen0, rfl, GrX.start HSP.out hlen0, HO0.out, (Below.refl _ _).alloc (Nat.le_refl _) _⟩
        case round =>
          obtain ⟨k, x, oa, oc, rfl, hk1, hk2, rfl, hG, hO, hB⟩ := hrel
          have HG := Lib.hid hG
          have HO := Lib.hid hO
          have HB := Lib.hid hB
          have HRK := Lib.hid (HRW.out.below hB)
          clear hG hO hB c0 c1 c2 c3
          by_cases hlt : (k : Int) < (len : Int)
          · have hlt' : k < len := by omega
            obtain ⟨b, off, hao, hb, d0, d1, d2, d3⟩ := HRK.out k hlt'
            cases hao
            obtain ⟨u, hu⟩ : ∃ u, (nv k).u = u := ⟨_, rfl⟩
            rw [hu] at d3
            have HU := Lib.hid hu
            have r0 : (0 : Int) ≤ (k : Int) := by omega
            clear hu d0 d1 d2
            by_cases hu0 : u = 0
            · have t1 : (u == 0) = true := by simpa using hu0
              obtain ⟨E, hE⟩ := isEnd_ex nv len k hlt'
              obtain ⟨hkx, hG2⟩ := HG.out.kid HSP.out hlt' (by omega) (by rw [HU.out]; exact hu0) hE
              subst hkx
              have HG2 := Lib.hid hG2
              have HE := Lib.hid hE
              have HSU := Lib.hid (sub_any wr _ len cap nv HRK.out k hlt' (by omega) hcap E hE HUB.out)
              have hEk := hE.lt
              have hEl := hE.le
              obtain ⟨d, hd⟩ : ∃ d, E - k = d := ⟨_, rfl⟩
              rw [hd] at HSU
              have HD := Lib.hid hd
              have hdl : d ≤ 40 := by omega
              have hd0 : 0 < d := by omega
              subst hu0
              clear hE hG2 hd
              go_wp2_with fail
              refine HSU.out.mono ?_
              rintro e w5 ⟨⟨ob, obc, rfl, hO5⟩, hb5⟩
              have hnA := (owns_nrow HO.out).2.below hb5
              have hnB := (owns_nrow hO5).2
              have HH := Lib.hid (hang_any w5 oa ob k d oc obc (nl (lstf k nv)) (nl (lstf d (subN nv k))) 0 hnA hnB (by omega) hd0 (by omega) (by omega) (fun j hj => by
                rw [lstf_nl hj]
                have h1 := HWF.out (k + j) (by have := HD.out; omega)
                have h2 := HUB.out (k + j) (by have := HD.out; omega)
                unfold subN
                refine ⟨IntWalk.i64_in _ (by simp only; omega), IntWalk.i64_in _ (by simp only; omega), IntWalk.i64_in _ ?_⟩
                simp only
                split <;> omega))
              have HB5 := Lib.hid (HB.out.trans (hb5.mono HB.out.size))
              clear hO5 hb5 hnA hnB
              go_wp2_with fail
              refine HH.out.mono ?_
              rintro e w6 ⟨⟨og, oh, rfl, hO6⟩, hb6⟩
              have hfin : lstf k (nl (lstf k nv)) ++ lstf d (hangN (nl (lstf d (subN nv k))) k 0) = lstf E nv := by
                rw [lstf_congr (g := nv) (fun j hj => lstf_nl hj), lstf_congr (m := d) (g := fun j => nv (k + j)) (fun j hj => by
                  unfold hangN
                  rw [lstf_nl hj]
                  unfold subN
                  by_cases h0 : j = 0
                  · subst h0
                    rw [if_pos rfl]
                    refine Nd.ext' rfl (by simp) (by simp) ?_
                    show (0 : Int) = (nv (k + 0)).u
                    rw [Nat.add_zero, HU.out]
                  · rw [if_neg h0, if_neg h0]
                    exact Nd.ext' rfl (by simp) (by simp) (by simp only; omega))]
                have := HD.out
                rw [show E = k + d from by omega]
                exact lstf_app k d nv
              rw [hfin] at hO6
              rw [show k + d = E from by have := HD.out; omega] at hO6 ⊢
              have HO6 := Lib.hid (owns_base hO6 (c := w2.heap.size) (fun g hg => by have h1 := own_ge hO6 g hg; have h2 := HB5.out.size; omega))
              have HB6 := Lib.hid (HB5.out.trans (hb6.mono HB5.out.size))
              clear hO6 hb6 hfin
              go_wp2
              go_roundw
              case rel => exact ⟨k + 1, E, og, oh, by go_num, by omega, by omega, rfl, HG2.out, HO6.out, HB6.out⟩
              case measure => simp [intOf]; omega
            · have t1 : (u == 0) = false := by simpa using hu0
              have HG2 := Lib.hid (HG.out.pass hlt' (by rw [HU.out]; exact hu0))
              clear hu0
              go_wp2
              go_roundw
              case rel => exact ⟨k + 1, x, oa, oc, by go_num, by omega, by omega, rfl, HG2.out, HO.out, HB.out⟩
              case measure => simp [intOf]; omega
          · obtain rfl : k = len := by omega
            obtain rfl : x = k := by have := HG.out.1; omega
            have HS := Lib.hid (same_yes wr oa _ x oc cap nv ((owns_nrow HO.out).2.congr (fun j hj => lstf_nl hj)) HRK.out (by omega))
            go_wp2_with fail
            refine HS.out.mono ?_
            rintro e w5 ⟨rfl, hb5⟩
            have HB5 := Lib.hid ((HBW.out.trans (HB.out.mono HBW.out.size)).trans (hb5.mono (Nat.le_trans HBW.out.size HB.out.size)))
            clear hb5
            go_wp2
            go_ret
            exact ⟨rfl, HB5.out⟩

end
end Go.Proofs.Ytppipngdakfbpaa

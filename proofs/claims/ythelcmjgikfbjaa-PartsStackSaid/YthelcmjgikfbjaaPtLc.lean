/- What layer 7's statement PartsStack does. No condition but that a text's length fits an int. -/
import Derived.Test.YthelcmjgikfbjaaPtV
import Derived.Test.YthelcmjgikfbjaaPtLb
import Derived.Deep.CutRange
import Derived.Deep.DeepCutAuto
namespace Go.Proofs.Ythelcmjgikfbjaa
open Go.RowKit
set_option linter.unusedVariables false

theorem runK_take (s : ByteArray) {i : Nat} (hi : i ≤ s.size) : runK (s.extract 0 i) (s.extract 0 i).size = runK s i := by
  have hz : (s.extract 0 i).size = i := by simp; omega
  rw [hz]
  refine runG_congr fun j hj => ?_
  unfold by8
  rw [bt_extract s 0 i j hi (by omega), Nat.zero_add]
theorem RdP.prow {w : World} {oa : Option Addr} {n : Nat} {s : ByteArray} (h : RdP w oa n (PL s)) : PRow w oa n (pvP s) := by
  intro i hi
  obtain ⟨ob, p, h1, h2, h3, a0, a1, a2, a3, a4⟩ := h.at hi
  have e : pvP s i = ⟨(p.mode : Int), (p.frm : Int), (p.to : Int), p.up, p.op⟩ := by unfold pvP; rw [h2]
  rw [e]
  refine ⟨ob, 0, h1, h3, ?_, ?_, ?_, ?_, ?_⟩
  · rw [Nat.zero_add]; exact a0
  · rw [Nat.zero_add]; exact a1
  · rw [Nat.zero_add]; exact a2
  · rw [Nat.zero_add]; exact a3
  · rw [Nat.zero_add]; exact a4
theorem arF_take {s : ByteArray} {a i j f : Nat} (h : (arN s a)[i]? = some j) (hf : (bornL s s.size)[j]? = some f) : arF s ((arN s a).take (i + 1)) = arF s ((arN s a).take i) ++ if ndB s f = true then [f] else [] := by
  unfold arF
  rw [List.take_add_one, h, List.map_append, List.filter_append]
  congr 1
  show List.filter (ndB s) [(bornL s s.size)[j]?.getD 0] = _
  rw [hf, Option.getD_some]
  by_cases e : ndB s f = true
  · rw [if_pos e, List.filter_cons_of_pos e]; rfl
  · rw [if_neg e, List.filter_cons_of_neg e]; rfl

/-- Behind so many beginnings. -/
def SkRl (s : ByteArray) (w : World) (v4 : Value) (wr : World) : Prop := ∃ a : Nat, a ≤ s.size + 1 ∧ v4 = .int .i64 (a : Int) ∧ Below w.heap.size w wr
def SaRl7 (s : ByteArray) (a n : Nat) (w : World) (v7 v8 : Value) (wr : World) : Prop :=
  ∃ i : Nat, i ≤ n ∧ v8 = .int .i64 (i : Int) ∧ wr.ownsRow w.heap.size 3 1 v7 (arF s ((arN s a).take i)).length (cellsO (arF s ((arN s a).take i))) ∧ Below w.heap.size w wr
def SbRl7 (s : ByteArray) (a n : Nat) (w : World) (v9 v10 : Value) (wr : World) : Prop :=
  ∃ i k : Nat, 1 ≤ i ∧ i ≤ n ∧ v10 = .int .i64 (i : Int) ∧ v9 = .int .i64 (k : Int) ∧ k = (((spl s a).take (i - 1)).filter (ndB s)).length ∧ Frm (fun _ => False) w wr
def ScRl7 (s : ByteArray) (p n : Nat) (w : World) (v11 v12 : Value) (wr : World) : Prop :=
  ∃ k : Nat, k ≤ n ∧ v12 = .int .i64 (k : Int) ∧ v11 = .bool (dolK s p k) ∧ Frm (fun _ => False) w wr
section
variable (w : World)
set_option maxRecDepth 100000 in
set_option maxHeartbeats 8000000 in
theorem partsStack_law (s : ByteArray) (hmax : s.size ≤ 9223372036854775807) :
    Calls Try.prog 5 #[.string s] w fun e w' => e = .returned (.bool true) ∧ Below w.heap.size w w' := by
  by_cases hs : s.size ≤ 60
  · have hz : ¬ (60 : Int) < (s.size : Int) := by omega
    obtain ⟨i0, hi0, hz0, hz1, hz2⟩ := info_parts infoI
    go_enter Try.func5, Try.ntmps5
    go_wp2_with fail
    refine (awake_any _).mono ?_
    rintro e w0 ⟨rfl, hB0⟩
    go_wp2_with fail
    refine (of_parts_any _ s (by omega)).mono ?_
    rintro e w1 ⟨⟨v, rfl, hP⟩, hB1⟩
    obtain ⟨oa, n, oc, rfl, hR⟩ := hP.read
    have hnl : n ≤ 60 := by have h1 := hR.len; have h2 := PL_len s; omega
    have HR := Lib.hid hR
    have HB := Lib.hid (hB0.trans (hB1.mono hB0.size))
    clear hR hP hB0 hB1
    go_wp2
    go_loopw [4] (fun v wr => SkRl s w1 v wr) (fun v _ => s.size + 1 - (intOf v).toNat)
    case atStart => exact ⟨0, by omega, rfl, Below.refl _ _⟩
    case round =>
      obtain ⟨a, ha, rfl, hBr⟩ := hrel
      by_cases hle : a ≤ s.size
      · have hle2 : (a : Int) ≤ s.size := by omega
        have q0 : (0 : Int) ≤ (a : Int) := by omega
        have href := fun W => refrun_any W (s.extract 0 a) (by simp; omega)
        simp only [runK_take s hle] at href
        have HREF := Lib.hid href
        have HBR := Lib.hid hBr
        clear href hBr
        go_wp2_with fail
        refine (HREF.out _).mono ?_
        rintro e w2 ⟨S, g, N, cap, rfl, hRv, hb2, _⟩
        have hB2 : Below w1.heap.size w1 w2 := HBR.out.trans (hb2.mono HBR.out.size)
        obtain ⟨fr, hfr⟩ : ∃ fr, (runK s a).fresh = fr := ⟨_, rfl⟩
        rw [hfr]
        obtain ⟨W3, hW3⟩ : ∃ W3, W3 = w2.alloc (.cells #[.string S, .slice (some ⟨g, 0, none⟩) N cap, .bool fr] 32) := ⟨_, rfl⟩
        have hB3 : Below w1.heap.size w1 W3 := by rw [hW3]; exact hB2.alloc hB2.size _
        have hbx : Blk W3 w2.heap.size #[.string S, .slice (some ⟨g, 0, none⟩) N cap, .bool fr] 32 := by rw [hW3]; exact Blk.new _ _ _
        have hRv3 := hRv.below (show Below w2.heap.size w2 W3 by rw [hW3]; exact (Below.refl _ _).alloc (Nat.le_refl _) _)
        obtain ⟨bx, hbxe⟩ : ∃ bx, w2.heap.size = bx := ⟨_, rfl⟩
        rw [hbxe] at hbx
        have HA := Lib.hid (around_any W3 (a : Int) oa n oc (pvP s) (HR.out.below hB3).prow (by omega))
        go_upto_region 10 with fail
        rw [← hW3]
        have HRV := Lib.hid hRv3
        have HBX := Lib.hid hbx
        have HB3 := Lib.hid hB3
        clear hW3 hRv hb2 hB2 hbxe hfr hRv3 hbx hB3
        go_wp2_with fail
        refine HA.out.mono ?_
        rintro e w4 ⟨v4, rfl, hO4, hb4⟩
        have hB4 : Below w1.heap.size w1 w4 := HB3.out.trans (hb4.mono HB3.out.size)
        have hAR : sel (aroundB (a : Int)) (pvP s) n = arN s a := by unfold arN; rw [HR.out.len]
        rw [hAR] at hO4
        obtain ⟨aa, ac, rfl, hRA⟩ := owns_rdo hO4
        obtain ⟨na, hna⟩ : ∃ na, (arN s a).length = na := ⟨_, rfl⟩
        have hnal : na ≤ 60 := by rw [← hna, ← hAR]; have := sel_len (aroundB (a : Int)) (pvP s) n; omega
        rw [hna] at hRA ⊢
        have HNA := Lib.hid hna
        have HRA := Lib.hid hRA
        have HB4 := Lib.hid hB4
        have HHB4 := Lib.hid hb4
        have HREAD := Lib.hid (fun W (hW : Below w1.heap.size w1 W) j p (hp : (PL s)[j]? = some p) => (HR.out.below hW).get hp)
        clear hO4 hRA hna hB4 hb4 hAR
        go_wp2
        go_loopw [7, 8] (fun v7 v8 wr => SaRl7 s a na w4 v7 v8 wr) (fun _ v _ => na - (intOf v).toNat)
        case atStart => exact ⟨0, Nat.zero_le _, rfl, World.ownsRow_nil _ _ _ _, Below.refl _ _⟩
        case round =>
          obtain ⟨i, hi, rfl, hown, hBi⟩ := hrel
          have hB5 : Below w1.heap.size w1 wr := HB4.out.trans (hBi.mono HB4.out.size)
          by_cases hlt : (i : Int) < (na : Int)
          · have hlt' : i < na := by omega
            have q1 : (0 : Int) ≤ (i : Int) := by omega
            have hiL : i < (arN s a).length := by have := HNA.out; omega
            obtain ⟨j, hj⟩ : ∃ j, (arN s a)[i]? = some j := ⟨_, List.getElem?_eq_getElem hiL⟩
            obtain ⟨f, hf, _, _⟩ := arN_mem.1 (List.mem_of_getElem? hj)
            have hpj : (PL s)[j]? = some (prt s f) := by unfold PL; rw [List.getElem?_map, hf]; rfl
            obtain ⟨ab, he, hablt, xa⟩ := (HRA.out.below hBi).cells i j hj
            subst he
            obtain ⟨ob, he, _, y0, y1, _, _, _⟩ := HREAD.out wr hB5 j _ hpj
            subst he
            rw [prt_frm] at y1
            have hjn : j < n := by have h1 := HR.out.len; have h2 := (List.getElem?_eq_some_iff.1 hpj).1; omega
            have hsu := arF_take hj hf
            have hfl : (arF s ((arN s a).take i)).length ≤ 60 := by
              unfold arF
              have h1 := List.length_filter_le (ndB s) (((arN s a).take i).map fun i => (bornL s s.size)[i]?.getD 0)
              simp at h1 ⊢
              omega
            have t1 : ¬ (j : Int) < 0 := by omega
            have t1d : decide ((j : Int) < 0) = false := by simp
            have t2 : ¬ (n : Int) ≤ (j : Int) := by omega
            have t3 : (j : Int) < (n : Int) := by omega
            have t4 : (0 : Int) ≤ (j : Int) := by omega
            obtain ⟨m, hm⟩ : ∃ m, (prt s f).mode = m := ⟨_, rfl⟩
            rw [hm] at y0
            have hnd : ndB s f = decide (m ≠ 12) := by unfold ndB; rw [hm]
            have HSU := Lib.hid hsu
            have HND := Lib.hid hnd
            have HOWN := Lib.hid hown
            have HBI := Lib.hid hBi
            clear hsu hnd hm hpj hf hj hiL hown hB5 hBi
            by_cases h12 : m = 12
            · subst h12
              go_wp2
              go_roundw
              case rel =>
                refine ⟨i + 1, by omega, by go_num, ?_, HBI.out⟩
                rw [HSU.out, if_neg (by rw [HND.out]; simp), List.append_nil]
                exact HOWN.out
              case measure => simp [intOf]; omega
            · have t12 : ((m : Int) != 12) = true := by simp; omega
              have t12' : ((m : Int) == 12) = false := beq_eq_false_iff_ne.2 (by omega)
              have H12 := Lib.hid h12
              clear h12
              go_wp2_with (at_builtin; refine wpList_append_own _ rfl _ _ 30 rfl w4.heap.size 3 i0 (.int .i64 0) 1 8 Try.underlying30 hi0 hz0 hz1 hz2 rfl (by decide) _ _ _ rfl (HOWN.out.alloc _) ⟨wr.heap.size, 0, none⟩ 1 1 [.int .i64 (f : Int)] rfl rfl (cell_one_new _ _ _) (by simp [Value.oneCell']) (by unfold maxLen; omega) (by omega) (by have := HBI.out.size; rw [World.size_alloc]; omega) ?_; intro v' w6 hown6 hgr6 _)
              go_roundw
              case rel =>
                refine ⟨i + 1, by omega, by go_num, ?_, (HBI.out.alloc HBI.out.size _).grown hgr6 (by have := HBI.out.size; rw [World.size_alloc]; omega) (own_ge HOWN.out)⟩
                rw [HSU.out, if_pos (by rw [HND.out]; simpa using H12.out)]
                have e : cellsO (arF s ((arN s a).take i) ++ [f]) = cellsO (arF s ((arN s a).take i)) ++ [.int .i64 (f : Int)] := by simp [cellsO]
                rw [e, List.length_append]
                exact hown6
              case measure => simp [intOf]; omega
          · obtain rfl : na = i := by omega
            -- the frames' places, one by one
            have htk : (arN s a).take na = arN s a := by rw [← HNA.out, List.take_length]
            rw [htk, stack_parts hle] at hown
            obtain ⟨fa, fc, rfl, hRF⟩ := owns_rdo hown
            obtain ⟨nf, hnf⟩ : ∃ nf, ((spl s a).filter (ndB s)).length = nf := ⟨_, rfl⟩
            rw [hnf] at hRF ⊢
            have hN : N = (nt s a).length + 1 := by rw [HRV.out.n, nt_st]; simp
            have hntl := nt_len s a
            have hspl : (spl s a).length = (nt s a).length := by unfold spl; simp
            have hnfl : nf ≤ 60 := by
              rw [← hnf]
              have := List.length_filter_le (ndB s) (spl s a)
              omega
            obtain ⟨W7, rfl⟩ : ∃ W7, W7 = wr := ⟨wr, rfl⟩
            have hx1 : W7.cell? ⟨bx, 1, none⟩ = some (.slice (some ⟨g, 0, none⟩) N cap) := (Blk.below (Blk.below HBX.out HHB4.out) hBi).cell 1
            have hRv7 := (HRV.out.below HHB4.out).below hBi
            have HX1 := Lib.hid (fun W (h : Frm (fun _ => False) W7 W) => (h.cell (a := ⟨bx, 1, none⟩) (Blk.lt (Blk.below (Blk.below HBX.out HHB4.out) hBi)) (fun h => h)).trans hx1)
            have HRV7 := Lib.hid (fun W (h : Frm (fun _ => False) W7 W) => hRv7.frm h (fun h => h))
            have HRF := Lib.hid hRF
            have HNF := Lib.hid hnf
            have HB5 := Lib.hid hB5
            have HN := Lib.hid hN
            have HSPL := Lib.hid hspl
            clear htk hown hRF hnf hx1 hRv7 hB5 hspl hBi hN
            have hpc : ∀ W, Frm (fun _ => False) W7 W → ∀ (j p : Nat), 1 ≤ j → (spl s a)[j - 1]? = some p → W.cell? ⟨g, j, none⟩ = some (.int .i64 (p : Int)) := by
              intro W hW j p h1 hp
              have h := (HRV7.out W hW).p
              rw [nt_st, List.reverse_append] at h
              unfold spl at hp
              rw [List.getElem?_map] at hp
              obtain ⟨x, hx, rfl⟩ := Option.map_eq_some_iff.1 hp
              refine Pw.cell h (x := x) ?_
              obtain ⟨j, rfl⟩ : ∃ i, j = i + 1 := ⟨j - 1, by omega⟩
              simpa using hx
            have HPC := Lib.hid hpc
            have HPL := Lib.hid HR.out.len
            clear hpc hlt
            have hNs : N ≤ 61 := by have := HN.out; omega
            have hN1 : 1 ≤ N := by have := HN.out; omega
            go_wp2
            go_loopw [9, 10] (fun v9 v10 wr => SbRl7 s a N W7 v9 v10 wr) (fun _ v _ => N - (intOf v).toNat)
            case atStart => exact ⟨1, 0, Nat.le_refl _, hN1, rfl, rfl, by simp, Frm.refl _ _⟩
            case round =>
              obtain ⟨i, k, h1i, hiN, rfl, rfl, hk, hF⟩ := hrel
              have hk60 : k ≤ 60 := by
                have h1 := List.length_filter_le (ndB s) ((spl s a).take (i - 1))
                have h2 := HSPL.out
                rw [List.length_take] at h1
                omega
              have HK := Lib.hid hk
              clear hk
              by_cases hlt2 : (i : Int) < (N : Int)
              · have hlt3 : i < N := by omega
                have hj : i - 1 < (spl s a).length := by have h1 := HN.out; have h2 := HSPL.out; omega
                obtain ⟨p, hp⟩ : ∃ p, (spl s a)[i - 1]? = some p := ⟨_, List.getElem?_eq_getElem hj⟩
                have hpp := spl_mem.1 (List.mem_of_getElem? hp)
                have hpl : p < a := pres_lt hpp
                have HPB := Lib.hid (pres_born hpp)
                have HP := Lib.hid hp
                have qi : (0 : Int) ≤ (i : Int) := by omega
                have c1 := HX1.out wr hF
                clear hj hp hpp
                go_wp2
                clear c1
                go_loopw [11, 12] (fun v11 v12 wr => ScRl7 s p n W7 v11 v12 wr) (fun _ v _ => n - (intOf v).toNat)
                case atStart => exact ⟨0, Nat.zero_le _, rfl, rfl, hF⟩
                case round =>
                  obtain ⟨c, hc, rfl, rfl, hFc⟩ := hrel
                  clear hF
                  have c1 := HX1.out wr hFc
                  have x1 := HPC.out wr hFc i p h1i HP.out
                  by_cases hcn : (c : Int) < (n : Int)
                  · have hcn' : c < n := by omega
                    have hcl : c < (PL s).length := by have := HPL.out; omega
                    obtain ⟨q, hq⟩ : ∃ q, (PL s)[c]? = some q := ⟨_, List.getElem?_eq_getElem hcl⟩
                    obtain ⟨ob, he, _, y0, y1, _, _, _⟩ := HREAD.out wr (HB5.out.trans (hFc.below HB5.out.size (fun _ h => h.elim))) c _ hq
                    subst he
                    have hsu := dolK_succ (p := p) hq
                    obtain ⟨m, hm⟩ : ∃ m, q.mode = m := ⟨_, rfl⟩
                    obtain ⟨fq, hfq⟩ : ∃ fq, q.frm = fq := ⟨_, rfl⟩
                    obtain ⟨D, hD⟩ : ∃ D, dolK s p c = D := ⟨_, rfl⟩
                    rw [hm] at y0 hsu
                    rw [hfq] at y1 hsu
                    rw [hD] at hsu
                    rw [hD]
                    have q1 : (0 : Int) ≤ (c : Int) := by omega
                    have HSU := Lib.hid hsu
                    clear hsu hm hfq hD hq hcl
                    cases D with
                    | true =>
                      go_wp2
                      go_quiet (fail)
                      go_wp2
                      go_roundw
                      case rel => exact ⟨c + 1, by omega, by go_num, by rw [HSU.out]; rfl, hFc.drewN _⟩
                      case measure => simp [intOf]; omega
                    | false =>
                      by_cases ef : p = fq
                      · obtain rfl := ef
                        by_cases e12 : m = 12
                        · subst e12
                          go_wp2
                          go_quiet (fail)
                          go_wp2
                          go_roundw
                          case rel => exact ⟨c + 1, by omega, by go_num, by rw [HSU.out]; simp, hFc.drewN _⟩
                          case measure => simp [intOf]; omega
                        · have e1 : ((m : Int) == 12) = false := beq_eq_false_iff_ne.2 (by omega)
                          have e2 : (m == 12) = false := beq_eq_false_iff_ne.2 e12
                          have E2 := Lib.hid e2
                          clear e12 e2
                          go_wp2
                          go_quiet (fail)
                          go_wp2
                          go_roundw
                          case rel => exact ⟨c + 1, by omega, by go_num, by rw [HSU.out, E2.out]; simp, hFc.drewN _⟩
                          case measure => simp [intOf]; omega
                      · have e1 : ((fq : Int) == (p : Int)) = false := beq_eq_false_iff_ne.2 (by omega)
                        have e2 : (fq == p) = false := beq_eq_false_iff_ne.2 (by omega)
                        have E2 := Lib.hid e2
                        have EF := Lib.hid ef
                        have ef1 : ¬ fq = p := by omega
                        clear ef
                        go_wp2
                        go_quiet (fail)
                        go_wp2
                        go_roundw
                        case rel => exact ⟨c + 1, by omega, by go_num, by rw [HSU.out, E2.out]; rfl, hFc.drewN _⟩
                        case measure => simp [intOf]; omega
                  · obtain rfl : n = c := by omega
                    have hde : dolK s p n = !ndB s p := by rw [HPL.out]; exact dolK_end HPB.out (by omega)
                    rw [hde]
                    have hft := filter_take (q := ndB s) HP.out
                    rw [show i - 1 + 1 = i by omega] at hft
                    by_cases hnd : ndB s p = true
                    · have hfa := filter_at HP.out hnd
                      rw [← HK.out] at hfa
                      rw [if_pos hnd] at hft
                      have hkn : k < nf := by rw [← HNF.out]; exact (List.getElem?_eq_some_iff.1 hfa).1
                      obtain ⟨fb, he, _, z0⟩ := (HRF.out.below (hFc.below (Nat.le_refl _) (fun _ h => h.elim))).cells k p hfa
                      subst he
                      rw [hnd, Bool.not_true]
                      have HFT := Lib.hid hft
                      have s1 : (0 : Int) ≤ (k : Int) := by omega
                      have s2 : (k : Int) < (nf : Int) := by omega
                      have s3 : ¬ (nf : Int) ≤ (k : Int) := by omega
                      have s4 : decide (nf ≤ k) = false := by simp; omega
                      clear hft hfa hde hnd hcn
                      go_wp2
                      go_quiet (fail)
                      go_wp2
                      go_roundw
                      case rel => exact ⟨i + 1, k + 1, by omega, by omega, by go_num, by go_num, by rw [Nat.add_sub_cancel, HFT.out, List.length_append, ← HK.out]; rfl, hFc.drewN _⟩
                      case measure => simp [intOf]; omega
                    · rw [if_neg hnd, List.append_nil] at hft
                      have hnf : ndB s p = false := by simpa using hnd
                      rw [hnf, Bool.not_false]
                      have HFT := Lib.hid hft
                      clear hft hnd hnf hde hcn
                      go_wp2
                      go_roundw
                      case rel => exact ⟨i + 1, k, by omega, by omega, by go_num, rfl, by rw [Nat.add_sub_cancel, HFT.out]; exact HK.out, hFc⟩
                      case measure => simp [intOf]; omega
              · obtain rfl : N = i := by omega
                have hke : k = nf := by
                  have h1 := HK.out
                  have h2 : N - 1 = (spl s a).length := by have h1 := HN.out; have h2 := HSPL.out; omega
                  rw [h2, List.take_length, HNF.out] at h1
                  exact h1
                obtain rfl : nf = k := hke.symm
                have c1 := HX1.out wr hF
                go_wp2
                go_roundw
                case rel => exact ⟨a + 1, by omega, by go_num, HB5.out.trans (hF.below HB5.out.size (fun _ h => h.elim))⟩
                case measure => simp [intOf]; omega
      · obtain rfl : a = s.size + 1 := by omega
        have hle2 : ¬ ((s.size + 1 : Nat) : Int) ≤ s.size := by omega
        go_wp2
        go_ret
        exact ⟨rfl, HB.out.trans (hBr.mono HB.out.size)⟩
  · have hz : (60 : Int) < (s.size : Int) := by omega
    go_enter Try.func5, Try.ntmps5
    go_wp2_with fail
    refine (awake_any _).mono ?_
    rintro e w0 ⟨rfl, hB0⟩
    go_wp2
    go_ret
    exact ⟨rfl, hB0⟩
end
end Go.Proofs.Ythelcmjgikfbjaa

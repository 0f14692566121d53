/- What layer 11's statement TreeShows does. Condition: nodes whose numbers are ints; the library's table of powers of ten lies as start-up lays it. -/
import Derived.Test.YtdiolfniaiojfaaDoorTrSh
import Derived.Test.YtdiolfniaiojfaaDoorTrX
import Derived.Test.YtdiolfniaiojfaaDoorTrSy
namespace Go.Proofs.YtdiolfniaiojfaaDoor
open Go.RowKit Go.Lib
set_option linter.unusedVariables false

theorem nums_of {nv : Nat → Nd} {n : Nat} {lv : Int} (h : Rt nv n lv) (hwf : ∀ i, i < n → (nv i).t < 9223372036854775808) : Nums nv n := fun i hi => by
  have h1 := h.ok i hi
  have h2 := nest h.ok i hi 0 (abv0 h.sp i hi)
  rw [h.f0] at h2
  have g1 := h1.k1
  have g2 := h1.k2
  have g3 := h1.ft
  have g4 := hwf i hi
  exact ⟨(nv i).k.toNat, (nv i).f.toNat, (nv i).t.toNat, by omega, by omega, by omega, by omega, by omega, by omega, by omega⟩
theorem nl_range {nv : Nat → Nd} {n i : Nat} (hi : i < n) : nl ((List.range n).map nv) i = nv i := by
  have : ((List.range n).map nv)[i]? = some (nv i) := by rw [List.getElem?_map, List.getElem?_range hi]; rfl
  exact nl_at this
theorem map_nl (L : List Nd) : (List.range L.length).map (nl L) = L := by
  apply List.ext_getElem?
  intro i
  rw [List.getElem?_map]
  rcases Nat.lt_or_ge i L.length with h | h
  · rw [List.getElem?_range h, List.getElem?_eq_getElem h]
    simp only [Option.map_some]
    rw [nl_at (List.getElem?_eq_getElem h)]
  · rw [List.getElem?_eq_none (by simpa using h), List.getElem?_eq_none h]
    rfl
section
variable (w : World)
set_option maxRecDepth 100000 in
set_option maxHeartbeats 8000000 in
theorem treeShows_row (ao : Option Addr) (len cap : Nat) (L0 : List Nd) (hL0 : L0.length = len) (nv : Nat → Nd) (hnv : nv = nl L0) (hrow : NRow w ao len nv) (hwf : ∀ i, i < len → (nv i).t < 9223372036854775808) (hT : Tb w) :
    Calls Tryd.prog 3 #[.slice ao len cap] w fun e w' => e = .returned (.bool true) ∧ Below w.heap.size w w' := by
  have HMAP : Hid ((List.range len).map nv = L0) := Lib.hid (by rw [hnv, ← hL0]; exact map_nl L0)
  have HNV := Lib.hid hnv
  have HL0 := Lib.hid hL0
  clear hnv hL0
  have HROW := Lib.hid hrow
  have HWF := Lib.hid hwf
  have HTB := Lib.hid hT
  clear hrow hwf hT
  go_enter Tryd.func3, Tryd.ntmps3
  go_wp2_with fail
  refine (awake_any _).mono ?_
  rintro e w0 ⟨rfl, hB0⟩
  have HR0 := Lib.hid (HROW.out.below hB0)
  have HT0 := Lib.hid (HTB.out.below hB0 HTB.out.lt)
  have HB0 := Lib.hid hB0
  clear hB0
  by_cases h40 : 40 < len
  · have q1 : (40 : Int) < (len : Int) := by omega
    go_wp2_with fail
    go_ret
    exact ⟨rfl, HB0.out⟩
  · have q1 : ¬ (40 : Int) < (len : Int) := by omega
    rcases Nat.eq_zero_or_pos len with h0 | h0
    · subst h0
      have HS := Lib.hid (show_none w0 ao cap)
      go_wp2_with fail
      refine HS.out.mono ?_
      rintro e w1 ⟨rfl, hb1⟩
      have HB1 := Lib.hid (HB0.out.trans (hb1.mono HB0.out.size))
      clear hb1
      go_wp2_with fail
      go_ret
      exact ⟨by simp, HB1.out⟩
    · have q2 : ((len : Int) == 0) = false := by simp; omega
      by_cases hR : Rt nv len (nv 0).t
      · have hN := nums_of hR HWF.out
        have HS := Lib.hid (show_yes w0 ao len cap nv HR0.out (by omega) hN hR HT0.out)
        have HR := Lib.hid hR
        have HN := Lib.hid hN
        clear hR hN
        go_wp2_with fail
        refine HS.out.mono ?_
        rintro e w1 ⟨rfl, hb1⟩
        have HB1 := Lib.hid (HB0.out.trans (hb1.mono HB0.out.size))
        have hR1 := HR0.out.below hb1
        have HR1 := Lib.hid hR1
        have HC := Lib.hid (fun X (hX : Below w1.heap.size w1 X) => refright_any X ao len cap nv (hR1.below hX) (nv 0).t (by omega))
        obtain ⟨b, off, hao, hbw, c0, c1, c2, c3⟩ := hR1 0 h0
        simp only [Nat.zero_mul, Nat.add_zero] at c2
        obtain ⟨tt, htt⟩ : ∃ x, (nv 0).t = x := ⟨_, rfl⟩
        rw [htt] at c2 HC
        have HTT := Lib.hid htt
        have HC2 := Lib.hid c2
        obtain ⟨F, hF⟩ : ∃ F, lst (fullL nv len) = F := ⟨_, rfl⟩
        have HF := Lib.hid hF
        subst hao
        rw [hF]
        clear hb1 hR1 c0 c1 c3 htt hF HS HR0
        go_wp2_with fail
        refine (HC.out _ (Below.refl _ _)).mono ?_
        rintro e wc ⟨⟨x, rfl, hx⟩, hb2⟩
        obtain rfl : x = true := hx.2 (by rw [← HTT.out]; exact HR.out)
        · clear hx
          have hR2 := HR1.out.below hb2
          have HR2 := Lib.hid hR2
          have HB2 := Lib.hid (HB1.out.trans (hb2.mono HB1.out.size))
          have HSH := Lib.hid (refshow_any nv len (by omega) HR.out.sp HN.out (some ⟨b, off, none⟩) cap len 0 h0 (by omega) wc hR2)
          clear hb2 hR2 c2 HC HC2
          go_wp2_with fail
          refine HSH.out.mono ?_
          rintro e w3 ⟨T, rfl, hT, hb3⟩
          have hTF : lst T = F := by rw [hT.zero HR.out]; exact HF.out
          rw [hTF]
          have hR3 := HR2.out.below hb3
          have HR3 := Lib.hid hR3
          have HB3 := Lib.hid (HB2.out.trans (hb3.mono HB2.out.size))
          obtain ⟨b', off', hao, hbw', c0, c1, c2, c3⟩ := hR3 0 h0
          simp only [Nat.zero_mul, Nat.add_zero, HTT.out] at c2
          obtain ⟨rfl, rfl⟩ : b = b' ∧ off = off' := by simpa using hao
          have q3 : (F.toList == F.toList) = true := by simp
          clear hT hTF hb3 hR3 c0 c1 c3 hao HSH
          by_cases hm : (1000000 : Int) < tt
          · go_wp2_with fail
            go_ret
            exact ⟨rfl, HB3.out⟩
          · have hfm := fm_full HR.out (by rw [HTT.out]; omega : (nv 0).t < 10000000)
            have hfl := fullL_len HN.out (by omega : len ≤ 40)
            have hsz : F.size ≤ 100000 := by rw [← HF.out, lst_size]; omega
            have HFM : Hid (Fm F true 0 (-1) [] ((List.range len).map nv, -1)) := Lib.hid (by rw [← HF.out]; exact hfm)
            have HRD := Lib.hid (read_any w3 F hsz)
            clear hfm hfl hsz
            go_wp2_with fail
            refine HRD.out.mono ?_
            rintro e w4 (⟨p, hfm, _, _⟩ | ⟨L, hfm, _, hrt, _, _⟩ | ⟨L, oa, oc, hfm, hne, hlen, hrt, rfl, hown, hb4⟩)
            · exfalso
              have h := hfm.one HFM.out
              have h1 := (Prod.mk.inj h).2
              omega
            · exfalso
              have h := hfm.one HFM.out
              obtain ⟨rfl, _⟩ := Prod.mk.inj h
              apply hrt
              rw [HMAP.out, HL0.out, ← HNV.out]
              exact HR.out
            · have h := hfm.one HFM.out
              obtain ⟨rfl, _⟩ := Prod.mk.inj h
              have hlr : ((List.range len).map nv).length = len := by simp
              have hnr := (owns_nrow hown).2
              rw [hlr] at hnr hown ⊢
              have hnr2 : NRow w4 oa len nv := hnr.congr (fun i hi => nl_range hi)
              have HSM := Lib.hid (fun X (hX : Below w4.heap.size w4 X) => same_yes X oa (some ⟨b, off, none⟩) len oc cap nv (hnr2.below hX) ((HR3.out.below hb4).below hX) (by omega))
              have HB4 := Lib.hid (HB3.out.trans (hb4.mono HB3.out.size))
              clear hfm hne hlen hrt hown hnr hnr2 h hb4
              go_wp2_with fail
              refine (HSM.out _ (by first | exact Below.refl _ _ | exact (Below.refl _ _).drew)).mono ?_
              rintro e w5 ⟨rfl, hb5⟩
              have HB5 := Lib.hid (HB4.out.trans (hb5.mono HB4.out.size))
              clear hb5
              go_wp2_with fail
              go_ret
              exact ⟨rfl, HB5.out⟩
      · have HS := Lib.hid (show_no w0 ao len cap nv HR0.out (by omega) h0 hR)
        have HR := Lib.hid hR
        clear hR
        go_wp2_with fail
        refine HS.out.mono ?_
        rintro e w1 ⟨rfl, hb1⟩
        have HB1 := Lib.hid (HB0.out.trans (hb1.mono HB0.out.size))
        have hR1 := HR0.out.below hb1
        have HC := Lib.hid (fun X (hX : Below w1.heap.size w1 X) => refright_any X ao len cap nv (hR1.below hX) (nv 0).t (by omega))
        obtain ⟨b, off, hao, hbw, c0, c1, c2, c3⟩ := hR1 0 h0
        simp only [Nat.zero_mul, Nat.add_zero] at c2
        obtain ⟨tt, htt⟩ : ∃ x, (nv 0).t = x := ⟨_, rfl⟩
        rw [htt] at c2 HC
        have HTT := Lib.hid htt
        subst hao
        clear hb1 hR1 c0 c1 c3 htt HS HR0
        go_wp2_with fail
        refine (HC.out _ (Below.refl _ _)).mono ?_
        rintro e wc ⟨⟨x, rfl, hx⟩, hb2⟩
        obtain rfl : x = false := by
          cases x
          · rfl
          · exact absurd (by rw [HTT.out]; exact hx.1 rfl) HR.out
        have HB2 := Lib.hid (HB1.out.trans (hb2.mono HB1.out.size))
        clear hx hb2
        go_wp2_with fail
        go_ret
        exact ⟨by simp, HB2.out⟩
theorem treeShows_law (ao : Option Addr) (len cap : Nat) (nv : Nat → Nd) (hrow : NRow w ao len nv) (hwf : ∀ i, i < len → (nv i).t < 9223372036854775808) (hT : Tb w) :
    Calls Tryd.prog 3 #[.slice ao len cap] w fun e w' => e = .returned (.bool true) ∧ Below w.heap.size w w' :=
  treeShows_row w ao len cap ((List.range len).map nv) (by simp) _ rfl (hrow.congr (fun i hi => (nl_range hi).symm)) (fun i hi => by rw [nl_range hi]; exact hwf i hi) hT
end
end Go.Proofs.YtdiolfniaiojfaaDoor

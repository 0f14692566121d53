/- What fits, First and Right of layer 12 (rules) return at the tree of one command of so many words. Condition: at most a thousand words, of at most a million bytes. -/
import Derived.Test.YtmjckjbdkffkoaaDoorRuAb
import Derived.Test.YtmjckjbdkffkoaaDoorRuAc
import Derived.Test.YtmjckjbdkffkoaaDoorRuAe
import Derived.Test.YtmjckjbdkffkoaaDoorTrA
namespace Go.Proofs.YtmjckjbdkffkoaaDoor
open Go.RowKit
set_option linter.unusedVariables false

/-- Does each node of such a tree fit? -/
def okS (n : Nat) (c : Bool) (i : Nat) : Bool := if n = 0 then decide (i = 0) else if i = 4 then c else true
theorem first_okS (n : Nat) (c : Bool) : decide (fstB (okS n c) (n + 5) 0 < 0) = (decide (0 < n) && c) := by
  rcases Nat.eq_zero_or_pos n with rfl | hp
  · have h := fstB_not (ok := okS 0 c) (d := 0 + 5) (a := 0) (j := 1) (by omega) (by omega) (by unfold okS; rfl)
    rw [decide_eq_false (by omega : ¬ fstB (okS 0 c) (0 + 5) 0 < 0)]
    rfl
  · rw [decide_eq_true hp, Bool.true_and]
    cases c
    · have h := fstB_not (ok := okS n false) (d := n + 5) (a := 0) (j := 4) (by omega) (by omega) (by unfold okS; rw [if_neg (by omega), if_pos rfl])
      exact decide_eq_false (by omega)
    · rw [fstB_ok (fun i _ _ => by unfold okS; rw [if_neg (by omega)]; split <;> rfl)]
      rfl
section
variable (w : World)
theorem sm_one (v : Vw) (lv : Nat → Lf) (n k : Nat) (K : Int) (hV : VwOk w v lv (smN n) [k]) (hn : n ≤ v.ln) (hk : (smN n v.i).k = K) (hf : (smN n v.i).f = 0) (ht : (smN n v.i).t = (n : Int))
    (k1 : 1 ≤ (smN n k).k) (k2 : (smN n k).k ≤ 18) (kf : (smN n k).f = 0) (kt : (smN n k).t = (n : Int)) (hfm : FmOk K (btsN [letN (smN n k).k])) (hK : K = 1 ∨ K = 2 ∨ K = 3 ∨ K = 4) (hft : 0 < n ∨ K = 1) :
    Calls Tryd.prog 46 #[.agg v.cs] w fun r w' => r = .returned (.bool true) ∧ Below w.heap.size w w' :=
  fits_yes w v lv (smN n) [k] hV K 0 n hk hf ht (by omega) (hft.imp (fun h => by omega) id) (btsN [letN (smN n k).k]) true
    (fun W hW => by
      have h := vrow_any W v lv (smN n) [k] (hV.below hW) 0 n hf ht hn (kdt_one k1 k2 kf kt) (by have := hV.k.len; simp at this; omega)
      rwa [row_one kt] at h)
    (fun W => formed_at W K _ (by rw [btsN_size]; exact Nat.le_of_ble_eq_true rfl) hfm)
    (fun W hW => besides_plain W v lv (smN n) [k] (hV.below hW) 0 hf K hk (by omega))
theorem sm_fits (la : Option Addr) (lc : Nat) (lv : Nat → Lf) (ao : Option Addr) (n cap : Nat) (tx : Nat → ByteArray) (hlv : ∀ i, i < n → lv i = ⟨6, tx i, 0, 0⟩) (c : Bool) (hc : (!resB (tx 0) && decide (assignN (tx 0) = 0)) = c)
    (i : Nat) (ka : Option Addr) (kn kc : Nat) (hi : i < n + 5) (hkn : kn = (kidK (smN n) (n + 5) (i : Int) 1).length) (hV : VwOk w ⟨la, n, lc, ao, n + 5, cap, i, ka, kn, kc⟩ lv (smN n) (kidK (smN n) (n + 5) (i : Int) 1)) :
    Calls Tryd.prog 46 #[.agg #[.slice la n lc, .slice ao (n + 5) cap, .int .i64 (i : Int), .slice ka kn kc]] w fun r w' => r = .returned (.bool (okS n c i)) ∧ Below w.heap.size w w' := by
  have hnn : n ≤ 10000 := hV.ln
  rcases (by omega : i = 0 ∨ (i ≠ 0 ∧ n = 0) ∨ (0 < n ∧ i = 1) ∨ (0 < n ∧ i = 2) ∨ (0 < n ∧ i = 3) ∨ (0 < n ∧ i = 4) ∨ (0 < n ∧ 5 ≤ i)) with rfl | ⟨h0, rfl⟩ | ⟨hp, rfl⟩ | ⟨hp, rfl⟩ | ⟨hp, rfl⟩ | ⟨hp, rfl⟩ | ⟨hp, h5⟩
  · have e : okS n c 0 = true := by unfold okS; split <;> rfl
    rw [e]
    rw [kid0] at hV
    exact sm_one w ⟨la, n, lc, ao, n + 5, cap, 0, ka, kn, kc⟩ lv n 1 1 hV (Nat.le_refl _) (by rw [sm0]) (by rw [sm0]) (by rw [sm0]) (by rw [sm1]; dsimp only; decide) (by rw [sm1]; dsimp only; decide) (by rw [sm1]) (by rw [sm1]) (.inl ⟨rfl, by rw [sm1]; rfl⟩) (.inl rfl) (.inr rfl)
  · have e : okS 0 c i = false := by unfold okS; rw [if_pos rfl]; exact decide_eq_false h0
    rw [e]
    have hK : (smN 0 i).k ≠ 1 ∧ (smN 0 i).t ≤ (smN 0 i).f := by
      rcases (by omega : i = 1 ∨ i = 2 ∨ i = 3 ∨ i = 4) with rfl | rfl | rfl | rfl
      · rw [sm1]; dsimp only; decide
      · rw [sm2]; dsimp only; decide
      · rw [sm3]; dsimp only; decide
      · rw [sm4]; dsimp only; decide
    exact fits_out w ⟨la, 0, lc, ao, 0 + 5, cap, i, ka, kn, kc⟩ lv (smN 0) _ hV _ _ _ rfl rfl rfl hK.1 hK.2
  · have e : okS n c 1 = true := by unfold okS; rw [if_neg (by omega)]; rfl
    rw [e]
    rw [kid1] at hV
    exact sm_one w ⟨la, n, lc, ao, n + 5, cap, 1, ka, kn, kc⟩ lv n 2 2 hV (Nat.le_refl _) (by rw [sm1]) (by rw [sm1]) (by rw [sm1]) (by rw [sm2]; dsimp only; decide) (by rw [sm2]; dsimp only; decide) (by rw [sm2]) (by rw [sm2]) (.inr (.inl ⟨rfl, by rw [sm2]; rfl⟩)) (.inr (.inl rfl)) (.inl hp)
  · have e : okS n c 2 = true := by unfold okS; rw [if_neg (by omega)]; rfl
    rw [e]
    rw [kid2] at hV
    exact sm_one w ⟨la, n, lc, ao, n + 5, cap, 2, ka, kn, kc⟩ lv n 3 3 hV (Nat.le_refl _) (by rw [sm2]) (by rw [sm2]) (by rw [sm2]) (by rw [sm3]; dsimp only; decide) (by rw [sm3]; dsimp only; decide) (by rw [sm3]) (by rw [sm3]) (.inr (.inr (.inl ⟨rfl, by rw [sm3]; rfl⟩))) (.inr (.inr (.inl rfl))) (.inl hp)
  · have e : okS n c 3 = true := by unfold okS; rw [if_neg (by omega)]; rfl
    rw [e]
    rw [kid3] at hV
    exact sm_one w ⟨la, n, lc, ao, n + 5, cap, 3, ka, kn, kc⟩ lv n 4 4 hV (Nat.le_refl _) (by rw [sm3]) (by rw [sm3]) (by rw [sm3]) (by rw [sm4]; dsimp only; decide) (by rw [sm4]; dsimp only; decide) (by rw [sm4]) (by rw [sm4]) (.inr (.inr (.inr (.inl ⟨rfl, by rw [sm4]; rfl⟩)))) (.inr (.inr (.inr rfl))) (.inl hp)
  · have e : okS n c 4 = c := by unfold okS; rw [if_neg (by omega), if_pos rfl]
    rw [e]
    rw [kid4] at hV hkn
    rw [List.length_range'] at hkn
    have hkn' := hkn.symm
    subst hkn'
    have hV' := hV
    rw [show n = n - 1 + 1 from by omega, List.range'_succ] at hV'
    rw [show n - 1 + 1 = n from by omega] at hV'
    refine fits_yes w ⟨la, n, lc, ao, n + 5, cap, 4, ka, n, kc⟩ lv (smN n) _ hV 5 0 n (by rw [sm4]) (by rw [sm4]) (by rw [sm4]) (by decide) (.inl (by omega)) (btsN (List.replicate n 87)) c (fun W hW => ?_) (fun W => formed_at W 5 _ (by rw [btsN_size, List.length_replicate]; omega) (fm_words hp)) (fun W hW => ?_)
    · have h := vrow_any W ⟨la, n, lc, ao, n + 5, cap, 4, ka, n, kc⟩ lv (smN n) _ (hV.below hW) 0 n (by rw [sm4]; rfl) (by rw [sm4]) (Nat.le_refl _) (kdt_words n n 0 (by omega)) hnn
      rwa [row_words n n 0 (by omega)] at h
    · have h := besides_simple W ⟨la, n, lc, ao, n + 5, cap, 4, ka, n, kc⟩ lv (smN n) 5 _ (hV'.below hW) 0 (by rw [sm4]; rfl) hp 5 (by rw [sm4]) rfl (by rw [sm4]) (by rw [show 5 = 0 + 5 from rfl, smw hp]) 0 (by rw [show 5 = 0 + 5 from rfl, smw hp]) hp (by rw [show 5 = 0 + 5 from rfl, smw hp]; dsimp only; omega) (resB (tx 0)) (!decide (assignN (tx 0) = 0)) (by rw [hlv 0 hp]; rfl) (by rw [hlv 0 hp])
      rw [Bool.not_not, hc] at h
      exact h
  · obtain ⟨j, rfl⟩ : ∃ j, i = j + 5 := ⟨i - 5, by omega⟩
    have hj : j < n := by omega
    have e : okS n c (j + 5) = true := by unfold okS; rw [if_neg (by omega), if_neg (by omega)]
    rw [e]
    rw [kidw] at hV hkn
    subst hkn
    refine fits_yes w ⟨la, n, lc, ao, n + 5, cap, j + 5, ka, 0, kc⟩ lv (smN n) [] hV 7 j (j + 1) (by rw [smw hj]) (by rw [smw hj]) (by rw [smw hj]) (by decide) (.inl (by omega)) (btsN [sgn 6 (tx j)]) true (fun W hW => ?_) (fun W => formed_at W 7 _ (by rw [btsN_size]; exact Nat.le_of_ble_eq_true rfl) (fm_word _)) (fun W hW => besides_plain W ⟨la, n, lc, ao, n + 5, cap, j + 5, ka, 0, kc⟩ lv (smN n) [] (hV.below hW) j (by rw [smw hj]) 7 (by rw [smw hj]) (by omega))
    have h := vrow_any W ⟨la, n, lc, ao, n + 5, cap, j + 5, ka, 0, kc⟩ lv (smN n) [] (hV.below hW) j (j + 1) (by rw [smw hj]) (by rw [smw hj]; rfl) hj (by show j ≤ j + 1; omega) (Nat.zero_le _)
    have e2 : rowTg (fun i => sgn (lv i).k (lv i).s) (smN n) [] j (j + 1) = [sgn 6 (tx j)] := by
      show segP _ j (j + 1 - j) = _
      rw [show j + 1 - j = 1 from by omega]
      show [sgn (lv j).k (lv j).s] = _
      rw [hlv j hj]
    rwa [e2] at h
set_option maxRecDepth 100000 in
set_option maxHeartbeats 2000000 in
theorem rright_smp (la : Option Addr) (lc : Nat) (lv : Nat → Lf) (ao : Option Addr) (n cap : Nat) (tx : Nat → ByteArray) (hl : LfRow w la n lv) (hlv : ∀ i, i < n → lv i = ⟨6, tx i, 0, 0⟩) (hrow : NRow w ao (n + 5) (smN n)) (hT : Tx w) (hn : n ≤ 1000) (hs : ∀ i, i < n → (tx i).size ≤ 1000000) :
    Calls Tryd.prog 22 #[.slice la n lc, .slice ao (n + 5) cap] w fun e w' => e = .returned (.bool (decide (0 < n) && (!resB (tx 0) && decide (assignN (tx 0) = 0)))) ∧ Below w.heap.size w w' := by
  obtain ⟨c, hc⟩ : ∃ c, (!resB (tx 0) && decide (assignN (tx 0) = 0)) = c := ⟨_, rfl⟩
  have HCK := Lib.hid (check_any w ao (n + 5) cap (smN n) hrow n (by omega))
  have HFI := Lib.hid (fun W (hW : Below w.heap.size w W) => first_any W la n lc lv ao (n + 5) cap (smN n) (hl.below hW) (hrow.below hW) (sm_rt n).sp (by omega) (by omega) (by omega) (fun i hi => by rw [hlv i hi]; exact hs i hi) (hT.b hW) (okS n c) (fun W2 i ka kn kc hi _ hkn hV => sm_fits W2 la lc lv ao n cap tx hlv c hc i ka kn kc hi hkn hV))
  rw [hc, ← first_okS]
  obtain ⟨fr, hfr⟩ : ∃ fr, fstB (okS n c) (n + 5) 0 = fr := ⟨_, rfl⟩
  rw [hfr] at HFI ⊢
  have HROW := Lib.hid hrow
  clear hl hlv hrow hT hs hc hfr
  go_enter Tryd.func22, Tryd.ntmps22
  go_wp2_with fail
  refine HCK.out.mono ?_
  rintro e w2 ⟨⟨b, rfl, hb⟩, hb2⟩
  obtain rfl : b = true := hb.2 (sm_rt n)
  obtain ⟨nb, no, rfl, hnb, c0, c1, c2, c3⟩ := (HROW.out.below hb2) 0 (by omega)
  rw [sm0, Nat.zero_mul, Nat.add_zero] at c0
  have HB2 := Lib.hid hb2
  have q0 : (0 : Int) < ((n + 5 : Nat) : Int) := by omega
  have q1 : (0 : Int) < (n : Int) + 5 := by omega
  clear c1 c2 c3 hb hb2
  go_wp2_with fail
  refine (HFI.out _ HB2.out).mono ?_
  rintro e w3 ⟨rfl, hb3⟩
  have HB3 := Lib.hid (HB2.out.trans (hb3.mono HB2.out.size))
  clear hb3
  go_wp2
  go_ret
  exact ⟨rfl, HB3.out⟩
end
end Go.Proofs.YtmjckjbdkffkoaaDoor

/- What layer 11's statement TreeKids does. No condition but that the nodes can be read. -/
import Derived.Test.YtppipngdakfbpaaTrB
import Derived.Test.YtppipngdakfbpaaTrX
import Derived.Test.YtppipngdakfbpaaTrG
namespace Go.Proofs.Ytppipngdakfbpaa
open Go.RowKit
set_option linter.unusedVariables false

/-- Is a node another one, or above it? (as a Bool) -/
noncomputable def abB (nv : Nat → Nd) (k i : Nat) : Bool := @decide (Abv nv k i) (Classical.propDecidable _)
theorem abB_iff {nv : Nat → Nd} {k i : Nat} : abB nv k i = true ↔ Abv nv k i := by unfold abB; simp
theorem selN_cut {P : Nat → Bool} {m n : Nat} (hm : m ≤ n) (h : ∀ k, m ≤ k → k < n → P k = false) : selN P n = selN P m := by
  have : ∀ d, m + d ≤ n → selN P (m + d) = selN P m := by
    intro d
    induction d with
    | zero => intro _; rfl
    | succ d ih =>
      intro hd
      rw [show m + (d + 1) = (m + d) + 1 from rfl, selN_succ, ih (by omega), h (m + d) (by omega) (by omega)]
      simp
  have h2 := this (n - m) (by omega)
  rwa [show m + (n - m) = n from by omega] at h2
theorem chn_sel {nv : Nat → Nd} {n : Nat} (hs : Sp nv n) : ∀ i, i < n → (chn nv i).reverse = selN (fun k => abB nv k i) n := by
  intro i
  induction i using Nat.strongRecOn with
  | _ i ih =>
    intro hi
    have h1 : selN (fun k => abB nv k i) n = selN (fun k => abB nv k i) i ++ [i] := by
      rw [selN_cut (m := i + 1) (by omega) (fun k h1 h2 => by
        rw [← Bool.not_eq_true, abB_iff]
        intro h
        have := h.le
        omega), selN_succ, if_pos (abB_iff.2 .self)]
    rw [h1]
    rcases Nat.eq_zero_or_pos i with rfl | h0
    · rw [chn_top (by rw [hs.1]; decide)]
      rfl
    · obtain ⟨u, e, l, _⟩ := hs.2 i h0 hi
      rw [chn_up e l, List.reverse_cons, ih u l (by omega)]
      congr 1
      rw [selN_cut (m := i) (by omega) (fun k h1 h2 => by
        rw [← Bool.not_eq_true, abB_iff]
        intro h
        have := h.le
        omega)]
      refine selN_congr (fun k hk => ?_)
      rw [Bool.eq_iff_iff, abB_iff, abB_iff]
      constructor
      · intro h; exact .up e l h
      · intro h
        rcases h.inv with rfl | ⟨c, e', l', g⟩
        · omega
        · obtain rfl : c = u := by omega
          exact g
/-- What the law holds for where the end is. -/
def endv (i e k : Nat) : Nat := if k ≤ i + 1 then i + 1 else min k e
theorem endv_succ {i e k : Nat} (he : i < e) : endv i e (k + 1) = if i ≤ k ∧ k < e then k + 1 else endv i e k := by
  unfold endv
  (repeat' split) <;> omega
theorem endv_last {i e n : Nat} (he : i < e) (hn : e ≤ n) : endv i e n = e := by
  unfold endv
  split <;> omega
def KdR (P Q : Nat → Bool) (i e len : Nat) (w : World) (v7 v8 v9 v10 : Value) (wr : World) : Prop :=
  wr = w ∧ ∃ k na nb : Nat, v10 = .int .i64 (k : Int) ∧ k ≤ len ∧ v7 = .int .i64 (na : Int) ∧ v8 = .int .i64 (nb : Int) ∧ na = (selN P k).length ∧ nb = (selN Q k).length ∧ v9 = .int .i64 (endv i e k : Int)
section
variable (w : World)
set_option maxRecDepth 100000 in
set_option maxHeartbeats 8000000 in
theorem treeKids_law (ao : Option Addr) (len cap : Nat) (nv : Nat → Nd) (ii : Int) (hrow : NRow w ao len nv) :
    Calls Try.prog 4 #[.slice ao len cap, .int .i64 ii] w fun e w' => e = .returned (.bool true) ∧ Below w.heap.size w w' := by
  have HROW := Lib.hid hrow
  clear hrow
  go_enter Try.func4, Try.ntmps4
  go_wp2_with fail
  refine (awake_any _).mono ?_
  rintro e w0 ⟨rfl, hB0⟩
  have HR0 := Lib.hid (HROW.out.below hB0)
  have HRI := Lib.hid (right_any w0 ao len cap nv (fun _ => HR0.out))
  have HB0 := Lib.hid hB0
  clear hB0
  go_wp2_with fail
  refine HRI.out.mono ?_
  rintro e w1 ⟨⟨x, rfl, hx⟩, hb1⟩
  have HB1 := Lib.hid (HB0.out.trans (hb1.mono HB0.out.size))
  have HR1 := Lib.hid (HR0.out.below hb1)
  have HX := Lib.hid hx
  clear hx hb1
  cases x
  · go_wp2
    go_ret
    exact ⟨rfl, HB1.out⟩
  · have hrt := HX.out.1 (by trivial)
    have hl40 := hrt.1
    have HRT := Lib.hid hrt.2
    have HSP := Lib.hid hrt.2.sp
    clear hrt
    by_cases hi : 0 ≤ ii ∧ ii < (len : Int)
    · obtain ⟨i, rfl⟩ : ∃ i : Nat, ii = (i : Int) := ⟨ii.toNat, by omega⟩
      have hil : i < len := by omega
      obtain ⟨E, hE⟩ := isEnd_ex nv len i hil
      have HE := Lib.hid hE
      have hK := kidsIn_sel HSP.out hE hil
      have hQ := chn_sel HSP.out i hil
      have hiE := hE.lt
      have hEl := hE.le
      obtain ⟨P, hP⟩ : ∃ P : Nat → Bool, (fun k => decide ((nv k).u = (i : Int))) = P := ⟨_, rfl⟩
      obtain ⟨Q, hQQ⟩ : ∃ Q : Nat → Bool, (fun k => abB nv k i) = Q := ⟨_, rfl⟩
      rw [hP] at hK
      rw [hQQ] at hQ
      have hql : (chn nv i).length = (selN Q len).length := by rw [← hQ, List.length_reverse]
      have HKI := Lib.hid (kids_any w1 ao len cap nv HR1.out i hil (by omega) E hE _ hK)
      have HPP := Lib.hid hP
      have HQQ := Lib.hid hQQ
      have HQL := Lib.hid hql
      have HQ := Lib.hid hQ
      clear hE hK hQ hP hQQ hql hi
      have s1 : (0 : Int) ≤ (i : Int) := by omega
      have s2 : ¬ (i : Int) < 0 := by omega
      have s3 : ¬ (len : Int) ≤ (i : Int) := by omega
      have s3' : decide (len ≤ i) = false := by simp; omega
      have s4' : decide ((i : Int) < 0) = false := by simp
      go_wp2_with fail
      refine HKI.out.mono ?_
      rintro e w2 ⟨v, rfl, hO2, hb2⟩
      have HR2 := Lib.hid (HR1.out.below hb2)
      have HB2 := Lib.hid (HB1.out.trans (hb2.mono HB1.out.size))
      obtain ⟨oa, oac, rfl, hRA⟩ := owns_rdo hO2
      have HPA := Lib.hid (path_any w2 ao len cap nv HR2.out HSP.out i hil (by omega))
      clear hO2 hb2
      go_wp2_with fail
      refine HPA.out.mono ?_
      rintro e w3 ⟨⟨ob, obc, rfl, hO3⟩, hb3⟩
      rw [HQ.out] at hO3
      rw [HQL.out] at hO3 ⊢
      obtain ⟨ob', oc', hvv, hRB⟩ := owns_rdo hO3
      obtain ⟨rfl, rfl⟩ : ob = ob' ∧ obc = oc' := by simpa using hvv
      have HRA := Lib.hid (hRA.below hb3)
      have HRB := Lib.hid hRB
      have HR3 := Lib.hid (HR2.out.below hb3)
      have HB3 := Lib.hid (HB2.out.trans (hb3.mono HB2.out.size))
      have hla := selN_len P len
      have hlb := selN_len Q len
      obtain ⟨ta, hta⟩ : ∃ ta, (selN P len).length = ta := ⟨_, rfl⟩
      obtain ⟨tb, htb⟩ : ∃ tb, (selN Q len).length = tb := ⟨_, rfl⟩
      rw [hta] at hla HRA ⊢
      rw [htb] at hlb HRB ⊢
      have HTA := Lib.hid hta
      have HTB := Lib.hid htb
      clear hO3 hvv hRA hRB hb3 hta htb
      go_wp2
      go_loopw [7, 8, 9, 10] (fun v7 v8 v9 v10 wr => KdR P Q i E len w3 v7 v8 v9 v10 wr) (fun _ _ _ v _ => len - (intOf v).toNat)
      case atStart => exact ⟨rfl, 0, 0, 0, rfl, Nat.zero_le _, rfl, rfl, rfl, rfl, by unfold endv; go_num⟩
      case round =>
        obtain ⟨hwr, k, na, nb, rfl, hk, rfl, rfl, hna, hnb, rfl⟩ := hrel
        obtain rfl : w3 = wr := hwr.symm
        clear hwr
        have hna2 : na ≤ 40 := by have := selN_len P k; omega
        have hnb2 : nb ≤ 40 := by have := selN_len Q k; omega
        obtain ⟨ev, hev⟩ : ∃ ev, endv i E k = ev := ⟨_, rfl⟩
        by_cases hlt : (k : Int) < (len : Int)
        · have hlt' : k < len := by omega
          have q0 : (0 : Int) ≤ (k : Int) := by omega
          obtain ⟨b, off, rfl, hbw, c0, c1, c2, c3⟩ := HR3.out k hlt'
          have hsa := selN_succ P k
          have hsk := selN_succ Q k
          have hata := fun h => selN_at (P := P) (i := k) h hlt'
          have hatk := fun h => selN_at (P := Q) (i := k) h hlt'
          rw [← hna] at hata
          rw [← hnb] at hatk
          have hpx : P k = decide ((nv k).u = (i : Int)) := by rw [← HPP.out]
          have hqx : Q k = abB nv k i := by rw [← HQQ.out]
          have hes := endv_succ (k := k) hiE
          rw [hev] at hes ⊢
          obtain ⟨x, hx⟩ : ∃ x, P k = x := ⟨_, rfl⟩
          obtain ⟨y, hy⟩ : ∃ y, Q k = y := ⟨_, rfl⟩
          obtain ⟨z, hz⟩ : ∃ z, decide (i ≤ k ∧ k < E) = z := ⟨_, rfl⟩
          rw [hx] at hsa hata hpx
          rw [hy] at hsk hatk hqx
          obtain ⟨up, hup⟩ : ∃ up, (nv k).u = up := ⟨_, rfl⟩
          rw [hup] at c3 hpx
          have HAQ := Lib.hid (above_any w3 (some ⟨b, off, none⟩) len cap len nv HR3.out HSP.out (Nat.le_refl _) (k : Int) i hil y (by
            rw [hqx, abB_iff]
            constructor
            · intro h; exact ⟨k, rfl, h⟩
            · rintro ⟨y', h1, h2⟩
              obtain rfl : y' = k := by omega
              exact h2) (by omega))
          have HAE := Lib.hid (fun W (hW : NRow W (some ⟨b, off, none⟩) len nv) => above_any W (some ⟨b, off, none⟩) len cap len nv hW HSP.out (Nat.le_refl _) (i : Int) k hlt' z (by
            rw [← hz, decide_eq_true_iff, ← end_iff HSP.out HE.out hlt']
            constructor
            · intro h; exact ⟨i, rfl, h⟩
            · rintro ⟨y', h1, h2⟩
              obtain rfl : y' = i := by omega
              exact h2) (by omega))
          have HEV : Hid (endv i E (k + 1) = if z = true then k + 1 else ev) := Lib.hid (by
            rw [hes, ← hz]
            by_cases g : i ≤ k ∧ k < E
            · rw [if_pos g, if_pos (by simpa using g)]
            · rw [if_neg g, if_neg (by simpa using g)])
          have HPX : Hid (x = decide (up = (i : Int))) := Lib.hid hpx
          have HSA := Lib.hid hsa
          have HSK := Lib.hid hsk
          have HNA := Lib.hid hna
          have HNB := Lib.hid hnb
          have HGA : Hid (x = true → ∃ ob1, oa = some ⟨ob1, 0, none⟩ ∧ na < ta ∧ w3.cell? ⟨ob1, na, none⟩ = some (.int .i64 (k : Int))) := Lib.hid (fun h => by
            obtain ⟨ob1, h1, h2, h3⟩ := HRA.out.cells na k (hata h)
            have := (List.getElem?_eq_some_iff.1 (hata h)).1
            exact ⟨ob1, h1, by rw [← HTA.out]; exact this, h3⟩)
          have HGB : Hid (y = true → ∃ ob2, ob = some ⟨ob2, 0, none⟩ ∧ nb < tb ∧ w3.cell? ⟨ob2, nb, none⟩ = some (.int .i64 (k : Int))) := Lib.hid (fun h => by
            obtain ⟨ob2, h1, h2, h3⟩ := HRB.out.cells nb k (hatk h)
            have := (List.getElem?_eq_some_iff.1 (hatk h)).1
            exact ⟨ob2, h1, by rw [← HTB.out]; exact this, h3⟩)
          have HAE : Hid (∀ W, W = w3 → Calls Try.prog 17 #[.slice (some ⟨b, off, none⟩) len cap, .int .i64 (i : Int), .int .i64 (k : Int)] W fun e w' => e = .returned (.bool z) ∧ w' = W) := Lib.hid (fun W h => HAE.out W (h ▸ HR3.out))
          clear hsa hsk hata hatk hpx hqx hes hx hy hz hup hna hnb hev c0 c1 c2
          cases x
          · cases y
            · cases z
              · have ty : (up == (i : Int)) = false := by have := HPX.out; simpa using this
                go_wp2_with fail
                refine HAQ.out.mono ?_
                rintro e w2 ⟨rfl, rfl⟩
                go_wp2_with fail
                refine (HAE.out _ rfl).mono ?_
                rintro e w2 ⟨rfl, rfl⟩
                go_wp2
                go_roundw
                case rel =>
                  refine ⟨by first | rfl | trivial, k + 1, na, nb, by go_num, by omega, rfl, rfl, ?_, ?_, ?_⟩
                  · rw [HSA.out, HNA.out]; simp
                  · rw [HSK.out, HNB.out]; simp
                  · rw [HEV.out]; simp
                case measure => simp [intOf]; omega
              · have ty : (up == (i : Int)) = false := by have := HPX.out; simpa using this
                go_wp2_with fail
                refine HAQ.out.mono ?_
                rintro e w2 ⟨rfl, rfl⟩
                go_wp2_with fail
                refine (HAE.out _ rfl).mono ?_
                rintro e w2 ⟨rfl, rfl⟩
                go_wp2
                go_roundw
                case rel =>
                  refine ⟨by first | rfl | trivial, k + 1, na, nb, by go_num, by omega, rfl, rfl, ?_, ?_, ?_⟩
                  · rw [HSA.out, HNA.out]; simp
                  · rw [HSK.out, HNB.out]; simp
                  · rw [HEV.out]; simp
                case measure => simp [intOf]; omega
            · cases z
              · have ty : (up == (i : Int)) = false := by have := HPX.out; simpa using this
                obtain ⟨ob2, rfl, hlb2, xb2⟩ := HGB.out rfl
                have g1 : ¬ (tb : Int) ≤ (nb : Int) := by omega
                have g2 : (nb : Int) < (tb : Int) := by omega
                have g3 : (0 : Int) ≤ (nb : Int) := by omega
                go_wp2_with fail
                refine HAQ.out.mono ?_
                rintro e w2 ⟨rfl, rfl⟩
                go_wp2_with fail
                refine (HAE.out _ rfl).mono ?_
                rintro e w2 ⟨rfl, rfl⟩
                go_wp2
                go_roundw
                case rel =>
                  refine ⟨by first | rfl | trivial, k + 1, na, nb + 1, by go_num, by omega, rfl, by go_num, ?_, ?_, ?_⟩
                  · rw [HSA.out, HNA.out]; simp
                  · rw [HSK.out, HNB.out]; simp
                  · rw [HEV.out]; simp
                case measure => simp [intOf]; omega
              · have ty : (up == (i : Int)) = false := by have := HPX.out; simpa using this
                obtain ⟨ob2, rfl, hlb2, xb2⟩ := HGB.out rfl
                have g1 : ¬ (tb : Int) ≤ (nb : Int) := by omega
                have g2 : (nb : Int) < (tb : Int) := by omega
                have g3 : (0 : Int) ≤ (nb : Int) := by omega
                go_wp2_with fail
                refine HAQ.out.mono ?_
                rintro e w2 ⟨rfl, rfl⟩
                go_wp2_with fail
                refine (HAE.out _ rfl).mono ?_
                rintro e w2 ⟨rfl, rfl⟩
                go_wp2
                go_roundw
                case rel =>
                  refine ⟨by first | rfl | trivial, k + 1, na, nb + 1, by go_num, by omega, rfl, by go_num, ?_, ?_, ?_⟩
                  · rw [HSA.out, HNA.out]; simp
                  · rw [HSK.out, HNB.out]; simp
                  · rw [HEV.out]; simp
                case measure => simp [intOf]; omega
          · cases y
            · cases z
              · have ty : (up == (i : Int)) = true := by have := HPX.out; simpa using this
                obtain ⟨ob1, rfl, hlb1, xb⟩ := HGA.out rfl
                have k1 : ¬ (ta : Int) ≤ (na : Int) := by omega
                have k2 : (na : Int) < (ta : Int) := by omega
                have k3 : (0 : Int) ≤ (na : Int) := by omega
                go_wp2_with fail
                refine HAQ.out.mono ?_
                rintro e w2 ⟨rfl, rfl⟩
                go_wp2_with fail
                refine (HAE.out _ rfl).mono ?_
                rintro e w2 ⟨rfl, rfl⟩
                go_wp2
                go_roundw
                case rel =>
                  refine ⟨by first | rfl | trivial, k + 1, na + 1, nb, by go_num, by omega, by go_num, rfl, ?_, ?_, ?_⟩
                  · rw [HSA.out, HNA.out]; simp
                  · rw [HSK.out, HNB.out]; simp
                  · rw [HEV.out]; simp
                case measure => simp [intOf]; omega
              · have ty : (up == (i : Int)) = true := by have := HPX.out; simpa using this
                obtain ⟨ob1, rfl, hlb1, xb⟩ := HGA.out rfl
                have k1 : ¬ (ta : Int) ≤ (na : Int) := by omega
                have k2 : (na : Int) < (ta : Int) := by omega
                have k3 : (0 : Int) ≤ (na : Int) := by omega
                go_wp2_with fail
                refine HAQ.out.mono ?_
                rintro e w2 ⟨rfl, rfl⟩
                go_wp2_with fail
                refine (HAE.out _ rfl).mono ?_
                rintro e w2 ⟨rfl, rfl⟩
                go_wp2
                go_roundw
                case rel =>
                  refine ⟨by first | rfl | trivial, k + 1, na + 1, nb, by go_num, by omega, by go_num, rfl, ?_, ?_, ?_⟩
                  · rw [HSA.out, HNA.out]; simp
                  · rw [HSK.out, HNB.out]; simp
                  · rw [HEV.out]; simp
                case measure => simp [intOf]; omega
            · cases z
              · have ty : (up == (i : Int)) = true := by have := HPX.out; simpa using this
                obtain ⟨ob1, rfl, hlb1, xb⟩ := HGA.out rfl
                have k1 : ¬ (ta : Int) ≤ (na : Int) := by omega
                have k2 : (na : Int) < (ta : Int) := by omega
                have k3 : (0 : Int) ≤ (na : Int) := by omega
                obtain ⟨ob2, rfl, hlb2, xb2⟩ := HGB.out rfl
                have g1 : ¬ (tb : Int) ≤ (nb : Int) := by omega
                have g2 : (nb : Int) < (tb : Int) := by omega
                have g3 : (0 : Int) ≤ (nb : Int) := by omega
                go_wp2_with fail
                refine HAQ.out.mono ?_
                rintro e w2 ⟨rfl, rfl⟩
                go_wp2_with fail
                refine (HAE.out _ rfl).mono ?_
                rintro e w2 ⟨rfl, rfl⟩
                go_wp2
                go_roundw
                case rel =>
                  refine ⟨by first | rfl | trivial, k + 1, na + 1, nb + 1, by go_num, by omega, by go_num, by go_num, ?_, ?_, ?_⟩
                  · rw [HSA.out, HNA.out]; simp
                  · rw [HSK.out, HNB.out]; simp
                  · rw [HEV.out]; simp
                case measure => simp [intOf]; omega
              · have ty : (up == (i : Int)) = true := by have := HPX.out; simpa using this
                obtain ⟨ob1, rfl, hlb1, xb⟩ := HGA.out rfl
                have k1 : ¬ (ta : Int) ≤ (na : Int) := by omega
                have k2 : (na : Int) < (ta : Int) := by omega
                have k3 : (0 : Int) ≤ (na : Int) := by omega
                obtain ⟨ob2, rfl, hlb2, xb2⟩ := HGB.out rfl
                have g1 : ¬ (tb : Int) ≤ (nb : Int) := by omega
                have g2 : (nb : Int) < (tb : Int) := by omega
                have g3 : (0 : Int) ≤ (nb : Int) := by omega
                go_wp2_with fail
                refine HAQ.out.mono ?_
                rintro e w2 ⟨rfl, rfl⟩
                go_wp2_with fail
                refine (HAE.out _ rfl).mono ?_
                rintro e w2 ⟨rfl, rfl⟩
                go_wp2
                go_roundw
                case rel =>
                  refine ⟨by first | rfl | trivial, k + 1, na + 1, nb + 1, by go_num, by omega, by go_num, by go_num, ?_, ?_, ?_⟩
                  · rw [HSA.out, HNA.out]; simp
                  · rw [HSK.out, HNB.out]; simp
                  · rw [HEV.out]; simp
                case measure => simp [intOf]; omega
        · obtain rfl : k = len := by omega
          have e1 : ta = na := by rw [hna]; exact HTA.out.symm
          have e2 : tb = nb := by rw [hnb]; exact HTB.out.symm
          have e3 : ev = E := by rw [← hev]; exact endv_last hiE hEl
          rw [hev]
          subst e1 e2 e3
          have h1 : ((ta : Int) == (ta : Int)) = true := by simp
          have h2 : ((tb : Int) == (tb : Int)) = true := by simp
          have HEN := Lib.hid (end_any w3 ao k cap nv HR3.out i hil (by omega) ev HE.out)
          clear hna hnb hev
          go_wp2_with fail
          refine HEN.out.mono ?_
          rintro e w4 ⟨rfl, rfl⟩
          go_wp2
          go_ret
          exact ⟨by simp, HB3.out⟩
    · have hi' : ii < 0 ∨ (len : Int) ≤ ii := by omega
      have HKI := Lib.hid (kids_none w1 ao len cap ii hi')
      have HPA := Lib.hid (path_none w1 ao len cap ii hi')
      have HEN := Lib.hid (end_none w1 ao len cap ii hi')
      have HI := Lib.hid hi'
      clear hi hi'
      go_wp2_with fail
      refine HKI.out.mono ?_
      rintro e w2 ⟨rfl, rfl⟩
      go_wp2_with fail
      refine HPA.out.mono ?_
      rintro e w2 ⟨rfl, rfl⟩
      by_cases h1 : ii < 0
      · go_wp2_with fail
        refine HEN.out.mono ?_
        rintro e w2 ⟨rfl, rfl⟩
        go_wp2
        go_ret
        exact ⟨rfl, HB1.out⟩
      · have h2 : (len : Int) ≤ ii := by have := HI.out; omega
        go_wp2_with fail
        refine HEN.out.mono ?_
        rintro e w2 ⟨rfl, rfl⟩
        go_wp2
        go_ret
        exact ⟨rfl, HB1.out⟩
end
end Go.Proofs.Ytppipngdakfbpaa

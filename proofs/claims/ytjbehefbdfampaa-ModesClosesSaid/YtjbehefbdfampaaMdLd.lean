/- What layer 6's statement ModesCloses does. No condition but that a text's length fits an int. -/
import Derived.Test.YtjbehefbdfampaaMdLa
import Derived.Test.YtjbehefbdfampaaMdCl
import Derived.Deep.CutRange
import Derived.Deep.DeepCutAuto
namespace Go.Proofs.Ytjbehefbdfampaa
open Go.RowKit
set_option linter.unusedVariables false

theorem closing_any (s : ByteArray) (hs : s.size ≤ 900) (w : World) :
    Calls Try.prog 21 #[.string s] w fun e W' => e = .returned (.string (closeT (closeL (runK s s.size).st))) ∧ Below w.heap.size w W' :=
  (callsIn_wide (n := 3)).1 (closing_in 3 (Nat.le_refl _) s hs w)
theorem ltS_all {st : List Fr} {k : Nat} {x : Fr} (hx : st[k]? = some x) {d : Nat} (hd : st.length = d + 1 + k) : bt (ltS st.reverse) d = ltB x.1 := by
  refine ltS_bt ?_
  rw [List.getElem?_reverse (by omega), show st.length - 1 - d = k by omega]
  exact hx

set_option maxRecDepth 100000 in
set_option maxHeartbeats 8000000 in
theorem closes_in (s : ByteArray) (w : World) (hs : s.size ≤ 200) :
    Calls Try.prog 6 #[.string s] w fun e w' => e = .returned (.bool true) ∧ Below w.heap.size w w' := by
  have t1 : decide ((200 : Int) < s.size) = false := decide_eq_false_iff_not.2 (by omega)
  have href := fun W => refrun_any W s (by omega)
  have hcl := fun W => closing_any s (by omega) W
  have hI := runK_inv s s.size
  have hlen := runK_len s s.size
  have hrk := runK_close s (closeL (runK s s.size).st)
  have hcs := closes hI s.size
  have hgood := good_all hI.good
  have hne := hI.ne
  obtain ⟨x, hx⟩ : ∃ x, runK s s.size = x := ⟨_, rfl⟩
  rw [hx] at hlen hrk hcs hgood hne
  simp only [hx] at href hcl
  have hl2 := closeL_len x.st
  obtain ⟨T, hT⟩ : ∃ T, closeT (closeL x.st) = T := ⟨_, rfl⟩
  have hTz : T.size ≤ 404 := by rw [← hT, closeT_size]; omega
  rw [hT] at hrk
  simp only [hT] at hcl
  have hrun := fun W => run_any W (s ++ T) (by rw [ByteArray.size_append]; omega)
  rw [hrk] at hrun
  obtain ⟨X, hX⟩ : ∃ X, runB x s.size (closeL x.st) = X := ⟨_, rfl⟩
  rw [hX] at hrun hcs
  have HG := Lib.hid hgood
  have HT := Lib.hid hT
  have HRN := Lib.hid hrun
  have hXg : good X.st := by rw [← hX, ← hx]; exact (runB_inv (runK_inv s s.size) _ _).good
  clear hx hT hX hrk hI hgood hrun
  obtain ⟨z, hz⟩ : ∃ z, x.st.length = z := ⟨_, rfl⟩
  have hz8 : z ≤ 201 := by omega
  have hz0 : 0 < z := by omega
  have HZ := Lib.hid hz
  have e0 : IntKind.i64.wrap ((z : Int) - 1) = (z : Int) - 1 := by rw [IntWalk.i64_in _ (by omega)]
  have HL2 := Lib.hid hl2
  have HCS := Lib.hid hcs
  have HXG := Lib.hid hXg
  clear hz hlen hne hl2 hcs hXg
  go_enter Try.func6, Try.ntmps6
  go_wp2_with fail
  refine (awake_any _).mono ?_
  rintro e w1 ⟨rfl, hb1⟩
  go_wp2_with fail
  refine (href _).mono ?_
  rintro e w2 ⟨S, g, n, cap, rfl, hR, hb2, hg⟩
  have hSz : (S.size : Int) = (z : Int) := by rw [hR.size, HZ.out]
  have hSz2 : S.size = z := by rw [hR.size, HZ.out]
  have HS := Lib.hid hR.s
  have hB2 : Below w.heap.size w w2 := hb1.trans (hb2.mono hb1.size)
  go_wp2
  clear hSz
  obtain ⟨W0, hW0⟩ : ∃ W0, w2.alloc (.cells #[.string S, .slice (some ⟨g, 0, none⟩) n cap, .bool x.fresh] 28) = W0 := ⟨_, rfl⟩
  have hbox : Blk W0 w2.heap.size #[.string S, .slice (some ⟨g, 0, none⟩) n cap, .bool x.fresh] 28 := hW0 ▸ Blk.new w2 _ _
  have hB0 : Below w.heap.size w W0 := hW0 ▸ hB2.alloc hB2.size _
  rw [hW0]
  have c0 : W0.cell? ⟨w2.heap.size, 0, none⟩ = some (.string S) := hbox.cell 0
  have HBX := Lib.hid hbox
  clear hW0 hB2 hbox hR
  go_loopw [4, 5] (fun v4 v5 wr => ∃ k : Nat, k ≤ z ∧ v4 = .string (closeT (closeL (x.st.take k))) ∧ v5 = .int .i64 ((z : Int) - 1 - k) ∧ wr = W0) (fun _ v _ => (intOf v + 1).toNat)
  case atStart => exact ⟨0, Nat.zero_le _, rfl, by first | rfl | simp | (congr 1; omega), rfl⟩
  case round =>
    obtain ⟨k, hk, rfl, rfl, rfl⟩ := hrel
    by_cases hlt : k < z
    · obtain ⟨d, hd⟩ : ∃ d : Nat, z = d + 1 + k := ⟨z - 1 - k, by omega⟩
      have ei : (z : Int) - 1 - k = (d : Int) := by omega
      have hd0 : (0 : Int) ≤ (d : Int) := by omega
      have hdS : d < S.size := by omega
      have hdS2 : (d : Int) < S.size := by omega
      obtain ⟨y, hy⟩ : ∃ y, x.st[k]? = some y := ⟨_, List.getElem?_eq_getElem (by rw [HZ.out]; omega)⟩
      have hm := HG.out y (List.mem_of_getElem? hy)
      have hby : (S[d].toNat : Int) = (((ltB y.1).toNat : Nat) : Int) := by
        rw [← bt_eq hdS, HS.out, ltS_all hy (by rw [HZ.out]; exact hd)]
      have hcm := fun W => closer_m W y.1 hm
      have hsn : closeT (closeL (x.st.take (k + 1))) = closeT (closeL (x.st.take k)) ++ closeT (closeB y.1) := by
        rw [take_snocF x.st hy, closeL_snoc]
        unfold closeT
        apply ByteArray.ext
        simp
      obtain ⟨lc, hlc⟩ : ∃ lc, (ltB y.1).toNat = lc := ⟨_, rfl⟩
      rw [hlc] at hby hcm
      obtain ⟨P, hP⟩ : ∃ P, closeT (closeL (x.st.take k)) = P := ⟨_, rfl⟩
      obtain ⟨Q, hQ⟩ : ∃ Q, closeT (closeB y.1) = Q := ⟨_, rfl⟩
      have hPz : P.size ≤ 404 := by
        rw [← hP, closeT_size]
        have h1 := closeL_len (x.st.take k)
        rw [List.length_take] at h1
        omega
      have hQz : Q.size ≤ 2 := by rw [← hQ, closeT_size]; exact closeB_len _
      rw [hP, hQ] at hsn
      simp only [hQ] at hcm
      rw [hP, ei]
      have HSN := Lib.hid hsn
      have HD := Lib.hid hd
      have e1 : IntKind.i64.wrap ((d : Int) - 1) = (d : Int) - 1 := by rw [IntWalk.i64_in _ (by omega)]
      clear hy hm hsn hlc hP hQ hd ei e0
      go_wp2_with fail
      refine (hcm _).mono ?_
      rintro e w4 ⟨rfl, rfl⟩
      go_wp2
      go_roundw
      case rel => exact ⟨k + 1, by omega, by rw [HSN.out], by have := HD.out; first | (congr 1; omega) | (simp; omega), by first | rfl | trivial⟩
      case measure => first | (simp [intOf]; done) | (simp [intOf]; omega)
    · obtain rfl : k = z := by omega
      have hneg : ¬ (0 : Int) ≤ (k : Int) - 1 - k := by omega
      rw [show x.st.take k = x.st by rw [← HZ.out, List.take_length], HT.out]
      go_wp2_with fail
      refine (hcl _).mono ?_
      rintro e w4 ⟨rfl, hb4⟩
      have hrun := HRN.out
      go_wp2_with fail
      refine (hrun _).mono ?_
      rintro e w5 ⟨⟨v, rfl, hRs⟩, hb5⟩
      obtain ⟨gl, capl, rfl, hgl, hF⟩ := hRs.st
      have hB5 := (hB0.trans (hb4.mono hB0.size)).trans (hb5.mono (Nat.le_trans hB0.size hb4.size))
      rcases HCS.out with hone | ⟨hnil, htwo, htop⟩
      · rw [hone]
        go_wp2
        go_ret
        exact ⟨by simp, hB5⟩
      · have hTn : T = ⟨#[]⟩ := by rw [← HT.out, hnil]; rfl
        subst hTn
        match hst : X.st, htwo with
        | [(m1, f1), (m2, f2)], _ =>
          rw [hst] at hF htop
          have hm1 : m1 = 12 := htop
          subst hm1
          have c1 := (hF.cell (j := 1) (x := (12, f1)) rfl).1
          simp only at c1
          rw [show ([(12, f1), (m2, f2)] : List Fr).length = 2 from rfl]
          go_wp2
          go_ret
          exact ⟨by first | rfl | simp, hB5⟩
theorem closes_law (s : ByteArray) (w : World) (hz : s.size ≤ 9223372036854775807) :
    Calls Try.prog 6 #[.string s] w fun e w' => e = .returned (.bool true) ∧ Below w.heap.size w w' := by
  by_cases hbig : 200 < s.size
  · have t1 : decide ((200 : Int) < s.size) = true := decide_eq_true_iff.2 (by omega)
    go_enter Try.func6, Try.ntmps6
    go_wp2_with fail
    refine (awake_any _).mono ?_
    rintro e w1 ⟨rfl, hb1⟩
    go_wp2
    go_ret
    exact ⟨rfl, hb1⟩
  · exact closes_in s w (by omega)
end Go.Proofs.Ytjbehefbdfampaa

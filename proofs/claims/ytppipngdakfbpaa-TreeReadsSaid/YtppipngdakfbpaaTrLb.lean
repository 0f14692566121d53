/- What layer 11's statement TreeReads does. No condition. -/
import Derived.Test.YtppipngdakfbpaaTrB
import Derived.Test.YtppipngdakfbpaaTrX
import Derived.Test.YtppipngdakfbpaaTrO
import Derived.Test.YtppipngdakfbpaaTrH
namespace Go.Proofs.Ytppipngdakfbpaa
open Go.RowKit
set_option linter.unusedVariables false

section
variable (w : World)
set_option maxRecDepth 100000 in
set_option maxHeartbeats 4000000 in
theorem treeReads_law (s : ByteArray) :
    Calls Try.prog 9 #[.string s] w fun e w' => e = .returned (.bool true) ∧ Below w.heap.size w w' := by
  go_enter Try.func9, Try.ntmps9
  go_wp2_with fail
  refine (awake_any _).mono ?_
  rintro e w0 ⟨rfl, hB0⟩
  by_cases h200 : 200 < s.size
  · have t1 : (200 : Int) < (s.size : Int) := by omega
    go_wp2
    go_ret
    exact ⟨rfl, hB0⟩
  · have t1 : ¬ (200 : Int) < (s.size : Int) := by omega
    have HR := Lib.hid (read_any w0 s (by omega))
    have HF := Lib.hid (fun W => form_any W s (by omega))
    have HB0 := Lib.hid hB0
    clear hB0 h200
    go_wp2_with fail
    refine HR.out.mono ?_
    rintro e w1 (⟨p, hfm, rfl, hb⟩ | ⟨L, hfm, hne, hrt, rfl, hb⟩ | ⟨L, oa, oc, hfm, hne, hlen, hrt, rfl, hown, hb⟩)
    · have HFM := Lib.hid hfm
      have HB1 := Lib.hid (HB0.out.trans (hb.mono HB0.out.size))
      clear hfm hb
      go_wp2_with fail
      refine (HF.out w1).mono ?_
      rintro e w2 (⟨q, hfq, rfl, hb2⟩ | ⟨L2, ob, oc2, hfq, _, _, rfl, _, _⟩)
      · have h := HFM.out.one hfq
        have hpq : p = q := by have := (Prod.mk.inj h).2; omega
        subst hpq
        have HB2 := Lib.hid (HB1.out.trans (hb2.mono HB1.out.size))
        have t2 : (0 : Int) ≤ (p : Int) := by omega
        clear h hfq hb2
        go_wp2
        go_ret
        exact ⟨by simp, HB2.out⟩
      · have h := HFM.out.one hfq
        have := (Prod.mk.inj h).2
        omega
    · have HFM := Lib.hid hfm
      have HRT := Lib.hid hrt
      have HNE := Lib.hid hne
      have HB1 := Lib.hid (HB0.out.trans (hb.mono HB0.out.size))
      clear hfm hb hrt hne
      go_wp2_with fail
      refine (HF.out w1).mono ?_
      rintro e w2 (⟨q, hfq, rfl, hb2⟩ | ⟨L2, ob, oc2, hfq, _, hlen2, rfl, hown2, hb2⟩)
      · have h := HFM.out.one hfq
        have := (Prod.mk.inj h).2
        omega
      · have h := HFM.out.one hfq
        obtain rfl : L = L2 := (Prod.mk.inj h).1
        have HB2 := Lib.hid (HB1.out.trans (hb2.mono HB1.out.size))
        have hl0 : 0 < L.length := by
          rcases Nat.eq_zero_or_pos L.length with g | g
          · exact absurd (List.eq_nil_of_length_eq_zero g) HNE.out
          · exact g
        have hrow := (owns_nrow hown2).2
        obtain ⟨n, hn⟩ : ∃ n, L.length = n := ⟨_, rfl⟩
        rw [hn] at hrow hl0 hlen2 ⊢
        have HC := Lib.hid (refright_any w2 ob n oc2 (nl L) hrow (nl L 0).t (by omega))
        obtain ⟨b, off, rfl, hbk, c0, c1, c2, c3⟩ := hrow 0 hl0
        simp only [Nat.zero_mul, Nat.add_zero] at c2
        have hno : ¬ Rt (nl L) n (nl L 0).t := by rw [← hn]; exact HRT.out
        obtain ⟨T, hT⟩ : ∃ T, (nl L 0).t = T := ⟨_, rfl⟩
        rw [hT] at c2 HC hno
        have HNO := Lib.hid hno
        have l0 : (0 : Int) < (n : Int) := by omega
        clear h hfq hb2 hown2 hn hT c0 c1 c3 hno
        go_wp2_with fail
        refine HC.out.mono ?_
        rintro e w3 ⟨⟨x, rfl, hx⟩, hb3⟩
        obtain rfl : x = false := by
          cases x
          · rfl
          · exact absurd (hx.1 rfl) HNO.out
        have HB3 := Lib.hid (HB2.out.trans (hb3.mono HB2.out.size))
        clear hx hb3
        go_wp2
        go_ret
        exact ⟨by simp, HB3.out⟩
    · have HFM := Lib.hid hfm
      have HRT := Lib.hid hrt
      have HNE := Lib.hid hne
      have HB1 := Lib.hid (HB0.out.trans (hb.mono HB0.out.size))
      have hrow1 := (owns_nrow hown).2
      have HROW1 := Lib.hid hrow1
      clear hfm hb hrt hne hown hrow1
      go_wp2_with fail
      refine (HF.out w1).mono ?_
      rintro e w2 (⟨q, hfq, rfl, hb2⟩ | ⟨L2, ob, oc2, hfq, _, hlen2, rfl, hown2, hb2⟩)
      · have h := HFM.out.one hfq
        have := (Prod.mk.inj h).2
        omega
      · have h := HFM.out.one hfq
        obtain rfl : L = L2 := (Prod.mk.inj h).1
        have HB2 := Lib.hid (HB1.out.trans (hb2.mono HB1.out.size))
        have hl0 : 0 < L.length := by
          rcases Nat.eq_zero_or_pos L.length with g | g
          · exact absurd (List.eq_nil_of_length_eq_zero g) HNE.out
          · exact g
        have hrow := (owns_nrow hown2).2
        have hrow1 := HROW1.out.below hb2
        obtain ⟨n, hn⟩ : ∃ n, L.length = n := ⟨_, rfl⟩
        rw [hn] at hrow hrow1 hl0 hlen2 ⊢
        have HC := Lib.hid (refright_any w2 ob n oc2 (nl L) hrow (nl L 0).t (by omega))
        have HS := Lib.hid (fun W (hW : Below w2.heap.size w2 W) => same_yes W oa ob n oc oc2 (nl L) (hrow1.below hW) (hrow.below hW) (by omega))
        obtain ⟨b, off, rfl, hbk, c0, c1, c2, c3⟩ := hrow 0 hl0
        simp only [Nat.zero_mul, Nat.add_zero] at c2
        have hno : Rt (nl L) n (nl L 0).t := by rw [← hn]; exact HRT.out
        obtain ⟨T, hT⟩ : ∃ T, (nl L 0).t = T := ⟨_, rfl⟩
        rw [hT] at c2 HC hno
        have HNO := Lib.hid hno
        have l0 : (0 : Int) < (n : Int) := by omega
        clear h hfq hb2 hown2 hn hT c0 c1 c3 hno hrow1
        go_wp2_with fail
        refine HC.out.mono ?_
        rintro e w3 ⟨⟨x, rfl, hx⟩, hb3⟩
        obtain rfl : x = true := hx.2 HNO.out
        have HB3 := Lib.hid (HB2.out.trans (hb3.mono HB2.out.size))
        have HBX := Lib.hid hb3
        clear hx hb3
        go_wp2_with fail
        refine (HS.out w3 HBX.out).mono ?_
        rintro e w4 ⟨rfl, hb4⟩
        have HB4 := Lib.hid (HB3.out.trans (hb4.mono HB3.out.size))
        clear hb4
        go_wp2
        go_ret
        exact ⟨rfl, HB4.out⟩
end
end Go.Proofs.Ytppipngdakfbpaa

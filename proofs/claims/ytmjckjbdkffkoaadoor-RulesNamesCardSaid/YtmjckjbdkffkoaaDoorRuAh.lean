/- What the law RulesNames of layer 12 (rules) returns. Condition: the program's tables lie as start-up lays them. -/
import Derived.Test.YtmjckjbdkffkoaaDoorRuAg
namespace Go.Proofs.YtmjckjbdkffkoaaDoor
open Go.RowKit
set_option linter.unusedVariables false

theorem nmI_out {k : Int} (h : ¬ (1 ≤ k ∧ k ≤ 18)) : nmI k = ⟨#[]⟩ := by
  unfold nmI
  split
  · next g =>
    obtain rfl : k = 0 := by omega
    rfl
  · rfl
theorem nmS_size : ∀ i, i < 19 → 1 ≤ i → nmS i ≠ ⟨#[]⟩ := by decide +kernel
theorem nmS_inj : ∀ i, i < 19 → ∀ j, j < 19 → 1 ≤ i → nmS i = nmS j → i = j := by decide +kernel
theorem nmI_in {k : Int} (h : 1 ≤ k ∧ k ≤ 18) : nmI k ≠ ⟨#[]⟩ := by
  unfold nmI
  rw [if_pos (by omega)]
  exact nmS_size _ (by omega) (by omega)
theorem nmI_inj {a b : Int} (h : 1 ≤ a ∧ a ≤ 18) (e : nmI a = nmI b) : a = b := by
  by_cases hb : 1 ≤ b ∧ b ≤ 18
  · unfold nmI at e
    rw [if_pos (by omega), if_pos (by omega)] at e
    have := nmS_inj _ (by omega) _ (by omega) (by omega) e
    omega
  · rw [nmI_out hb] at e
    exact absurd e (nmI_in h)
section
variable (w : World)
set_option maxRecDepth 100000 in
set_option maxHeartbeats 2000000 in
theorem rulesNames_law (a b : Int) (hN : Nm w) (hT : Tx w) :
    Calls Tryd.prog 9 #[.int .i64 a, .int .i64 b] w fun e w' => e = .returned (.bool true) ∧ Below w.heap.size w w' := by
  have HAW := Lib.hid (awake_any w hN hT)
  have HN := Lib.hid hN
  clear hN hT
  go_enter Tryd.func9, Tryd.ntmps9
  go_wp2_with fail
  refine HAW.out.mono ?_
  rintro e w2 ⟨rfl, hb2⟩
  have HB2 := Lib.hid hb2
  have HNA := Lib.hid (rname_any w2 a (HN.out.b hb2))
  have HNB := Lib.hid (rname_any w2 b (HN.out.b hb2))
  clear hb2
  go_wp2_with fail
  refine HNA.out.mono ?_
  rintro e w3 ⟨rfl, rfl⟩
  by_cases ha : 1 ≤ a ∧ a ≤ 18
  · obtain ⟨x, hx⟩ : ∃ x, nmI a = x := ⟨_, rfl⟩
    have hx0 : x ≠ ⟨#[]⟩ := by rw [← hx]; exact nmI_in ha
    have HI := Lib.hid (fun (e : x = nmI b) => nmI_inj ha (hx.trans e))
    rw [hx]
    have d1 : decide (1 ≤ a) = true := by simpa using ha.1
    have d2 : decide (a ≤ 18) = true := by simpa using ha.2
    obtain ⟨a1, a2⟩ := ha
    have xe : x.toList.isEmpty = false := by
      cases hl : x.toList with
      | nil =>
        have h := bs_eqb x ⟨#[]⟩
        rw [hl, show (([] : List UInt8) == (⟨#[]⟩ : ByteArray).toList) = true from by decide +kernel] at h
        exact absurd (of_decide_eq_true h.symm) hx0
      | cons c l => rfl
    have xl : x.toList ≠ [] := fun h => by rw [h] at xe; cases xe
    have xm : ¬ x.toList = [] := xl
    by_cases hab : a = b
    · subst hab
      clear hx hx0
      go_wp2
      go_ret
      exact ⟨rfl, HB2.out⟩
    · have hne : (a == b) = false := by simpa using hab
      clear hx hx0
      go_wp2_with fail
      refine HNB.out.mono ?_
      rintro e w4 ⟨rfl, rfl⟩
      obtain ⟨y, hy⟩ : ∃ y, nmI b = y := ⟨_, rfl⟩
      have hxy : x ≠ y := fun h => hab (HI.out (h.trans hy.symm))
      have t1 : (x.toList == y.toList) = false := by rw [bs_eqb]; exact decide_eq_false hxy
      rw [hy]
      clear hxy hy
      go_wp2
      go_ret
      exact ⟨rfl, HB2.out⟩
  · rw [nmI_out ha]
    by_cases h1 : 1 ≤ a
    · have h2 : ¬ a ≤ 18 := fun h => ha ⟨h1, h⟩
      have d1 : decide (1 ≤ a) = true := by simpa using h1
      have d2 : decide (a ≤ 18) = false := by simpa using h2
      clear ha
      go_wp2
      go_ret
      exact ⟨rfl, HB2.out⟩
    · have d1 : decide (1 ≤ a) = false := by simpa using h1
      clear ha
      go_wp2
      go_ret
      exact ⟨rfl, HB2.out⟩
end
end Go.Proofs.YtmjckjbdkffkoaaDoor

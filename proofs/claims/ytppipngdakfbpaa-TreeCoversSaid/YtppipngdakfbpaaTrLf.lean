/- What layer 11's statement TreeCovers does. No condition but that the nodes can be read. -/
import Derived.Test.YtppipngdakfbpaaTrB
import Derived.Test.YtppipngdakfbpaaTrX
import Derived.Test.YtppipngdakfbpaaTrS
namespace Go.Proofs.Ytppipngdakfbpaa
open Go.RowKit
set_option linter.unusedVariables false

theorem cv_none {nv : Nat → Nd} {n : Nat} {leaf : Int} (h : Rt nv n (nv 0).t) (hl : leaf < 0 ∨ (nv 0).t ≤ leaf) : ∀ k, k < n → ¬ cv nv leaf k := by
  rintro k hk ⟨h1, h2⟩
  have := nest h.ok k hk 0 (abv0 h.sp k hk)
  have := h.f0
  omega
theorem cv_last {nv : Nat → Nd} {n : Nat} {leaf x : Int} (h : Rt nv n (nv 0).t) (h0 : 0 ≤ leaf) (h1 : leaf < (nv 0).t) (hx : CvR nv n leaf x) : ∃ j : Nat, x = (j : Int) ∧ j < n ∧ ∀ k, k < n → (cv nv leaf k ↔ Abv nv k j) := by
  rcases hx with ⟨_, hn⟩ | ⟨j, rfl, hj, hcj, hl⟩
  · exact absurd ⟨by rw [h.f0]; exact h0, h1⟩ (hn 0 h.pos)
  · refine ⟨j, rfl, hj, fun k hk => ⟨fun hc => ?_, fun ha => ?_⟩⟩
    · rcases Nat.lt_trichotomy k j with g | rfl | g
      · by_cases ha : Abv nv k j
        · exact ha
        · have := apart h j hj k g ha
          unfold cv at hc hcj
          omega
      · exact .self
      · exact absurd hc (hl k g hk)
    · have := nest h.ok j hj k ha
      unfold cv at hcj ⊢
      omega
def KcR (len : Nat) (w : World) (v6 : Value) (wr : World) : Prop := wr = w ∧ ∃ k : Nat, v6 = .int .i64 (k : Int) ∧ k ≤ len
section
variable (w : World)
set_option maxRecDepth 100000 in
set_option maxHeartbeats 8000000 in
theorem treeCovers_law (ao : Option Addr) (len cap : Nat) (nv : Nat → Nd) (leaf : Int) (hrow : NRow w ao len nv) :
    Calls Try.prog 5 #[.slice ao len cap, .int .i64 leaf] w fun e w' => e = .returned (.bool true) ∧ Below w.heap.size w w' := by
  have HROW := Lib.hid hrow
  clear hrow
  go_enter Try.func5, Try.ntmps5
  go_wp2_with fail
  refine (awake_any _).mono ?_
  rintro e w0 ⟨rfl, hB0⟩
  have HR0 := Lib.hid (HROW.out.below hB0)
  have HRI := Lib.hid (right_any w0 ao len cap nv (fun _ => HR0.out))
  have HB0 := Lib.hid hB0
  clear hB0
  go_wp2_with fail
  refine HRI.out.mono ?_
  rintro e w1 ⟨⟨x, rfl, hx⟩, hb1⟩
  have HB1 := Lib.hid (HB0.out.trans (hb1.mono HB0.out.size))
  have HR1 := Lib.hid (HR0.out.below hb1)
  have HX := Lib.hid hx
  clear hx hb1
  cases x
  · go_wp2
    go_ret
    exact ⟨rfl, HB1.out⟩
  · have hrt := HX.out.1 (by trivial)
    have hl40 := hrt.1
    have HRT := Lib.hid hrt.2
    have HSP := Lib.hid hrt.2.sp
    have hpos := hrt.2.pos
    clear hrt
    have HCV := Lib.hid (cover_any w1 ao len cap nv HR1.out (by omega) leaf)
    go_wp2_with fail
    refine HCV.out.mono ?_
    rintro e w2 ⟨⟨x, rfl, hx⟩, hb2⟩
    have HR2 := Lib.hid (HR1.out.below hb2)
    have HB2 := Lib.hid (HB1.out.trans (hb2.mono HB1.out.size))
    have HX2 := Lib.hid hx
    clear hx hb2
    obtain ⟨b, off, rfl, hbw, c0, c1, c2, c3⟩ := HR2.out 0 hpos
    obtain ⟨t0, ht0⟩ : ∃ t0, (nv 0).t = t0 := ⟨_, rfl⟩
    rw [ht0] at c2
    have q0 : (0 : Int) < (len : Int) := by omega
    have HT0 := Lib.hid ht0
    clear ht0 c0 c1 c3
    by_cases g0 : leaf < 0
    · have HN := Lib.hid (cv_none HRT.out (.inl g0))
      have hx1 : x = -1 := by
        rcases HX2.out with ⟨h, _⟩ | ⟨j, _, h1, h2, _⟩
        · exact h
        · exact absurd h2 (HN.out j h1)
      subst hx1
      go_wp2
      go_ret
      exact ⟨rfl, HB2.out⟩
    · by_cases g1 : t0 ≤ leaf
      · have HN := Lib.hid (cv_none HRT.out (.inr (by rw [HT0.out]; exact g1)))
        have hx1 : x = -1 := by
          rcases HX2.out with ⟨h, _⟩ | ⟨j, _, h1, h2, _⟩
          · exact h
          · exact absurd h2 (HN.out j h1)
        subst hx1
        go_wp2
        go_ret
        exact ⟨rfl, HB2.out⟩
      · obtain ⟨j, rfl, hj, hiff⟩ := cv_last HRT.out (by omega) (by rw [HT0.out]; omega) HX2.out
        have HIF := Lib.hid hiff
        clear hiff
        have s1 : ¬ (j : Int) < 0 := by omega
        have s2 : ¬ (len : Int) ≤ (j : Int) := by omega
        have s3 : (j : Int) < (len : Int) := by omega
        have s1' : decide ((j : Int) < 0) = false := by simp
        have s2' : decide (len ≤ j) = false := by simp; omega
        have s5 : decide (leaf < 0) = false := by simp; omega
        have s6 : decide (t0 ≤ leaf) = false := by simp; omega
        go_wp2
        go_loopw [6] (fun v6 wr => KcR len w2 v6 wr) (fun v _ => len - (intOf v).toNat)
        case atStart => exact ⟨rfl, 0, rfl, Nat.zero_le _⟩
        case round =>
          obtain ⟨hwr, k, rfl, hk⟩ := hrel
          obtain rfl : w2 = wr := hwr.symm
          clear hwr
          by_cases hlt : (k : Int) < (len : Int)
          · have hlt' : k < len := by omega
            have p0 : (0 : Int) ≤ (k : Int) := by omega
            obtain ⟨b', off', hbo, hbw', d0, d1, d2, d3⟩ := HR2.out k hlt'
            obtain ⟨rfl, rfl⟩ : b = b' ∧ off = off' := by simpa using hbo
            obtain ⟨pf, hpf⟩ : ∃ pf, (nv k).f = pf := ⟨_, rfl⟩
            obtain ⟨pt, hpt⟩ : ∃ pt, (nv k).t = pt := ⟨_, rfl⟩
            rw [hpf] at d1
            rw [hpt] at d2
            have hcx : cv nv leaf k ↔ pf ≤ leaf ∧ leaf < pt := by unfold cv; rw [hpf, hpt]
            have HAQ := Lib.hid (above_any w2 (some ⟨b, off, none⟩) len cap len nv HR2.out HSP.out (Nat.le_refl _) (k : Int) j hj (decide (pf ≤ leaf ∧ leaf < pt)) (by
              rw [decide_eq_true_iff, ← hcx, HIF.out k hlt']
              constructor
              · intro h; exact ⟨k, rfl, h⟩
              · rintro ⟨y', h1, h2⟩
                obtain rfl : y' = k := by omega
                exact h2) (by omega))
            clear hcx hpf hpt d0 d3 hbo
            by_cases e1 : pf ≤ leaf
            · by_cases e2 : leaf < pt
              · have hd : decide (pf ≤ leaf ∧ leaf < pt) = true := by simp; omega
                rw [hd] at HAQ
                clear hd
                go_wp2_with fail
                refine HAQ.out.mono ?_
                rintro e w4 ⟨rfl, rfl⟩
                go_wp2
                go_roundw
                case rel => exact ⟨by first | rfl | trivial, k + 1, by go_num, by omega⟩
                case measure => simp [intOf]; omega
              · have hd : decide (pf ≤ leaf ∧ leaf < pt) = false := by simp; omega
                rw [hd] at HAQ
                clear hd
                go_wp2_with fail
                refine HAQ.out.mono ?_
                rintro e w4 ⟨rfl, rfl⟩
                go_wp2
                go_roundw
                case rel => exact ⟨by first | rfl | trivial, k + 1, by go_num, by omega⟩
                case measure => simp [intOf]; omega
            · have hd : decide (pf ≤ leaf ∧ leaf < pt) = false := by simp; omega
              rw [hd] at HAQ
              clear hd
              go_wp2_with fail
              refine HAQ.out.mono ?_
              rintro e w4 ⟨rfl, rfl⟩
              go_wp2
              go_roundw
              case rel => exact ⟨by first | rfl | trivial, k + 1, by go_num, by omega⟩
              case measure => simp [intOf]; omega
          · go_wp2
            go_ret
            exact ⟨rfl, HB2.out⟩
end
end Go.Proofs.Ytppipngdakfbpaa

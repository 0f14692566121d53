/- What the document's own Right of layer 11 (tree) and the law's right return. Condition: at most a million nodes. -/
import Derived.Test.YtdiolfniaiojfaaDoorTrA
namespace Go.Proofs.YtdiolfniaiojfaaDoor
open Go.RowKit
set_option linter.unusedVariables false

section
variable (w : World)
/-- Where the document's own Right stands: its round, and that within it. -/
def RrRl (nv : Nat → Nd) (len : Nat) (w : World) (v5 : Value) (wr : World) : Prop :=
  ∃ i : Nat, v5 = .int .i64 (i : Int) ∧ i ≤ len ∧ (∀ j, j < i → okN nv j) ∧ Below w.heap.size w wr
def RrRl2 (nv : Nat → Nd) (i : Nat) (u : Nat) (w : World) (v7 : Value) (wr : World) : Prop :=
  ∃ k : Nat, v7 = .int .i64 (k : Int) ∧ 1 ≤ k ∧ k ≤ i ∧ (∀ j, 0 < j → j < k → (nv j).u = (u : Int) → (nv j).t ≤ (nv i).f) ∧ Below w.heap.size w wr
set_option maxRecDepth 100000 in
set_option maxHeartbeats 8000000 in
theorem refright_any (ao : Option Addr) (len cap : Nat) (nv : Nat → Nd) (hrow : NRow w ao len nv) (lv : Int) (hlen : len ≤ 1000000) :
    Calls Tryd.prog 6 #[.slice ao len cap, .int .i64 lv] w fun e w' => RetB e (Rt nv len lv) ∧ Below w.heap.size w w' := by
  have HROW := Lib.hid hrow
  rcases Nat.eq_zero_or_pos len with h0 | h0
  · subst h0
    have hno : ¬ Rt nv 0 lv := fun h => absurd h.pos (Nat.lt_irrefl _)
    have HNO := Lib.hid hno
    clear hno hrow
    go_enter Tryd.func6, Tryd.ntmps6
    go_wp2
    go_ret
    exact ⟨.no HNO.out, Below.refl _ _⟩
  · obtain ⟨b, off, rfl, hbw, c0, c1, c2, c3⟩ := hrow 0 h0
    have hlz : ((len : Int) == 0) = false := by simp; omega
    have q0 : (0 : Int) < (len : Int) := by omega
    obtain ⟨X, hX⟩ : ∃ X, nv 0 = X := ⟨_, rfl⟩
    have HX := Lib.hid hX
    rw [hX] at c0 c1 c2 c3
    obtain ⟨xk, xf, xt, xu⟩ := X
    simp only [Nat.zero_mul, Nat.add_zero] at c0 c1 c2 c3
    clear hX hrow
    by_cases hg : xu = -1 ∧ xf = 0 ∧ xt = lv
    · obtain ⟨g1, g2, g3⟩ := hg
      subst g1 g2 g3
      have hrt : (∀ j, j < len → okN nv j) → Rt nv len xt := fun h => ⟨h0, by rw [HX.out], by rw [HX.out], by rw [HX.out], h⟩
      have HRT := Lib.hid hrt
      clear hrt
      go_enter Tryd.func6, Tryd.ntmps6
      go_wp2
      go_loopw [5] (fun v5 wr => RrRl nv len w v5 wr) (fun v5 _ => len - (intOf v5).toNat)
      case atStart => exact ⟨0, rfl, Nat.zero_le _, fun j h => by omega, Below.refl _ _⟩
      case round =>
        obtain ⟨i, rfl, hil, hok, hB⟩ := hrel
        have HOK := Lib.hid hok
        have HB := Lib.hid hB
        clear hok hB
        by_cases hlt : (i : Int) < (len : Int)
        · have hlt' : i < len := by omega
          have r0 : (0 : Int) ≤ (i : Int) := by omega
          have HSP := Lib.hid (sp_of (nv := nv) (n := i) (by rw [HX.out]) HOK.out)
          obtain ⟨bi, offi, hao, hbi, d0, d1, d2, d3⟩ := (HROW.out.below HB.out) i hlt'
          cases hao
          obtain ⟨P, hP⟩ : ∃ P, nv i = P := ⟨_, rfl⟩
          have HP := Lib.hid hP
          rw [hP] at d0 d1 d2 d3
          obtain ⟨pk, pf, pt, pu⟩ := P
          simp only at d0 d1 d2 d3
          clear hP
          by_cases hk : 1 ≤ pk ∧ pk ≤ 18 ∧ pf ≤ pt
          · obtain ⟨k1, k2, k3⟩ := hk
            have n1 : ¬ pk < 1 := by omega
            have n2 : ¬ 18 < pk := by omega
            have n3 : ¬ pt < pf := by omega
            have m1 : decide (pk < 1) = false := by simpa using n1
            have m2 : decide (18 < pk) = false := by simpa using n2
            have m3 : decide (pt < pf) = false := by simpa using n3
            have HK := Lib.hid (And.intro k1 (And.intro k2 k3))
            clear k1 k2 k3
            go_wp2
            go_quiet (fail)
            obtain ⟨V, hV⟩ : ∃ V, V = wr.drewN nq := ⟨_, rfl⟩
            have hBV : Below w.heap.size w V := by rw [hV]; exact belN HB.out _
            have f1 : V.cell? ⟨b, off + i * 4 + 1, none⟩ = some (.int .i64 pf) := hV ▸ d1
            have f2 : V.cell? ⟨b, off + i * 4 + 2, none⟩ = some (.int .i64 pt) := hV ▸ d2
            have f3 : V.cell? ⟨b, off + i * 4 + 3, none⟩ = some (.int .i64 pu) := hV ▸ d3
            rw [← hV]
            have HBV := Lib.hid hBV
            have HRV := Lib.hid (HROW.out.below hBV)
            clear hV d0 d1 d2 d3 m1 m2 m3 n1 n2 n3 hBV
            by_cases hi0 : i = 0
            · subst hi0
              have HM : ∀ j, j < 0 + 1 → okN nv j := fun j hj => by
                obtain rfl : j = 0 := by omega
                exact ⟨by rw [HP.out]; exact HK.out.1, by rw [HP.out]; exact HK.out.2.1, by rw [HP.out]; exact HK.out.2.2, fun h => by omega⟩
              have HM := Lib.hid HM
              go_wp2
              go_roundw
              case rel => exact ⟨1, rfl, by omega, HM.out, HBV.out⟩
              case measure => simp [intOf]; omega
            · have hi1 : 0 < i := by omega
              have z1 : ((i : Int) == 0) = false := by simp; omega
              have hbad : (∀ u : Nat, pu = (u : Int) → u < i → Abv nv u (i - 1) → (nv u).f ≤ pf → pt ≤ (nv u).t → False) → ¬ Rt nv len xt := fun h R => by
                obtain ⟨u, e, l, g, f', t', _⟩ := (R.ok i hlt').hang hi1
                rw [HP.out] at e f' t'
                exact h u e l g f' t'
              have HBAD := Lib.hid hbad
              clear hbad
              by_cases g1 : pu < 0
              · have m1 : decide (pu < 0) = true := by simpa using g1
                have HN := Lib.hid (HBAD.out (fun u e _ _ _ _ => by omega))
                go_wp2
                go_quiet (fail)
                go_wp2
                go_ret
                exact ⟨.no HN.out, belN HBV.out _⟩
              · by_cases g2 : (i : Int) ≤ pu
                · have m1 : decide (pu < 0) = false := by simpa using g1
                  have m2 : decide ((i : Int) ≤ pu) = true := by simpa using g2
                  have HN := Lib.hid (HBAD.out (fun u e l _ _ _ => by omega))
                  go_wp2
                  go_quiet (fail)
                  go_wp2
                  go_ret
                  exact ⟨.no HN.out, belN HBV.out _⟩
                · obtain ⟨u, rfl⟩ : ∃ u : Nat, pu = (u : Int) := ⟨pu.toNat, by omega⟩
                  have hui : u < i := by omega
                  have m1 : decide ((u : Int) < 0) = false := by simp
                  have m2 : decide ((i : Int) ≤ (u : Int)) = false := by simp; omega
                  have m2' : decide (i ≤ u) = false := by simp; omega
                  have r9 : IntKind.i64.wrap ((i : Int) - 1) = (i : Int) - 1 := IntWalk.i64_in _ (by omega)
                  have m3 : (u : Int) < (len : Int) := by omega
                  have m4 : (0 : Int) ≤ (u : Int) := by omega
                  obtain ⟨bu, offu, hao, hbu, s0, s1, s2, s3⟩ := HRV.out u (by omega)
                  cases hao
                  obtain ⟨U, hU⟩ : ∃ U, nv u = U := ⟨_, rfl⟩
                  have HU := Lib.hid hU
                  rw [hU] at s0 s1 s2 s3
                  obtain ⟨uk, uf, ut, uu⟩ := U
                  simp only at s0 s1 s2 s3
                  clear hU g1 g2 s0 s3
                  have hsub : ((i - 1 : Nat) : Int) = (i : Int) - 1 := by omega
                  have hA : ∀ (x : Bool) (hx : x = true ↔ ∃ y : Nat, (y : Int) = (u : Int) ∧ Abv nv y (i - 1)) (W : World) (hW : Below V.heap.size V W), Calls Tryd.prog 15 #[.slice (some ⟨b, off, none⟩) len cap, .int .i64 (u : Int), .int .i64 ((i : Int) - 1)] W fun e w' => e = .returned (.bool x) ∧ w' = W := by
                    intro x hx W hW
                    have h := above_any W (some ⟨b, off, none⟩) len cap i nv (HRV.out.below hW) HSP.out (by omega) (u : Int) (i - 1) (by omega) x hx hlen
                    rw [hsub] at h
                    exact h
                  have HA := Lib.hid hA
                  clear hA
                  have HRN := Lib.hid (fun q => HRV.out.below (belN (Below.refl V.heap.size V) q))
                  clear hsub
                  by_cases g3 : Abv nv u (i - 1)
                  · have HA1 := Lib.hid (HA.out true ⟨fun _ => ⟨u, rfl, g3⟩, fun _ => rfl⟩)
                    by_cases g4 : pf < uf
                    · have m5 : decide (pf < uf) = true := by simpa using g4
                      have HN := Lib.hid (HBAD.out (fun u' e _ _ h1 _ => by
                        obtain rfl : u' = u := by omega
                        rw [HU.out] at h1
                        simp only at h1
                        omega))
                      have HG3 := Lib.hid g3
                      clear g3
                      go_wp2
                      go_quiet ((go_at_call 15; exact Calls.quiet_of_same (HA1.out _ (by first | exact Below.refl _ _ | exact (Below.refl _ _).drew | exact belN (Below.refl _ _) _))))
                      go_wp2
                      go_ret
                      exact ⟨.no HN.out, belN HBV.out _⟩
                    · by_cases g5 : ut < pt
                      · have m5 : decide (pf < uf) = false := by simpa using g4
                        have m6 : decide (ut < pt) = true := by simpa using g5
                        have HN := Lib.hid (HBAD.out (fun u' e _ _ h1 h2 => by
                          obtain rfl : u' = u := by omega
                          rw [HU.out] at h2
                          simp only at h2
                          omega))
                        have HG3 := Lib.hid g3
                        clear g3
                        go_wp2
                        go_quiet ((go_at_call 15; exact Calls.quiet_of_same (HA1.out _ (by first | exact Below.refl _ _ | exact (Below.refl _ _).drew | exact belN (Below.refl _ _) _))))
                        go_wp2
                        go_ret
                        exact ⟨.no HN.out, belN HBV.out _⟩
                      · have m5 : decide (pf < uf) = false := by simpa using g4
                        have m6 : decide (ut < pt) = false := by simpa using g5
                        have HG3 := Lib.hid g3
                        have HG4 := Lib.hid g4
                        have HG5 := Lib.hid g5
                        clear g3 g4 g5
                        go_wp2
                        go_quiet ((go_at_call 15; exact Calls.quiet_of_same (HA1.out _ (by first | exact Below.refl _ _ | exact (Below.refl _ _).drew | exact belN (Below.refl _ _) _))))
                        obtain ⟨V2, hV2⟩ : ∃ V2, V2 = V.drewN nq := ⟨_, rfl⟩
                        have hBV2 : Below w.heap.size w V2 := by rw [hV2]; exact belN HBV.out _
                        rw [← hV2]
                        have HBV2 := Lib.hid hBV2
                        clear hV2 hBV2 m1 m2 m2' m5 m6 r9 f1 f2 f3 s1 s2
                        go_wp2
                        go_loopw [7] (fun v7 wr => RrRl2 nv i u w v7 wr) (fun v7 _ => i - (intOf v7).toNat)
                        case atStart => exact ⟨1, rfl, by omega, by omega, fun j h0 h1 => by omega, HBV2.out⟩
                        case round =>
                          obtain ⟨k, rfl, hk1, hk2, hsis, hBk⟩ := hrel
                          have HSIS := Lib.hid hsis
                          have HBK := Lib.hid hBk
                          clear hsis hBk
                          by_cases hki : (k : Int) < (i : Int)
                          · have hki' : k < i := by omega
                            obtain ⟨bk, offk, hao, hbk, e0, e1, e2, e3⟩ := (HROW.out.below HBK.out) k (by omega)
                            cases hao
                            obtain ⟨bi2, offi2, hao, hbi2, y0, y1, y2, y3⟩ := (HROW.out.below HBK.out) i hlt'
                            cases hao
                            rw [HP.out] at y0 y1 y2 y3
                            simp only at y0 y1 y2 y3
                            obtain ⟨E, hE⟩ : ∃ E, nv k = E := ⟨_, rfl⟩
                            have HE := Lib.hid hE
                            rw [hE] at e0 e1 e2 e3
                            obtain ⟨ek, ef, et, eu⟩ := E
                            simp only at e0 e1 e2 e3
                            have l0 : (0 : Int) ≤ (k : Int) := by omega
                            have l1 : (k : Int) < (len : Int) := by omega
                            clear hE e0 e1 y0 y2 y3
                            by_cases hq : eu = (u : Int)
                            · have t1 : (eu == (u : Int)) = true := by simpa using hq
                              have HQ := Lib.hid hq
                              clear hq
                              by_cases hr : pf < et
                              · have t2 : decide (pf < et) = true := by simpa using hr
                                have HR := Lib.hid hr
                                clear hr
                                go_wp2
                                go_quiet (fail)
                                go_wp2
                                go_ret
                                refine ⟨.no (fun R => ?_), belN HBK.out _⟩
                                obtain ⟨u', e', _, _, _, _, s'⟩ := (R.ok i hlt').hang hi1
                                have h1 := s' k (by omega) hki' (by rw [HE.out]; show eu = _; rw [HQ.out, ← e', HP.out])
                                rw [HE.out, HP.out] at h1
                                have := HR.out
                                simp only at h1
                                omega
                              · have t2 : decide (pf < et) = false := by simpa using hr
                                have HR := Lib.hid hr
                                clear hr
                                go_wp2
                                go_quiet (fail)
                                go_wp2
                                go_roundw
                                case rel =>
                                  refine ⟨k + 1, by go_num, by omega, by omega, fun j h0 h1 h2 => ?_, belN HBK.out _⟩
                                  rcases Nat.lt_or_ge j k with g | g
                                  · exact HSIS.out j h0 g h2
                                  · obtain rfl : j = k := by omega
                                    rw [HE.out, HP.out]
                                    have := HR.out
                                    simp only
                                    omega
                                case measure => simp [intOf]; omega
                            · have t1 : (eu == (u : Int)) = false := by simpa using hq
                              have HQ := Lib.hid hq
                              clear hq
                              go_wp2
                              go_quiet (fail)
                              go_wp2
                              go_roundw
                              case rel =>
                                refine ⟨k + 1, by go_num, by omega, by omega, fun j h0 h1 h2 => ?_, belN HBK.out _⟩
                                rcases Nat.lt_or_ge j k with g | g
                                · exact HSIS.out j h0 g h2
                                · obtain rfl : j = k := by omega
                                  rw [HE.out] at h2
                                  exact absurd h2 HQ.out
                              case measure => simp [intOf]; omega
                          · obtain rfl : k = i := by omega
                            have hokk : okN nv k := ⟨by rw [HP.out]; exact HK.out.1, by rw [HP.out]; exact HK.out.2.1, by rw [HP.out]; exact HK.out.2.2, fun _ => ⟨u, by rw [HP.out], hui, HG3.out, by rw [HU.out, HP.out]; have := HG4.out; simp only; omega, by rw [HU.out, HP.out]; have := HG5.out; simp only; omega, fun j h0 h1 h2 => HSIS.out j h0 h1 h2⟩⟩
                            have HOKK := Lib.hid hokk
                            clear hokk
                            go_wp2
                            go_roundw
                            case rel =>
                              refine ⟨k + 1, by go_num, by omega, fun j hj => ?_, HBK.out⟩
                              rcases Nat.lt_or_ge j k with g | g
                              · exact HOK.out j g
                              · obtain rfl : j = k := by omega
                                exact HOKK.out
                            case measure => simp [intOf]; omega
                  · have HA0 := Lib.hid (HA.out false ⟨fun h => (by cases h), fun ⟨y, h1, h2⟩ => absurd ((show y = u by omega) ▸ h2) g3⟩)
                    have HN := Lib.hid (HBAD.out (fun u' e _ h1 _ _ => g3 ((show u' = u by omega) ▸ h1)))
                    clear g3
                    go_wp2
                    go_quiet ((go_at_call 15; exact Calls.quiet_of_same (HA0.out _ (by first | exact Below.refl _ _ | exact (Below.refl _ _).drew | exact belN (Below.refl _ _) _))))
                    go_wp2
                    go_ret
                    exact ⟨.no HN.out, belN HBV.out _⟩
          · have hno : ¬ Rt nv len xt := fun R => hk ⟨by have := (R.ok i hlt').k1; rw [HP.out] at this; exact this, by have := (R.ok i hlt').k2; rw [HP.out] at this; exact this, by have := (R.ok i hlt').ft; rw [HP.out] at this; exact this⟩
            have HNO := Lib.hid hno
            have HK := Lib.hid hk
            clear hno hk
            by_cases n1 : pk < 1
            · have m1 : decide (pk < 1) = true := by simpa using n1
              go_wp2
              go_quiet (fail)
              go_wp2
              go_ret
              exact ⟨.no HNO.out, belN HB.out _⟩
            · have m1 : decide (pk < 1) = false := by simpa using n1
              by_cases n2 : 18 < pk
              · have m2 : decide (18 < pk) = true := by simpa using n2
                go_wp2
                go_quiet (fail)
                go_wp2
                go_ret
                exact ⟨.no HNO.out, belN HB.out _⟩
              · have m2 : decide (18 < pk) = false := by simpa using n2
                have n3 : pt < pf := by
                  have := HK.out
                  rcases Classical.em (pt < pf) with g | g
                  · exact g
                  · exact absurd ⟨by omega, by omega, by omega⟩ this
                have m3 : decide (pt < pf) = true := by simpa using n3
                go_wp2
                go_quiet (fail)
                go_wp2
                go_ret
                exact ⟨.no HNO.out, belN HB.out _⟩
        · obtain rfl : len = i := by omega
          go_wp2
          go_ret
          exact ⟨.yes (HRT.out HOK.out), HB.out⟩
    · have hno : ¬ Rt nv len lv := fun h => hg ⟨by have := h.u0; rw [HX.out] at this; exact this, by have := h.f0; rw [HX.out] at this; exact this, by have := h.t0; rw [HX.out] at this; exact this⟩
      have HNO := Lib.hid hno
      clear hno
      go_enter Tryd.func6, Tryd.ntmps6
      by_cases g1 : xu = -1
      · by_cases g2 : xf = 0
        · have g3 : xt ≠ lv := fun h => hg ⟨g1, g2, h⟩
          have t1 : (xt != lv) = true := by simpa using g3
          subst g1 g2
          clear hg
          go_wp2
          go_ret
          exact ⟨.no HNO.out, Below.refl _ _⟩
        · have t1 : (xf != 0) = true := by simpa using g2
          subst g1
          clear hg
          go_wp2
          go_ret
          exact ⟨.no HNO.out, Below.refl _ _⟩
      · have t1 : (xu != -1) = true := by simpa using g1
        clear hg
        go_wp2
        go_ret
        exact ⟨.no HNO.out, Below.refl _ _⟩
end
end Go.Proofs.YtdiolfniaiojfaaDoor

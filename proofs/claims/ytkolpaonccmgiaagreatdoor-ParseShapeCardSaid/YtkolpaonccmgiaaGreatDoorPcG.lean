/- The law ParseShape of layer 13 (parse). Condition: -/
import Derived.Test.YtkolpaonccmgiaaGreatDoorPbE
import Derived.Test.YtkolpaonccmgiaaGreatDoorSd
namespace Go.Proofs.YtkolpaonccmgiaaGreatDoor.Q
set_option linter.unusedSectionVars false
set_option linter.unusedVariables false
open Go.RowKit
set_option linter.unusedVariables false

def SpRl (m : Nat) (w2 : World) (v4 : Value) (wr : World) : Prop := ∃ k : Nat, k ≤ m ∧ v4 = .int .i64 (k : Int) ∧ Below w2.heap.size w2 wr
section
variable (w : World)
set_option maxRecDepth 100000 in
set_option maxHeartbeats 4000000 in
theorem shape_law (hT : Tx w) (la : Option Addr) (n lc : Nat) (lv : Nat → Lf) (hrow : LfRow w la n lv) :
    Calls Tryz.prog 5 #[.slice la n lc] w fun e w' => e = .returned (.bool true) ∧ Below w.heap.size w w' := by
  have HA := Lib.hid (awakeP_any w hT)
  have HROW := Lib.hid hrow
  have HT := Lib.hid hT
  have HS := Lib.hid (fun W (h : Below w.heap.size w W) => short_any W la n lc lv (hrow.below h) 40 (by omega))
  clear hT hrow
  go_enter Tryz.func5, Tryz.ntmps5
  go_wp2_with fail
  refine HA.out.mono ?_
  rintro e w1 ⟨rfl, hb1⟩
  have HB1 := Lib.hid hb1
  clear hb1
  go_wp2_with fail
  refine (HS.out _ HB1.out).mono ?_
  rintro e w2 ⟨⟨b, rfl, hb⟩, rfl⟩
  cases b with
  | false =>
    go_wp2
    go_ret
    exact ⟨rfl, HB1.out⟩
  | true =>
    obtain ⟨hn, hs⟩ := hb.1 rfl
    have HP := Lib.hid (parse_any (lc := lc) w2 (HROW.out.below HB1.out) (HT.out.b HB1.out) (fun i hi => Nat.le_trans (hs i hi) (by omega)) (by omega))
    clear hb hs
    go_wp2_with fail
    refine HP.out.mono ?_
    rintro e w3 ⟨L, oa, oc, rfl, hTr, hO, hb3⟩
    have hsh := tree_shape hTr
    have hlen := hTr.len
    have hR := (owns_nrow hO).2
    obtain ⟨m, hm⟩ : ∃ m, L.length = m := ⟨_, rfl⟩
    rw [hm] at hsh hlen hR ⊢
    have HRR := Lib.hid (refright_any w3 oa m oc (nl L) hR (n : Int) (by omega))
    have HSH := Lib.hid hsh
    have HR := Lib.hid hR
    have HB3 := Lib.hid (HB1.out.trans (hb3.mono HB1.out.size))
    obtain ⟨b0, off, hao, hb0, z0, z1, z2, z3⟩ := hR 0 hlen.1
    subst hao
    rw [hsh.2.1] at z0
    have hpos := hlen.1
    have hmx := hlen.2
    have p0 : (0 : Int) < (m : Int) := by omega
    simp only [Nat.zero_mul, Nat.add_zero] at z0
    have HZ := Lib.hid z0
    have HBL := Lib.hid hb0
    clear hTr hO hb3 hm hsh hlen hR z1 z2 z3 z0
    go_wp2_with fail
    refine HRR.out.mono ?_
    rintro e w4 ⟨⟨c, rfl, hc⟩, hb4⟩
    obtain rfl : c = true := hc.2 HSH.out.1
    have z0 := (hb4.cell (p := ⟨b0, off, none⟩) HBL.out).trans HZ.out
    have HB4 := Lib.hid (HB3.out.trans (hb4.mono HB3.out.size))
    have HR4 := Lib.hid (HR.out.below hb4)
    clear hc hb4
    go_wp2
    go_loopw [4] (fun v4 wr => SpRl m w4 v4 wr) (fun v4 _ => m - (intOf v4).toNat)
    case atStart => exact ⟨0, Nat.zero_le _, rfl, Below.refl _ _⟩
    case round =>
      obtain ⟨k, hk, rfl, hbr⟩ := hrel
      have HBR := Lib.hid hbr
      by_cases hlt : k < m
      · obtain ⟨b, off', hao, hbw, c0, c1, c2, c3⟩ := (HR4.out.below hbr) k hlt
        cases hao
        have hk1718 := HSH.out.2.2 k hlt
        have hbd : 0 ≤ (nl L k).f ∧ (nl L k).f ≤ 40 := by
          have h1 := nest HSH.out.1.ok k hlt 0 (abv0 HSH.out.1.sp k hlt)
          have h2 := (HSH.out.1.ok k hlt).ft
          rw [HSH.out.1.f0, HSH.out.1.t0] at h1
          omega
        obtain ⟨X, hX⟩ : ∃ X, nl L k = X := ⟨_, rfl⟩
        rw [hX] at c0 c1 c2 hk1718 hbd
        obtain ⟨pk, pf, pt, pu⟩ := X
        simp only at c0 c1 c2 hk1718 hbd
        have HBD := Lib.hid hbd
        have q0 : (0 : Int) ≤ (k : Int) := by omega
        have q1 : (k : Int) < (m : Int) := by omega
        have e1 : IntKind.i64.wrap ((k : Int) + 1) = ((k + 1 : Nat) : Int) := by rw [IntWalk.i64_in _ (by omega)]; rfl
        have HK := Lib.hid hk1718
        clear hk1718 hX c3 hbr z0 hbd
        have e2 : IntKind.i64.wrap (pf + 1) = pf + 1 := IntWalk.i64_in _ (by have := HBD.out; omega)
        by_cases h17 : pk = 17
        · have ht := HK.out.1 h17
          subst h17
          subst ht
          have u1 : (pf + 1 != pf + 1) = false := by simp
          go_wp2
          go_quiet (fail)
          go_wp2
          go_roundw
          case rel => exact ⟨k + 1, by omega, rfl, belN HBR.out _⟩
          case measure => simp [intOf]; omega
        · have u0 : (pk == 17) = false := by simpa using h17
          by_cases h18 : pk = 18
          · have ht := HK.out.2 h18
            subst h18
            subst ht
            have u1 : (pt != pt) = false := by simp
            clear h17
            go_wp2
            go_quiet (fail)
            go_wp2
            go_roundw
            case rel => exact ⟨k + 1, by omega, rfl, belN HBR.out _⟩
            case measure => simp [intOf]; omega
          · have u1 : (pk == 18) = false := by simpa using h18
            clear h17 h18
            go_wp2
            go_quiet (fail)
            go_wp2
            go_roundw
            case rel => exact ⟨k + 1, by omega, rfl, belN HBR.out _⟩
            case measure => simp [intOf]; omega
      · obtain rfl : k = m := by omega
        go_wp2
        go_ret
        exact ⟨rfl, HB4.out.trans (HBR.out.mono HB4.out.size)⟩
end
end Go.Proofs.YtkolpaonccmgiaaGreatDoor.Q

/- What stands, hangs and Check of layer 11 (tree) and the document's own Above and Right return, and right of the law. Condition: at most a million nodes. -/
import Derived.Test.YtdiolfniaiojfaaDoorTrM
namespace Go.Proofs.YtdiolfniaiojfaaDoor
open Go.RowKit
set_option linter.unusedVariables false

section
variable (w : World)
/-- Where the document's own way up stands. -/
def AbRl (nv : Nat → Nd) (a : Int) (b : Nat) (v2 : Value) : Prop :=
  (∃ x : Nat, v2 = .int .i64 (x : Int) ∧ x ≤ b ∧ Abv nv x b ∧ ∀ y : Nat, Abv nv y b → x < y → (y : Int) ≠ a) ∨ (∃ z : Int, v2 = .int .i64 z ∧ z < 0 ∧ ∀ y : Nat, Abv nv y b → (y : Int) ≠ a)
theorem abv_next {nv : Nat → Nd} {n x b : Nat} {a : Int} (hs : Sp nv n) (hb : b < n) (hx : Abv nv x b) (hy : ∀ y : Nat, Abv nv y b → x < y → (y : Int) ≠ a) (hne : (a == (x : Int)) = false) : AbRl nv a b (.int .i64 (nv x).u) := by
  have hle := hx.le
  have hne' : a ≠ (x : Int) := by simpa using hne
  rcases Nat.eq_zero_or_pos x with rfl | h0
  · refine .inr ⟨_, rfl, by rw [hs.1]; decide, fun y hy' => ?_⟩
    rcases Nat.eq_zero_or_pos y with rfl | h1
    · exact fun h => hne' h.symm
    · exact hy y hy' h1
  · obtain ⟨u, e, l, _⟩ := hs.2 x h0 (by omega)
    refine .inl ⟨u, by rw [e], by omega, (Abv.up e l .self).trans hx, fun y hy' hu => ?_⟩
    rcases Nat.lt_or_ge x y with h1 | h1
    · exact hy y hy' h1
    · rcases Nat.lt_or_ge y x with h2 | h2
      · have h3 := hy'.tot hx (by omega)
        rcases h3.inv with rfl | ⟨c, e', l', g'⟩
        · omega
        · have := g'.le; omega
      · obtain rfl : y = x := by omega
        exact fun h => hne' h.symm
set_option maxHeartbeats 1000000 in
theorem above_any (ao : Option Addr) (len cap n : Nat) (nv : Nat → Nd) (hrow : NRow w ao len nv) (hs : Sp nv n) (hn : n ≤ len) (a : Int) (b : Nat) (hb : b < n) (x : Bool) (hx : x = true ↔ ∃ y : Nat, (y : Int) = a ∧ Abv nv y b) (hlen : len ≤ 1000000) :
    Calls Tryd.prog 15 #[.slice ao len cap, .int .i64 a, .int .i64 (b : Int)] w fun e w' => e = .returned (.bool x) ∧ w' = w := by
  have HROW := Lib.hid hrow
  have HX := Lib.hid hx
  clear hrow hx
  go_enter Tryd.func15, Tryd.ntmps15
  go_wp2
  go_loopw [2] (fun v2 wr => AbRl nv a b v2 ∧ wr = w) (fun v2 _ => ((intOf v2) + 1).toNat)
  case atStart => exact ⟨.inl ⟨b, rfl, Nat.le_refl _, .self, fun y h1 h2 => by have := h1.le; omega⟩, rfl⟩
  case round =>
    obtain ⟨hA, rfl⟩ := hrel
    rcases hA with ⟨y, rfl, hyb, hya, hyn⟩ | ⟨z, rfl, hz, hyn⟩
    · have hnx := fun h => abv_next hs hb hya hyn h
      have hup : ((nv y).u) < (y : Int) := by
        rcases Nat.eq_zero_or_pos y with rfl | h0
        · rw [hs.1]; decide
        · obtain ⟨u, e, l, _⟩ := hs.2 y h0 (by omega)
          omega
      obtain ⟨bb, off, rfl, hbw, c0, c1, c2, c3⟩ := HROW.out y (by omega)
      obtain ⟨p, hp⟩ : ∃ p, nv y = p := ⟨_, rfl⟩
      rw [hp] at c0 c1 c2 c3 hnx hup
      obtain ⟨k, f, t, u⟩ := p
      simp only at c0 c1 c2 c3 hnx hup
      have q0 : (0 : Int) ≤ (y : Int) := by omega
      have q1 : (y : Int) < (len : Int) := by omega
      have HNX := Lib.hid hnx
      clear hnx hp
      go_wp2
      · go_ret
        refine ⟨ret_bool ?_, rfl⟩
        symm
        rw [HX.out]
        rename_i hay
        have h' : a = (y : Int) := by simpa using hay
        exact ⟨y, h'.symm, hya⟩
      · go_roundw
        case rel => exact ⟨HNX.out (by assumption), by first | rfl | trivial⟩
        case measure => simp [intOf]; omega
    · go_wp2
      go_ret
      refine ⟨ret_bool ?_, rfl⟩
      symm
      rw [← Bool.not_eq_true, HX.out]
      rintro ⟨y, h1, h2⟩
      exact hyn y h2 h1
/-- Where hangs goes up: at; the elder sister so far. -/
def HgRl (nv : Nat → Nd) (i : Nat) (pu : Int) (v6 v7 : Value) : Prop :=
  ∃ x : Nat, v7 = .int .i64 (x : Int) ∧ Abv nv x (i - 1) ∧ (∀ y : Nat, Abv nv y (i - 1) → x < y → (y : Int) ≠ pu) ∧
    ((v6 = .int .i64 (-1) ∧ x = i - 1) ∨ ∃ e : Nat, v6 = .int .i64 (e : Int) ∧ Abv nv e (i - 1) ∧ (nv e).u = (x : Int) ∧ x < e)
set_option maxHeartbeats 4000000 in
theorem hangs_any (ao : Option Addr) (len cap : Nat) (nv : Nat → Nd) (hrow : NRow w ao len nv) (i : Nat) (h0 : 0 < i) (hi : i < len) (hu : (nv 0).u = -1) (hok : ∀ j, j < i → okN nv j) (k1 : 1 ≤ (nv i).k) (k2 : (nv i).k ≤ 18) (ft : (nv i).f ≤ (nv i).t) (hlen : len ≤ 1000000) :
    Calls Tryd.prog 18 #[.slice ao len cap, .int .i64 (i : Int)] w fun e w' => RetB e (okN nv i) ∧ Below w.heap.size w w' := by
  have hs := sp_of hu hok
  have hnone := fun g => hangs_none hu hok h0 g k1 k2 ft
  have helder := fun e u g1 g2 g3 => hangs_elder (e := e) (u := u) hu hok h0 g1 g2 g3 k1 k2 ft
  have hnot : (∀ y : Nat, Abv nv y (i - 1) → (y : Int) ≠ (nv i).u) → ¬ okN nv i := fun h g => by
    obtain ⟨u, e, l, g', _⟩ := g.hang h0
    exact h u g' e.symm
  have hup : ∀ y : Nat, 0 < y → y < i → ∃ u : Nat, (nv y).u = (u : Int) ∧ u < y := fun y h1 h2 => by
    obtain ⟨u, e, l, _⟩ := hs.2 y h1 h2
    exact ⟨u, e, l⟩
  have HROW := Lib.hid hrow
  obtain ⟨bi, offi, rfl, hbi, d0, d1, d2, d3⟩ := hrow i hi
  clear hrow k1 k2 ft
  obtain ⟨P, hP⟩ : ∃ P, nv i = P := ⟨_, rfl⟩
  rw [hP] at d0 d1 d2 d3 hnone helder hnot
  have HP := Lib.hid hP
  obtain ⟨pk, pf, pt, pu⟩ := P
  simp only at d0 d1 d2 d3 hnone helder hnot
  have HNONE := Lib.hid hnone
  have HELDER := Lib.hid helder
  have HNOT := Lib.hid hnot
  have HUP := Lib.hid hup
  clear hP hnone helder hnot hup
  obtain ⟨W1, hW1⟩ : ∃ W1, w.alloc (.cells #[.int .i64 pk, .int .i64 pf, .int .i64 pt, .int .i64 pu] 27) = W1 := ⟨_, rfl⟩
  have hB1 : Below w.heap.size w W1 := by rw [← hW1]; exact (Below.refl _ _).alloc (Nat.le_refl _) _
  have hbk : Blk W1 w.heap.size #[.int .i64 pk, .int .i64 pf, .int .i64 pt, .int .i64 pu] 27 := by rw [← hW1]; exact Blk.new _ _ _
  have e0 : W1.cell? ⟨w.heap.size, 0, none⟩ = some (.int .i64 pk) := hbk.cell 0
  have e1 : W1.cell? ⟨w.heap.size, 1, none⟩ = some (.int .i64 pf) := hbk.cell 1
  have e2 : W1.cell? ⟨w.heap.size, 2, none⟩ = some (.int .i64 pt) := hbk.cell 2
  have e3 : W1.cell? ⟨w.heap.size, 3, none⟩ = some (.int .i64 pu) := hbk.cell 3
  have HRW := Lib.hid (HROW.out.below hB1)
  have HB := Lib.hid hB1
  have q0 : (0 : Int) ≤ (i : Int) := by omega
  have q1 : (i : Int) < (len : Int) := by omega
  clear hB1 hbk
  go_enter Tryd.func18, Tryd.ntmps18
  go_wp2
  clear hW1
  go_loopw [6, 7] (fun v6 v7 wr => HgRl nv i pu v6 v7 ∧ wr = W1) (fun _ v7 _ => (intOf v7).toNat)
  case atStart => exact ⟨⟨i - 1, by go_num, .self, fun y h1 h2 => by have := h1.le; omega, .inl ⟨rfl, rfl⟩⟩, rfl⟩
  case round =>
    obtain ⟨⟨x, rfl, hx1, hx2, hx3⟩, rfl⟩ := hrel
    have hxl := hx1.le
    obtain ⟨bx, offx, hao, hbx, c0, c1, c2, c3⟩ := HRW.out x (by omega)
    cases hao
    have r0 : (0 : Int) ≤ (x : Int) := by omega
    have r1 : (x : Int) < (len : Int) := by omega
    have HX2 := Lib.hid hx2
    by_cases hxu : (x : Int) = pu
    · have t1 : ((x : Int) != pu) = false := by simpa using hxu
      obtain ⟨X, hX⟩ : ∃ X, nv x = X := ⟨_, rfl⟩
      rw [hX] at c0 c1 c2 c3
      obtain ⟨xk, xf, xt, xu⟩ := X
      simp only at c0 c1 c2 c3
      rcases hx3 with ⟨rfl, hx4⟩ | ⟨e, rfl, he1, he2, he3⟩
      · have hb := HNONE.out (by omega)
        rw [← hx4, hX] at hb
        simp only at hb
        have HBB := Lib.hid hb
        subst hxu
        have HX := Lib.hid (And.intro hX hx4)
        clear hb hX hx2 hx1 hx4
        by_cases hz : xf ≤ pf
        · have z1 : decide (xf ≤ pf) = true := by simpa using hz
          go_wp2
          go_quiet (fail)
          go_wp2
          go_ret
          refine ⟨.dec ?_, belN HB.out _⟩
          rw [HBB.out]
          simp
          try omega
        · have z1 : decide (xf ≤ pf) = false := by simpa using hz
          go_wp2
          go_quiet (fail)
          go_wp2
          go_ret
          refine ⟨.no (fun h => by have := (HBB.out.1 h).1; omega), belN HB.out _⟩
      · have hb := HELDER.out e x he1 he2 (by omega)
        have hel := he1.le
        obtain ⟨be, offe, hao, hbe, g0, g1, g2, g3⟩ := HRW.out e (by omega)
        cases hao
        obtain ⟨E, hE⟩ : ∃ E, nv e = E := ⟨_, rfl⟩
        rw [hE] at g0 g1 g2 g3 hb
        rw [hX] at hb
        obtain ⟨ek, ef, et, eu⟩ := E
        simp only at g0 g1 g2 g3 hb
        have HBB := Lib.hid hb
        have s0 : (0 : Int) ≤ (e : Int) := by omega
        have s1 : (e : Int) < (len : Int) := by omega
        subst hxu
        clear hb hX hE hx2 hx1 he2 he1
        by_cases hz : et ≤ pf
        · have z1 : decide (et ≤ pf) = true := by simpa using hz
          go_wp2
          go_quiet (fail)
          go_wp2
          go_ret
          refine ⟨.dec ?_, belN HB.out _⟩
          rw [HBB.out]
          simp
          try omega
        · have z1 : decide (et ≤ pf) = false := by simpa using hz
          go_wp2
          go_quiet (fail)
          go_wp2
          go_ret
          refine ⟨.no (fun h => by have := (HBB.out.1 h).1; omega), belN HB.out _⟩
    · have t1 : ((x : Int) != pu) = true := by simpa using hxu
      rcases Nat.eq_zero_or_pos x with hx0 | hx0
      · subst hx0
        have hnn := HNOT.out (fun y hy => by
          rcases Nat.eq_zero_or_pos y with rfl | g
          · exact hxu
          · exact HX2.out y hy g)
        have HNN := Lib.hid hnn
        clear hnn hx2 hx1 hx3
        go_wp2
        go_ret
        exact ⟨.no HNN.out, HB.out⟩
      · obtain ⟨u, hxu1, hxu2⟩ := HUP.out x hx0 (by omega)
        rw [hxu1] at c3
        have HU1 := Lib.hid hxu1
        have HX1 := Lib.hid hx1
        clear hxu1 hx2 hx3 hx1
        go_wp2
        go_roundw
        case rel =>
          refine ⟨⟨u, rfl, (Abv.up HU1.out hxu2 .self).trans HX1.out, fun y hy hyu => ?_, .inr ⟨x, rfl, HX1.out, HU1.out, hxu2⟩⟩, by first | rfl | trivial⟩
          rcases Nat.lt_or_ge x y with g | g
          · exact HX2.out y hy g
          · rcases Nat.lt_or_ge y x with g2 | g2
            · have g3 := hy.tot HX1.out (by omega)
              rcases g3.inv with rfl | ⟨c, e', l', g'⟩
              · omega
              · have h1 := HU1.out
                have := g'.le
                omega
            · obtain rfl : y = x := by omega
              exact hxu
        case measure => simp [intOf]; omega
/-- Where Check's round stands. -/
def CkRl (nv : Nat → Nd) (len : Nat) (w : World) (v34 : Value) (wr : World) : Prop :=
  ∃ i : Nat, v34 = .int .i64 (i : Int) ∧ i ≤ len ∧ (∀ j, j < i → okN nv j) ∧ Below w.heap.size w wr
set_option maxHeartbeats 4000000 in
theorem check_any (ao : Option Addr) (len cap : Nat) (nv : Nat → Nd) (hrow : NRow w ao len nv) (lv : Int) (hlen : len ≤ 1000000) :
    Calls Tryd.prog 10 #[.slice ao len cap, .int .i64 lv] w fun e w' => RetB e (Rt nv len lv) ∧ Below w.heap.size w w' := by
  have HROW := Lib.hid hrow
  rcases Nat.eq_zero_or_pos len with h0 | h0
  · subst h0
    have hno : ¬ Rt nv 0 lv := fun h => absurd h.pos (Nat.lt_irrefl _)
    have HNO := Lib.hid hno
    clear hno hrow
    go_enter Tryd.func10, Tryd.ntmps10
    go_wp2
    go_ret
    exact ⟨.no HNO.out, Below.refl _ _⟩
  · obtain ⟨b, off, rfl, hbw, c0, c1, c2, c3⟩ := hrow 0 h0
    have hlz : ((len : Int) == 0) = false := by simp; omega
    have q0 : (0 : Int) < (len : Int) := by omega
    obtain ⟨X, hX⟩ : ∃ X, nv 0 = X := ⟨_, rfl⟩
    have HX := Lib.hid hX
    rw [hX] at c0 c1 c2 c3
    obtain ⟨xk, xf, xt, xu⟩ := X
    simp only [Nat.zero_mul, Nat.add_zero] at c0 c1 c2 c3
    clear hX hrow
    by_cases hg : xu = -1 ∧ xf = 0 ∧ xt = lv
    · obtain ⟨g1, g2, g3⟩ := hg
      subst g1 g2 g3
      have hrt : (∀ j, j < len → okN nv j) → Rt nv len xt := fun h => ⟨h0, by rw [HX.out], by rw [HX.out], by rw [HX.out], h⟩
      have HRT := Lib.hid hrt
      clear hrt
      go_enter Tryd.func10, Tryd.ntmps10
      go_wp2
      go_loopw [34] (fun v34 wr => CkRl nv len w v34 wr) (fun v34 _ => len - (intOf v34).toNat)
      case atStart => exact ⟨0, rfl, Nat.zero_le _, fun j h => by omega, Below.refl _ _⟩
      case round =>
        obtain ⟨i, rfl, hil, hok, hB⟩ := hrel
        have HOK := Lib.hid hok
        have HB := Lib.hid hB
        clear hok hB
        by_cases hlt : (i : Int) < (len : Int)
        · have hlt' : i < len := by omega
          have r0 : (0 : Int) ≤ (i : Int) := by omega
          obtain ⟨bi, offi, hao, hbi, d0, d1, d2, d3⟩ := (HROW.out.below HB.out) i hlt'
          cases hao
          obtain ⟨P, hP⟩ : ∃ P, nv i = P := ⟨_, rfl⟩
          have HP := Lib.hid hP
          rw [hP] at d0 d1 d2 d3
          obtain ⟨pk, pf, pt, pu⟩ := P
          simp only at d0 d1 d2 d3
          have hB1 : Below w.heap.size w (wr.alloc (.cells #[.int .i64 pk, .int .i64 pf, .int .i64 pt, .int .i64 pu] 27)) := HB.out.alloc HB.out.size _
          have hs1 : wr.heap.size + 1 = (wr.alloc (.cells #[.int .i64 pk, .int .i64 pf, .int .i64 pt, .int .i64 pu] 27)).heap.size := (World.size_alloc _ _).symm
          have HS1 := Lib.hid hs1
          have HB1 := Lib.hid hB1
          have HR1 := Lib.hid (HROW.out.below hB1)
          clear hP hB1 hs1
          by_cases hk : 1 ≤ pk ∧ pk ≤ 18 ∧ pf ≤ pt
          · obtain ⟨k1, k2, k3⟩ := hk
            have n1 : ¬ pk < 1 := by omega
            have n2 : ¬ 18 < pk := by omega
            have n3 : ¬ pt < pf := by omega
            have HK := Lib.hid (And.intro k1 (And.intro k2 k3))
            clear k1 k2 k3
            by_cases hi0 : i = 0
            · subst hi0
              have HM : ∀ j, j < 0 + 1 → okN nv j := fun j hj => by
                obtain rfl : j = 0 := by omega
                exact ⟨by rw [HP.out]; exact HK.out.1, by rw [HP.out]; exact HK.out.2.1, by rw [HP.out]; exact HK.out.2.2, fun h => by omega⟩
              have HM := Lib.hid HM
              have z0 : ¬ (0 : Int) < 0 := by decide
              simp only [Nat.zero_mul, Nat.add_zero] at d0 d1 d2 d3
              go_wp2
              go_roundw
              case rel => exact ⟨1, rfl, by omega, HM.out, HB1.out⟩
              case measure => simp [intOf]; omega
            · have hi1 : 0 < i := by omega
              have z1 : (0 : Int) < (i : Int) := by omega
              have HC := Lib.hid (hangs_any (wr.alloc (.cells #[.int .i64 pk, .int .i64 pf, .int .i64 pt, .int .i64 pu] 27)) _ len cap nv HR1.out i hi1 hlt' (by rw [HX.out]) HOK.out (by rw [HP.out]; exact HK.out.1) (by rw [HP.out]; exact HK.out.2.1) (by rw [HP.out]; exact HK.out.2.2) hlen)
              go_wp2_with fail
              refine HC.out.mono ?_
              rintro e w3 ⟨⟨x, rfl, hx⟩, hb3⟩
              have hB3 := HB1.out.trans (hb3.mono HB1.out.size)
              have HB3 := Lib.hid hB3
              have HX3 := Lib.hid hx
              clear hx hB3 hb3
              cases x
              · go_wp2
                go_ret
                refine ⟨.no (fun R => ?_), HB3.out⟩
                have h1 := HX3.out.2 (R.ok i hlt')
                simp at h1
              · go_wp2
                go_roundw
                case rel =>
                  refine ⟨i + 1, by go_num, by omega, fun j hj => ?_, HB3.out⟩
                  rcases Nat.lt_or_ge j i with g | g
                  · exact HOK.out j g
                  · obtain rfl : j = i := by omega
                    exact HX3.out.1 (by trivial)
                case measure => simp [intOf]; omega
          · have hno : ¬ Rt nv len xt := fun R => hk ⟨by have := (R.ok i hlt').k1; rw [HP.out] at this; exact this, by have := (R.ok i hlt').k2; rw [HP.out] at this; exact this, by have := (R.ok i hlt').ft; rw [HP.out] at this; exact this⟩
            have HNO := Lib.hid hno
            have HK := Lib.hid hk
            clear hno hk
            by_cases n1 : pk < 1
            · go_wp2
              go_ret
              exact ⟨.no HNO.out, HB1.out⟩
            · by_cases n2 : 18 < pk
              · go_wp2
                go_ret
                exact ⟨.no HNO.out, HB1.out⟩
              · have n3 : pt < pf := by
                  have := HK.out
                  rcases Classical.em (pt < pf) with g | g
                  · exact g
                  · exact absurd ⟨by omega, by omega, by omega⟩ this
                go_wp2
                go_ret
                exact ⟨.no HNO.out, HB1.out⟩
        · obtain rfl : len = i := by omega
          go_wp2
          go_ret
          exact ⟨.yes (HRT.out HOK.out), HB.out⟩
    · have hno : ¬ Rt nv len lv := fun h => hg ⟨by have := h.u0; rw [HX.out] at this; exact this, by have := h.f0; rw [HX.out] at this; exact this, by have := h.t0; rw [HX.out] at this; exact this⟩
      have HNO := Lib.hid hno
      clear hno
      go_enter Tryd.func10, Tryd.ntmps10
      by_cases g1 : xu = -1
      · by_cases g2 : xf = 0
        · have g3 : xt ≠ lv := fun h => hg ⟨g1, g2, h⟩
          have t1 : (xt != lv) = true := by simpa using g3
          subst g1 g2
          clear hg
          go_wp2
          go_ret
          exact ⟨.no HNO.out, Below.refl _ _⟩
        · have t1 : (xf != 0) = true := by simpa using g2
          subst g1
          clear hg
          go_wp2
          go_ret
          exact ⟨.no HNO.out, Below.refl _ _⟩
      · have t1 : (xu != -1) = true := by simpa using g1
        clear hg
        go_wp2
        go_ret
        exact ⟨.no HNO.out, Below.refl _ _⟩
end
end Go.Proofs.YtdiolfniaiojfaaDoor

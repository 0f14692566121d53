/- LinesFollow's walk: for every text and every row of edits the law returns true, and what lay in memory before stays as it was. Condition: each text of the edits at most 2^47 bytes, which the reach of every statement gives. -/
import Derived.Test.YtiiebholgmhogaaLnT
import Derived.Test.YtiiebholgmhogaaLnG
import Derived.Test.YtiiebholgmhogaaR1
namespace Go.Proofs.Ytiiebholgmhogaa
open Go.RowKit Go.Shelf
set_option linter.unusedVariables false

/-- A row of edits. -/
def EdRow (w : World) (b off len : Nat) (av : Nat → Int) (dv nv : Nat → ByteArray) : Prop :=
  b < w.heap.size ∧ ∀ i, i < len → w.cell? ⟨b, off + i * 3, none⟩ = some (.int .i64 (av i)) ∧ w.cell? ⟨b, off + i * 3 + 1, none⟩ = some (.string (dv i)) ∧ w.cell? ⟨b, off + i * 3 + 2, none⟩ = some (.string (nv i))
theorem EdRow.below {w w' : World} {b off len : Nat} {av : Nat → Int} {dv nv : Nat → ByteArray} (h : EdRow w b off len av dv nv) (hb : Below w.heap.size w w') : EdRow w' b off len av dv nv :=
  ⟨Nat.lt_of_lt_of_le h.1 hb.size, fun i hi => ⟨(hb.cell (p := ⟨b, _, none⟩) h.1).trans (h.2 i hi).1, (hb.cell (p := ⟨b, _, none⟩) h.1).trans (h.2 i hi).2.1, (hb.cell (p := ⟨b, _, none⟩) h.1).trans (h.2 i hi).2.2⟩⟩
theorem refdo_I (s d n : ByteArray) (w : World) (a : Int) (h : wrongN s a d n = 0) (hs : s.size ≤ 281474976710656) (hns : n.size ≤ 281474976710656) :
    Calls Try.prog 18 #[.string s, .agg #[.int .i64 a, .string d, .string n]] w fun e w' => e = .returned (.string (doB s a.toNat d n)) ∧ Below w.heap.size w w' := by
  have hf := (wrongN_0 h).2.2.1.1
  obtain ⟨k, rfl⟩ := Int.eq_ofNat_of_zero_le (wrongN_0 h).1
  simp only [Int.toNat_natCast] at hf
  exact refdo_any s d n k w (by omega) hs hns
theorem apply_I (s d n : ByteArray) (xb : Nat) (sv : Value) (w : World) (a : Int) (h : wrongN s a d n = 0) (hs : s.size ≤ 100000) (hd : d.size ≤ 100000) (hn : n.size ≤ 100000) (hI : Ix w xb sv s) :
    Calls Try.prog 17 #[.pointer (some ⟨xb, 0, none⟩), .agg #[.int .i64 a, .string d, .string n]] w fun e w' => e = .returned (.int .i64 0) ∧ ∃ sv', Ix w' xb sv' (doB s a.toNat d n) ∧ Frm (fun k => k = xb ∨ sv.ownBlock = some k) w w' ∧ ∀ k, sv'.ownBlock = some k → sv.ownBlock = some k ∨ w.heap.size ≤ k := by
  have hf := (wrongN_0 h).2.2.1
  obtain ⟨k, rfl⟩ := Int.eq_ofNat_of_zero_le (wrongN_0 h).1
  simp only [Int.toNat_natCast] at hf ⊢
  exact apply_good s d n xb sv w k hs hd hn hI hf

section
variable (av : Nat → Int) (dv nv : Nat → ByteArray)
def FoRel (xb len : Nat) (w : World) (v0 v6 : Value) (wr : World) : Prop :=
  ∃ (i : Nat) (c : ByteArray) (sv : Value), v0 = .string c ∧ v6 = .int .i64 i ∧ i ≤ len ∧ c.size ≤ 200 + 100 * i ∧ Ix wr xb sv c ∧ Below w.heap.size w wr ∧ (∀ k, sv.ownBlock = some k → w.heap.size ≤ k)

set_option maxRecDepth 100000 in
set_option maxHeartbeats 4000000 in
theorem follow_row (s : ByteArray) (b off len cap : Nat) (w : World) (hs : s.size ≤ 200) (hlen : len ≤ 12) (hrow : EdRow w b off len av dv nv) :
    Calls Try.prog 5 #[.string s, .slice (some ⟨b, off, none⟩) len cap] w fun e w' => e = .returned (.bool true) ∧ Below w.heap.size w w' := by
  have HROW := Lib.hid hrow
  clear hrow
  have i1 : ¬ (200 : Int) < s.size := by omega
  have i2 : ¬ (12 : Int) < len := by omega
  go_enter Try.func5, Try.ntmps5
  go_wp2_with fail
  refine (awake_any _).mono ?_
  rintro e w1 ⟨rfl, hb1⟩
  go_wp2_with fail
  refine (new_any s (by omega) _).mono ?_
  rintro e w2 ⟨xb, sv, rfl, hI, hxb, hsvb, hb2⟩
  have hB := hb1.trans (hb2.mono hb1.size)
  have hxw : w.heap.size ≤ xb := Nat.le_trans hb1.size hxb
  have hsw : ∀ k, sv.ownBlock = some k → w.heap.size ≤ k := fun k hk => Nat.le_trans hb1.size (hsvb k hk)
  clear hb1 hb2 hxb hsvb
  go_wp2
  go_loopw [0, 6] (fun v0 v6 wr => FoRel xb len w v0 v6 wr) (fun _ v6 _ => len - (intOf v6).toNat)
  case atStart => exact ⟨0, s, sv, rfl, rfl, Nat.zero_le _, by omega, hI, hB, hsw⟩
  case round =>
    clear hI hB hsw
    obtain ⟨i, c, sv, rfl, rfl, hi, hc, hI, hbel, hsw⟩ := hrel
    by_cases hlt : i < len
    · have hrow := HROW.out.below hbel
      obtain ⟨g0, g1, g2⟩ := hrow.2 i hlt
      have hb := hrow.1
      have hx : (i : Int) < len := by omega
      clear hrow
      have hz1 := hbel.size
      by_cases l1 : (100 : Int) < (dv i).size
      · go_wp2
        go_ret
        exact ⟨rfl, hbel⟩
      · by_cases l2 : (100 : Int) < (nv i).size
        · go_wp2
          go_ret
          exact ⟨rfl, hbel⟩
        · rcases wrongN_cases c (av i) (dv i) (nv i) with k0 | k0
          · have hsm : (doB c (av i).toNat (dv i) (nv i)).size ≤ 200 + 100 * (i + 1) := by
              have := (wrongN_0 k0).2.2.1.1
              rw [doB_size this]
              omega
            have HAP := Lib.hid (fun X hX => apply_I c (dv i) (nv i) xb sv X (av i) k0 (by omega) (by omega) (by omega) hX)
            generalize hgd : doB c (av i).toNat (dv i) (nv i) = c2 at *
            have HG := Lib.hid hgd
            have HK := Lib.hid k0
            clear k0 hgd
            go_wp2_with fail
            refine (wrong_eq c (dv i) (nv i) _ (av i) 0 HK.out (by omega) (by omega)).mono ?_
            rintro e w1 ⟨rfl, hb1⟩
            obtain ⟨h0, h1, h2⟩ := (((HROW.out.below hbel).below hb1).2 i hlt)
            have hB := hbel.trans (hb1.mono hz1)
            have hI1 := hI.below hb1
            clear hb1 g0 g1 g2 hI
            go_wp2_with fail
            refine (refdo_I c (dv i) (nv i) _ (av i) HK.out (by omega) (by omega)).mono ?_
            rw [HG.out]
            rintro e w3 ⟨rfl, hb3⟩
            have hB3 := hB.trans (hb3.mono hB.size)
            have hI3 := hI1.below hb3
            obtain ⟨h0, h1, h2⟩ := (((HROW.out.below hB)).below hb3).2 i hlt
            clear hb3 hI1
            go_wp2_with fail
            refine (HAP.out _ hI3).mono ?_
            rintro e w4 ⟨rfl, sv4, hI4, hF4, hs4⟩
            have hB4 : Below w.heap.size w w4 := hB3.trans (hF4.below hB3.size (fun k hk => by
              rcases hk with hk | hk
              · omega
              · exact hsw k hk))
            have hsw4 : ∀ k, sv4.ownBlock = some k → w.heap.size ≤ k := fun k hk => by
              rcases hs4 k hk with h | h
              · exact hsw k h
              · have := hB3.size
                omega
            clear hI3 hF4 hs4
            go_wp2_with fail
            refine (right_any c2 xb sv4 _ (by omega) hI4).mono ?_
            rintro e w5 ⟨rfl, hb5⟩
            have hI5 := hI4.below hb5
            have hB5 := hB4.trans (hb5.mono hB4.size)
            clear hb5 hI4
            go_wp2
            go_roundw
            case rel => exact ⟨i + 1, c2, sv4, rfl, by go_num, by omega, hsm, hI5, hB5, hsw4⟩
            case measure => simp [intOf]; omega
          · obtain ⟨k, hk, hk0⟩ : ∃ k, wrongN c (av i) (dv i) (nv i) = k ∧ ((k : Int) == 0) = false := by
              rcases k0 with h | h
              · exact ⟨1, h, rfl⟩
              · exact ⟨2, h, rfl⟩
            have HK := Lib.hid hk
            clear k0 hk
            have hw1 : 0 ≤ av i → av i ≤ c.size → IntKind.i64.wrap ((c.size : Int) - av i) = (c.size : Int) - av i := fun h1 h2 => IntWalk.i64_in _ (by omega)
            have key : (av i < 0 ∨ (c.size : Int) < av i ∨ (0 ≤ av i ∧ av i ≤ c.size ∧ (c.size : Int) - av i < (dv i).size)) ∨ (0 ≤ av i ∧ av i ≤ c.size ∧ ¬ ((c.size : Int) - av i < (dv i).size)) := by omega
            rcases key with hbad | ⟨hin1, hin2, hin3⟩
            · have HAB := Lib.hid (fun X hX => apply_bad c (dv i) (nv i) xb sv X (av i) (by omega) (by omega) hX hbad)
              rcases hbad with hb1 | hb1 | ⟨hb1, hb2, hb3⟩
              · have hd1 : decide (av i < 0) = true := by simpa using hb1
                clear hw1
                go_wp2_with fail
                refine (wrong_eq c (dv i) (nv i) _ (av i) k HK.out (by omega) (by omega)).mono ?_
                rintro e w1 ⟨rfl, hc1⟩
                obtain ⟨h0, h1, h2⟩ := (((HROW.out.below hbel).below hc1).2 i hlt)
                have hB := hbel.trans (hc1.mono hz1)
                have hI1 := hI.below hc1
                clear hc1 g0 g1 g2 hI
                go_wp2
                go_quiet (fail)
                obtain ⟨V, hV⟩ : ∃ V, V = w1.drewN nq := ⟨_, rfl⟩
                have hBV : Below w.heap.size w V := hV ▸ below_drewN hB _
                have hIV : Ix V xb sv c := hV ▸ hI1.drew ⟨_, rfl⟩
                have hbV : Below w1.heap.size w1 V := hV ▸ below_drewN (Below.refl _ _) _
                rw [← hV]
                clear hV hI1 h0 h1 h2
                obtain ⟨h0, h1, h2⟩ := ((HROW.out.below hB).below hbV).2 i hlt
                go_wp2_with fail
                refine (HAB.out _ hIV).mono ?_
                rintro e w4 ⟨rfl, hb4⟩
                have hI4 := hIV.below hb4
                have hB4 := hBV.trans (hb4.mono hBV.size)
                clear hb4 hIV
                go_wp2_with fail
                refine (right_any c xb sv _ (by omega) hI4).mono ?_
                rintro e w5 ⟨rfl, hb5⟩
                have hI5 := hI4.below hb5
                have hB5 := hB4.trans (hb5.mono hB4.size)
                clear hb5 hI4
                go_wp2
                go_roundw
                case rel => exact ⟨i + 1, c, sv, rfl, by go_num, by omega, by omega, hI5, hB5, hsw⟩
                case measure => simp [intOf]; omega
              · have hd1 : decide (av i < 0) = false := by simp; omega
                have hd2 : decide ((c.size : Int) < av i) = true := by simpa using hb1
                clear hw1
                go_wp2_with fail
                refine (wrong_eq c (dv i) (nv i) _ (av i) k HK.out (by omega) (by omega)).mono ?_
                rintro e w1 ⟨rfl, hc1⟩
                obtain ⟨h0, h1, h2⟩ := (((HROW.out.below hbel).below hc1).2 i hlt)
                have hB := hbel.trans (hc1.mono hz1)
                have hI1 := hI.below hc1
                clear hc1 g0 g1 g2 hI
                go_wp2
                go_quiet (fail)
                obtain ⟨V, hV⟩ : ∃ V, V = w1.drewN nq := ⟨_, rfl⟩
                have hBV : Below w.heap.size w V := hV ▸ below_drewN hB _
                have hIV : Ix V xb sv c := hV ▸ hI1.drew ⟨_, rfl⟩
                have hbV : Below w1.heap.size w1 V := hV ▸ below_drewN (Below.refl _ _) _
                rw [← hV]
                clear hV hI1 h0 h1 h2
                obtain ⟨h0, h1, h2⟩ := ((HROW.out.below hB).below hbV).2 i hlt
                go_wp2_with fail
                refine (HAB.out _ hIV).mono ?_
                rintro e w4 ⟨rfl, hb4⟩
                have hI4 := hIV.below hb4
                have hB4 := hBV.trans (hb4.mono hBV.size)
                clear hb4 hIV
                go_wp2_with fail
                refine (right_any c xb sv _ (by omega) hI4).mono ?_
                rintro e w5 ⟨rfl, hb5⟩
                have hI5 := hI4.below hb5
                have hB5 := hB4.trans (hb5.mono hB4.size)
                clear hb5 hI4
                go_wp2
                go_roundw
                case rel => exact ⟨i + 1, c, sv, rfl, by go_num, by omega, by omega, hI5, hB5, hsw⟩
                case measure => simp [intOf]; omega
              · have hd1 : decide (av i < 0) = false := by simp; omega
                have hd2 : decide ((c.size : Int) < av i) = false := by simp; omega
                have hd3 : decide ((c.size : Int) - av i < (dv i).size) = true := by simpa using hb3
                have hw2 := hw1 hb1 hb2
                clear hw1
                go_wp2_with fail
                refine (wrong_eq c (dv i) (nv i) _ (av i) k HK.out (by omega) (by omega)).mono ?_
                rintro e w1 ⟨rfl, hc1⟩
                obtain ⟨h0, h1, h2⟩ := (((HROW.out.below hbel).below hc1).2 i hlt)
                have hB := hbel.trans (hc1.mono hz1)
                have hI1 := hI.below hc1
                clear hc1 g0 g1 g2 hI
                go_wp2
                go_quiet (fail)
                obtain ⟨V, hV⟩ : ∃ V, V = w1.drewN nq := ⟨_, rfl⟩
                have hBV : Below w.heap.size w V := hV ▸ below_drewN hB _
                have hIV : Ix V xb sv c := hV ▸ hI1.drew ⟨_, rfl⟩
                have hbV : Below w1.heap.size w1 V := hV ▸ below_drewN (Below.refl _ _) _
                rw [← hV]
                clear hV hI1 h0 h1 h2
                obtain ⟨h0, h1, h2⟩ := ((HROW.out.below hB).below hbV).2 i hlt
                go_wp2_with fail
                refine (HAB.out _ hIV).mono ?_
                rintro e w4 ⟨rfl, hb4⟩
                have hI4 := hIV.below hb4
                have hB4 := hBV.trans (hb4.mono hBV.size)
                clear hb4 hIV
                go_wp2_with fail
                refine (right_any c xb sv _ (by omega) hI4).mono ?_
                rintro e w5 ⟨rfl, hb5⟩
                have hI5 := hI4.below hb5
                have hB5 := hB4.trans (hb5.mono hB4.size)
                clear hb5 hI4
                go_wp2
                go_roundw
                case rel => exact ⟨i + 1, c, sv, rfl, by go_num, by omega, by omega, hI5, hB5, hsw⟩
                case measure => simp [intOf]; omega
            · have hd1 : decide (av i < 0) = false := by simp; omega
              have hd2 : decide ((c.size : Int) < av i) = false := by simp; omega
              have hd3 : decide ((c.size : Int) - av i < (dv i).size) = false := by simp; omega
              have hw2 := hw1 hin1 hin2
              clear hw1
              go_wp2_with fail
              refine (wrong_eq c (dv i) (nv i) _ (av i) k HK.out (by omega) (by omega)).mono ?_
              rintro e w1 ⟨rfl, hc1⟩
              obtain ⟨h0, h1, h2⟩ := (((HROW.out.below hbel).below hc1).2 i hlt)
              have hB := hbel.trans (hc1.mono hz1)
              have hI1 := hI.below hc1
              clear hc1 g0 g1 g2 hI
              go_wp2
              go_quiet (fail)
              go_wp2
              go_roundw
              case rel => exact ⟨i + 1, c, sv, rfl, by go_num, by omega, by omega, hI1.drew ⟨_, rfl⟩, below_drewN hB _, hsw⟩
              case measure => simp [intOf]; omega
    · have e : i = len := by omega
      subst e
      go_wp2
      go_ret
      exact ⟨rfl, hbel⟩
end

set_option maxHeartbeats 1000000 in
theorem follow_large (s : ByteArray) (A : Option Addr) (len cap : Nat) (w : World) (h : 200 < s.size ∨ 12 < len) :
    Calls Try.prog 5 #[.string s, .slice A len cap] w fun e w' => e = .returned (.bool true) ∧ Below w.heap.size w w' := by
  go_enter Try.func5, Try.ntmps5
  go_wp2_with fail
  refine (awake_any _).mono ?_
  rintro e w1 ⟨rfl, hb1⟩
  by_cases h1 : (200 : Int) < s.size
  · go_wp2
    go_ret
    exact ⟨rfl, hb1⟩
  · have h3 : (12 : Int) < len := by omega
    go_wp2
    go_ret
    exact ⟨rfl, hb1⟩

set_option maxHeartbeats 1000000 in
theorem follow_none (s : ByteArray) (A : Option Addr) (cap : Nat) (w : World) (hs : s.size ≤ 200) :
    Calls Try.prog 5 #[.string s, .slice A 0 cap] w fun e w' => e = .returned (.bool true) ∧ Below w.heap.size w w' := by
  have i1 : ¬ (200 : Int) < s.size := by omega
  go_enter Try.func5, Try.ntmps5
  go_wp2_with fail
  refine (awake_any _).mono ?_
  rintro e w1 ⟨rfl, hb1⟩
  go_wp2_with fail
  refine (new_any s (by omega) _).mono ?_
  rintro e w2 ⟨xb, sv, rfl, hI, _, _, hb2⟩
  have hB := hb1.trans (hb2.mono hb1.size)
  clear hb1 hb2 hI
  go_wp2
  go_loopw [0, 6] (fun v0 v6 wr => v0 = .string s ∧ v6 = .int .i64 0 ∧ Below w.heap.size w wr) (fun _ _ _ => 0)
  case atStart => exact ⟨rfl, rfl, hB⟩
  case round =>
    obtain ⟨rfl, rfl, hbel⟩ := hrel
    go_wp2
    go_ret
    exact ⟨rfl, hbel⟩
end Go.Proofs.Ytiiebholgmhogaa

/- The walk of the statement EditAll: it returns true, and what lay in memory before stays as it was: condition: each text of the edits at most 2^47 bytes, which the reach of every statement gives. -/
import Derived.Test.YtjickhgkhcojgaaEdN
namespace Go.Proofs.Ytjickhgkhcojgaa
open Go.RowKit
set_option linter.unusedVariables false

section
variable (av : Nat → Int) (dv nv : Nat → ByteArray)
def LawRel (r : ByteArray × Nat × Int) (len : Nat) (w : World) (vs vi : Value) (wr : World) : Prop :=
  ∃ (i : Nat) (s : ByteArray), vs = .string s ∧ vi = .int .i64 i ∧ i ≤ len ∧ s.size ≤ 1048576 ∧ runE av dv nv (len - i) i s = r ∧ Below w.heap.size w wr

set_option maxHeartbeats 1000000 in
theorem alls_row (s : ByteArray) (b off len cap : Nat) (w : World) (hs : s.size ≤ 300) (hlen : len ≤ 20) (hrow : EdRow w b off len av dv nv)
    (hd : ∀ i, i < len → (dv i).size ≤ 140737488351232) (hn : ∀ i, i < len → (nv i).size ≤ 140737488351232) :
    Calls Try.prog 8 #[.string s, .slice (some ⟨b, off, none⟩) len cap] w fun e w' => e = .returned (.bool true) ∧ Below w.heap.size w w' := by
  obtain ⟨rt, rn, rk, hres⟩ : ∃ rt rn rk, runE av dv nv len 0 s = (rt, rn, rk) := ⟨_, _, _, rfl⟩
  have HRES := Lib.hid hres
  have HROW := Lib.hid hrow
  have HD := Lib.hid hd
  have HN := Lib.hid hn
  clear hrow hd hn hres
  have i1 : ¬ (300 : Int) < s.size := by omega
  have i2 : ¬ (20 : Int) < len := by omega
  go_enter Try.func8, Try.ntmps8
  go_wp2_with fail
  refine (awake_any _).mono ?_
  rintro e w1 ⟨rfl, hb1⟩
  go_wp2_with fail
  refine (all_row av dv nv s b off len cap _ (by omega) (by omega) (HROW.out.below hb1) HD.out HN.out).mono ?_
  rw [HRES.out]
  rintro e w2 ⟨rfl, hb2⟩
  have hB := hb1.trans (hb2.mono hb1.size)
  clear hb1 hb2
  go_wp2
  go_loopw [8, 9] (fun vs vi wr => LawRel av dv nv (rt, rn, rk) len w vs vi wr) (fun _ vi _ => len - (intOf vi).toNat)
  case atStart => exact ⟨0, s, rfl, rfl, Nat.zero_le _, by omega, by rw [Nat.sub_zero]; exact HRES.out, hB⟩
  case round =>
    obtain ⟨i, c, rfl, rfl, hi, hc, hr, hbel⟩ := hrel
    have HR := Lib.hid hr
    clear hr hB
    by_cases hlt : i < len
    · have hrow := HROW.out.below hbel
      obtain ⟨g0, g1, g2⟩ := hrow.2 i hlt
      have hb := hrow.1
      have hx : (i : Int) < len := by omega
      clear hrow
      have hz1 := hbel.size
      by_cases l1 : (300 : Int) < (dv i).size
      · go_wp2
        go_ret
        exact ⟨rfl, hbel⟩
      · by_cases l2 : (300 : Int) < (nv i).size
        · go_wp2
          go_ret
          exact ⟨rfl, hbel⟩
        · rcases wrongN_cases c (av i) (dv i) (nv i) with k0 | k0 | k0
          · have hr2 := (runE_ok hlt k0).symm.trans HR.out
            have hsm := doB_small k0
            generalize hgd : doB c (av i).toNat (dv i) (nv i) = c2 at *
            have HG := Lib.hid hgd
            have HK := Lib.hid k0
            have HR2 := Lib.hid hr2
            clear k0 hr2 hgd
            go_wp2_with fail
            refine (wrong_eq c (dv i) (nv i) _ (av i) 0 HK.out (by omega) (by omega)).mono ?_
            rintro e w1 ⟨rfl, hb1⟩
            obtain ⟨h0, h1, h2⟩ := (((HROW.out.below hbel).below hb1).2 i hlt)
            have hB := hbel.trans (hb1.mono hz1)
            clear hb1 g0 g1 g2
            go_wp2_with fail
            refine (refdo_I c (dv i) (nv i) _ (av i) HK.out (by omega) (by omega)).mono ?_
            rw [HG.out]
            rintro e w3 ⟨rfl, hb3⟩
            have hB3 := hB.trans (hb3.mono hB.size)
            clear hb3 h0 h1 h2
            go_wp2
            go_roundw
            case rel => exact ⟨i + 1, c2, rfl, by go_num, by omega, hsm, HR2.out, hB3⟩
            case measure => simp [intOf]; omega
          · have hr2 := (runE_bad hlt k0 (by decide)).symm.trans HR.out
            have HK := Lib.hid k0
            simp only [Prod.mk.injEq] at hr2
            obtain ⟨rfl, rfl, rfl⟩ := hr2
            clear k0
            go_wp2_with fail
            refine (wrong_eq c (dv i) (nv i) _ (av i) 1 HK.out (by omega) (by omega)).mono ?_
            rintro e w1 ⟨rfl, hb1⟩
            have hB := hbel.trans (hb1.mono hz1)
            clear hb1 g0 g1 g2
            go_wp2
            go_ret
            exact ⟨rfl, hB⟩
          · have hr2 := (runE_bad hlt k0 (by decide)).symm.trans HR.out
            have HK := Lib.hid k0
            simp only [Prod.mk.injEq] at hr2
            obtain ⟨rfl, rfl, rfl⟩ := hr2
            clear k0
            go_wp2_with fail
            refine (wrong_eq c (dv i) (nv i) _ (av i) 2 HK.out (by omega) (by omega)).mono ?_
            rintro e w1 ⟨rfl, hb1⟩
            have hB := hbel.trans (hb1.mono hz1)
            clear hb1 g0 g1 g2
            go_wp2
            go_ret
            exact ⟨rfl, hB⟩
    · have e : i = len := by omega
      subst e
      have hr2 := HR.out
      rw [runE_end] at hr2
      simp only [Prod.mk.injEq] at hr2
      obtain ⟨rfl, rfl, rfl⟩ := hr2
      go_wp2
      go_ret
      exact ⟨rfl, hbel⟩
end

set_option maxHeartbeats 1000000 in
theorem alls_large (s : ByteArray) (A : Option Addr) (len cap : Nat) (w : World) (h : 300 < s.size ∨ 20 < len) :
    Calls Try.prog 8 #[.string s, .slice A len cap] w fun e w' => e = .returned (.bool true) ∧ Below w.heap.size w w' := by
  go_enter Try.func8, Try.ntmps8
  go_wp2_with fail
  refine (awake_any _).mono ?_
  rintro e w1 ⟨rfl, hb1⟩
  by_cases h1 : (300 : Int) < s.size
  · go_wp2
    go_ret
    exact ⟨rfl, hb1⟩
  · have h3 : (20 : Int) < len := by omega
    go_wp2
    go_ret
    exact ⟨rfl, hb1⟩

set_option maxHeartbeats 1000000 in
theorem alls_none (s : ByteArray) (A : Option Addr) (cap : Nat) (w : World) (hs : s.size ≤ 300) :
    Calls Try.prog 8 #[.string s, .slice A 0 cap] w fun e w' => e = .returned (.bool true) ∧ Below w.heap.size w w' := by
  have i1 : ¬ (300 : Int) < s.size := by omega
  go_enter Try.func8, Try.ntmps8
  go_wp2_with fail
  refine (awake_any _).mono ?_
  rintro e w1 ⟨rfl, hb1⟩
  go_wp2_with fail
  refine (all_none s A cap _).mono ?_
  rintro e w2 ⟨rfl, hb2⟩
  have hB := hb1.trans (hb2.mono hb1.size)
  clear hb1 hb2
  go_wp2
  go_loopw [8, 9] (fun vs vi wr => vs = .string s ∧ vi = .int .i64 0 ∧ Below w.heap.size w wr) (fun _ _ _ => 0)
  case atStart => exact ⟨rfl, rfl, hB⟩
  case round =>
    obtain ⟨rfl, rfl, hbel⟩ := hrel
    go_wp2
    go_ret
    exact ⟨rfl, hbel⟩
end Go.Proofs.Ytjickhgkhcojgaa

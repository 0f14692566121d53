/- What All of layer 1 (edit) returns for a text and a row of edits: conditions: each text at most 2^47 bytes, the first at most 2^20, at most a thousand edits. -/
import Derived.Test.YtjickhgkhcojgaaEdL
namespace Go.Proofs.Ytjickhgkhcojgaa
open Go.RowKit
set_option linter.unusedVariables false

/-- A row of edits in memory, as functions of the index. -/
def EdRow (w : World) (b off len : Nat) (av : Nat → Int) (dv nv : Nat → ByteArray) : Prop :=
  b < w.heap.size ∧ ∀ i, i < len → w.cell? ⟨b, off + i * 3, none⟩ = some (.int .i64 (av i)) ∧ w.cell? ⟨b, off + i * 3 + 1, none⟩ = some (.string (dv i)) ∧ w.cell? ⟨b, off + i * 3 + 2, none⟩ = some (.string (nv i))
theorem EdRow.below {w w' : World} {b off len : Nat} {av : Nat → Int} {dv nv : Nat → ByteArray} (h : EdRow w b off len av dv nv) (hb : Below w.heap.size w w') : EdRow w' b off len av dv nv := by
  obtain ⟨hl, h⟩ := h
  have hz := hb.size
  obtain ⟨hc, _⟩ := bcell hb
  refine ⟨by omega, fun i hi => ?_⟩
  obtain ⟨h0, h1, h2⟩ := h i hi
  exact ⟨(hc _ _ hl).trans h0, (hc _ _ hl).trans h1, (hc _ _ hl).trans h2⟩

/-- All edits one behind the other from the i-th on, m of them: the text, how many went or which did not, and what is wrong with that. -/
def runE (av : Nat → Int) (dv nv : Nat → ByteArray) : Nat → Nat → ByteArray → ByteArray × Nat × Int
  | 0, i, s => (s, i, 0)
  | m + 1, i, s => if wrongN s (av i) (dv i) (nv i) = 0 then runE av dv nv m (i + 1) (doB s (av i).toNat (dv i) (nv i)) else (⟨#[]⟩, i, wrongN s (av i) (dv i) (nv i))
theorem runE_ok {av : Nat → Int} {dv nv : Nat → ByteArray} {len i : Nat} {s : ByteArray} (hi : i < len) (h : wrongN s (av i) (dv i) (nv i) = 0) : runE av dv nv (len - i) i s = runE av dv nv (len - (i + 1)) (i + 1) (doB s (av i).toNat (dv i) (nv i)) := by
  obtain ⟨m, hm⟩ : ∃ m, len - i = m + 1 := ⟨len - i - 1, by omega⟩
  rw [hm, show len - (i + 1) = m from by omega]
  show (if _ then _ else _) = _
  rw [if_pos h]
theorem runE_bad {av : Nat → Int} {dv nv : Nat → ByteArray} {len i : Nat} {s : ByteArray} {k : Int} (hi : i < len) (h : wrongN s (av i) (dv i) (nv i) = k) (k0 : k ≠ 0) : runE av dv nv (len - i) i s = (⟨#[]⟩, i, k) := by
  obtain ⟨m, hm⟩ : ∃ m, len - i = m + 1 := ⟨len - i - 1, by omega⟩
  rw [hm]
  show (if _ then _ else _) = _
  rw [if_neg (by rw [h]; exact k0), h]
theorem runE_end (av : Nat → Int) (dv nv : Nat → ByteArray) (i : Nat) (s : ByteArray) : runE av dv nv (i - i) i s = (s, i, 0) := by
  rw [Nat.sub_self]; rfl

theorem do_okI (s d n : ByteArray) (w : World) (a : Int) (h : wrongN s a d n = 0) (hs : s.size ≤ 281474976710656) (hds : d.size ≤ 281474976710656) (hns : n.size ≤ 281474976710656) :
    Calls Try.prog 10 #[.string s, .agg #[.int .i64 a, .string d, .string n]] w fun e w' => e = .returned (.tuple #[.string (doB s a.toNat d n), .int .i64 0]) ∧ Below w.heap.size w w' := by
  obtain ⟨k, rfl⟩ := Int.eq_ofNat_of_zero_le (wrongN_0 h).1
  exact do_ok s d n w k h hs hds hns
theorem refdo_I (s d n : ByteArray) (w : World) (a : Int) (h : wrongN s a d n = 0) (hs : s.size ≤ 281474976710656) (hns : n.size ≤ 281474976710656) :
    Calls Try.prog 14 #[.string s, .agg #[.int .i64 a, .string d, .string n]] w fun e w' => e = .returned (.string (doB s a.toNat d n)) ∧ Below w.heap.size w w' := by
  have hf := (wrongN_0 h).2.2.1.1
  obtain ⟨k, rfl⟩ := Int.eq_ofNat_of_zero_le (wrongN_0 h).1
  simp only [Int.toNat_natCast] at hf
  exact refdo_any s d n k w (by omega) hs hns
theorem doB_small {s d n : ByteArray} {a : Int} (h : wrongN s a d n = 0) : (doB s a.toNat d n).size ≤ 1048576 := by
  obtain ⟨h0, h1, h2, h3⟩ := wrongN_0 h
  have hf := h2.1
  rw [doB_size hf]
  omega

section
variable (av : Nat → Int) (dv nv : Nat → ByteArray)
def AllPost (r : ByteArray × Nat × Int) (w : World) (e : Ending) (w' : World) : Prop := e = .returned (.tuple #[.string r.1, .int .i64 r.2.1, .int .i64 r.2.2]) ∧ Below w.heap.size w w'
def AllRel (r : ByteArray × Nat × Int) (len : Nat) (w : World) (vs vi : Value) (wr : World) : Prop :=
  ∃ (i : Nat) (s : ByteArray), vs = .string s ∧ vi = .int .i64 i ∧ i ≤ len ∧ s.size ≤ 1048576 ∧ runE av dv nv (len - i) i s = r ∧ Below w.heap.size w wr

set_option maxHeartbeats 1000000 in
theorem all_row (s : ByteArray) (b off len cap : Nat) (w : World) (hs : s.size ≤ 1048576) (hlen : len ≤ 1000) (hrow : EdRow w b off len av dv nv)
    (hd : ∀ i, i < len → (dv i).size ≤ 140737488351232) (hn : ∀ i, i < len → (nv i).size ≤ 140737488351232) :
    Calls Try.prog 21 #[.string s, .slice (some ⟨b, off, none⟩) len cap] w (AllPost (runE av dv nv len 0 s) w) := by
  have HROW := Lib.hid hrow
  have HD := Lib.hid hd
  have HN := Lib.hid hn
  clear hrow hd hn
  go_enter Try.func21, Try.ntmps21
  go_wp2
  go_loopw [0, 13] (fun vs vi wr => AllRel av dv nv (runE av dv nv len 0 s) len w vs vi wr) (fun _ vi _ => len - (intOf vi).toNat)
  case atStart => exact ⟨0, s, rfl, rfl, Nat.zero_le _, hs, by rw [Nat.sub_zero], Below.refl _ _⟩
  case round =>
    obtain ⟨i, c, rfl, rfl, hi, hc, hr, hbel⟩ := hrel
    have HR := Lib.hid hr
    clear hr
    by_cases hlt : i < len
    · have hrow := HROW.out.below hbel
      obtain ⟨g0, g1, g2⟩ := hrow.2 i hlt
      have hb := hrow.1
      have hx : (i : Int) < len := by omega
      clear hrow
      have hdi := HD.out i hlt
      have hni := HN.out i hlt
      have hz1 := hbel.size
      rcases wrongN_cases c (av i) (dv i) (nv i) with k0 | k0 | k0
      · have hr2 := (runE_ok hlt k0).symm.trans HR.out
        have hsm := doB_small k0
        generalize hgd : doB c (av i).toNat (dv i) (nv i) = c2 at *
        have HG := Lib.hid hgd
        have HK := Lib.hid k0
        have HR2 := Lib.hid hr2
        clear k0 hr2 hgd
        go_wp2_with fail
        refine (do_okI c (dv i) (nv i) _ (av i) HK.out (by omega) (by omega) (by omega)).mono ?_
        rw [HG.out]
        rintro e w1 ⟨rfl, hb1⟩
        have hB := hbel.trans ((below_new _ hb1).mono hz1)
        clear hb1 g0 g1 g2
        go_wp2
        go_roundw
        case rel => exact ⟨i + 1, c2, rfl, by go_num, by omega, hsm, HR2.out, hB⟩
        case measure => simp [intOf]; omega
      · have hr2 := (runE_bad hlt k0 (by decide)).symm.trans HR.out
        have HK := Lib.hid k0
        have HR2 := Lib.hid hr2
        clear k0 hr2
        go_wp2_with fail
        refine (do_bad c (dv i) (nv i) _ (av i) 1 HK.out (by decide) (by omega) (by omega) (by omega)).mono ?_
        rintro e w1 ⟨rfl, hb1⟩
        have hB := hbel.trans ((below_new _ hb1).mono hz1)
        clear hb1 g0 g1 g2
        go_wp2
        go_ret3
        refine ⟨?_, hB⟩
        rw [← HR2.out]
        rfl
      · have hr2 := (runE_bad hlt k0 (by decide)).symm.trans HR.out
        have HK := Lib.hid k0
        have HR2 := Lib.hid hr2
        clear k0 hr2
        go_wp2_with fail
        refine (do_bad c (dv i) (nv i) _ (av i) 2 HK.out (by decide) (by omega) (by omega) (by omega)).mono ?_
        rintro e w1 ⟨rfl, hb1⟩
        have hB := hbel.trans ((below_new _ hb1).mono hz1)
        clear hb1 g0 g1 g2
        go_wp2
        go_ret3
        refine ⟨?_, hB⟩
        rw [← HR2.out]
        rfl
    · have e : i = len := by omega
      subst e
      have hr2 := HR.out
      rw [runE_end] at hr2
      have HR2 := Lib.hid hr2
      clear hr2
      go_wp2
      go_ret3
      refine ⟨?_, hbel⟩
      rw [← HR2.out]
      rfl

set_option maxHeartbeats 1000000 in
theorem all_none (s : ByteArray) (A : Option Addr) (cap : Nat) (w : World) :
    Calls Try.prog 21 #[.string s, .slice A 0 cap] w (AllPost (s, 0, 0) w) := by
  go_enter Try.func21, Try.ntmps21
  go_wp2
  go_loopw [0, 13] (fun vs vi wr => vs = .string s ∧ vi = .int .i64 0 ∧ Below w.heap.size w wr) (fun _ _ _ => 0)
  case atStart => exact ⟨rfl, rfl, Below.refl _ _⟩
  case round =>
    obtain ⟨rfl, rfl, hbel⟩ := hrel
    go_wp2
    go_ret3
    exact ⟨rfl, hbel⟩
end
end Go.Proofs.Ytjickhgkhcojgaa

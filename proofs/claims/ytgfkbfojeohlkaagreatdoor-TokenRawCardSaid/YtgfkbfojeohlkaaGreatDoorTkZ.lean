/- Tokens and leaves of any kind, plainly; what stands, leaf, Text, Leaves of layer 9 (token) return of any token. Condition: texts of at most a million bytes. -/
import Derived.Test.YtgfkbfojeohlkaaGreatDoorTkK
namespace Go.Proofs.YtgfkbfojeohlkaaGreatDoor
open Go.RowKit
set_option linter.unusedVariables false
set_option linter.unusedSectionVars false

structure Tz where
  kind : Int
  frm : Int
  en : Int
  op : Bool
structure Lf where
  kind : Int
  text : ByteArray
  frm : Int
  en : Int
def Tk.z (t : Tk) : Tz := ⟨t.kind, t.frm, t.en, t.op⟩
def aggZ (t : Tz) : Value := .agg #[.int .i64 t.kind, .int .i64 t.frm, .int .i64 t.en, .bool t.op]
def inZ (s : ByteArray) (t : Tz) : Bool := decide (0 ≤ t.frm) && (decide (t.frm ≤ t.en) && decide (t.en ≤ (s.size : Int)))
def txZ (s : ByteArray) (t : Tz) : ByteArray := if inZ s t = true then s.extract t.frm.toNat t.en.toNat else ⟨#[]⟩
def lfK (k : Int) : Bool := decide (k = 2) || (decide (k = 4) || (decide (k = 5) || decide (k = 6)))
def lfF (s : ByteArray) (t : Tz) : List Lf := if lfK t.kind = true ∧ inZ s t = true then [⟨t.kind, txZ s t, t.frm, t.en⟩] else []
def lfs (s : ByteArray) (l : List Tz) : List Lf := l.flatMap (lfF s)
theorem lfs_snoc (s : ByteArray) (l : List Tz) (t : Tz) : lfs s (l ++ [t]) = lfs s l ++ lfF s t := by
  unfold lfs
  rw [List.flatMap_append]
  simp
theorem lfF_len (s : ByteArray) (t : Tz) : (lfF s t).length ≤ 1 := by
  unfold lfF
  split
  · exact Nat.le_refl _
  · exact Nat.zero_le _
theorem lfs_len (s : ByteArray) : ∀ l : List Tz, (lfs s l).length ≤ l.length
  | [] => Nat.zero_le _
  | t :: l => by
    have h1 := lfF_len s t
    have h2 := lfs_len s l
    have e : lfs s (t :: l) = lfF s t ++ lfs s l := by unfold lfs; rw [List.flatMap_cons]
    rw [e, List.length_append, List.length_cons]
    omega
theorem lfs_take (s : ByteArray) {l : List Tz} {j : Nat} {t : Tz} (h : l[j]? = some t) : lfs s (l.take (j + 1)) = lfs s (l.take j) ++ lfF s t := by
  rw [List.take_add_one, h]
  exact lfs_snoc s _ t
structure RdZ (W : World) (oa : Option Addr) (n : Nat) (l : List Tz) : Prop where
  len : n = l.length
  cells : ∀ (j : Nat) t, l[j]? = some t → ∃ b off, oa = some ⟨b, off, none⟩ ∧ b < W.heap.size ∧ W.cell? ⟨b, off + j * 4, none⟩ = some (.int .i64 t.kind) ∧ W.cell? ⟨b, off + j * 4 + 1, none⟩ = some (.int .i64 t.frm) ∧ W.cell? ⟨b, off + j * 4 + 2, none⟩ = some (.int .i64 t.en) ∧ W.cell? ⟨b, off + j * 4 + 3, none⟩ = some (.bool t.op)
theorem RdZ.below {W W' : World} {oa : Option Addr} {n : Nat} {l : List Tz} (h : RdZ W oa n l) (hb : Below W.heap.size W W') : RdZ W' oa n l :=
  ⟨h.len, fun j d hj => by
    obtain ⟨b, off, h1, h2, h3, h4, h5, h6⟩ := h.cells j d hj
    have e : ∀ o, W'.cell? ⟨b, o, none⟩ = W.cell? ⟨b, o, none⟩ := fun o => hb.cell (p := ⟨b, o, none⟩) h2
    exact ⟨b, off, h1, Nat.lt_of_lt_of_le h2 hb.size, (e _).trans h3, (e _).trans h4, (e _).trans h5, (e _).trans h6⟩⟩
theorem RdK.z {W : World} {oa : Option Addr} {n : Nat} {l : List Tk} (h : RdK W oa n l) : RdZ W oa n (l.map Tk.z) :=
  ⟨by rw [List.length_map]; exact h.len, fun j t hj => by
    rw [List.getElem?_map] at hj
    obtain ⟨u, hu1, hu2⟩ := Option.map_eq_some_iff.1 hj
    subst hu2
    exact h.cells j u hu1⟩
def cellLf (x : Lf) : List Value := [.int .i64 x.kind, .string x.text, .int .i64 x.frm, .int .i64 x.en]
def cellsLf (l : List Lf) : List Value := l.flatMap cellLf
theorem cellsLf_append (l k : List Lf) : cellsLf (l ++ k) = cellsLf l ++ cellsLf k := by unfold cellsLf; rw [List.flatMap_append]
theorem cellLf_one (x : Lf) : ∀ u ∈ cellLf x, u.oneCell' = true := by
  intro u hu
  simp [cellLf] at hu
  rcases hu with rfl | rfl | rfl | rfl <;> rfl
theorem cellsLf_get : ∀ (l : List Lf) (j k : Nat) (t : Lf), l[j]? = some t → k < 4 → (cellsLf l)[j * 4 + k]? = (cellLf t)[k]?
  | [], j, k, t, h, _ => by cases h
  | a :: l, 0, k, t, h, hk => by
    cases h
    show (cellLf a ++ cellsLf l)[0 * 4 + k]? = _
    rw [List.getElem?_append_left (by show 0 * 4 + k < 4; omega), Nat.zero_mul, Nat.zero_add]
  | a :: l, j + 1, k, t, h, hk => by
    show (cellLf a ++ cellsLf l)[(j + 1) * 4 + k]? = _
    rw [List.getElem?_append_right (by show 4 ≤ _; omega), show (j + 1) * 4 + k - (cellLf a).length = j * 4 + k from by show (j + 1) * 4 + k - 4 = _; omega]
    exact cellsLf_get l j k t h hk
structure RdF (W : World) (oa : Option Addr) (n : Nat) (l : List Lf) : Prop where
  len : n = l.length
  cells : ∀ (j : Nat) t, l[j]? = some t → ∃ b off, oa = some ⟨b, off, none⟩ ∧ b < W.heap.size ∧ W.cell? ⟨b, off + j * 4, none⟩ = some (.int .i64 t.kind) ∧ W.cell? ⟨b, off + j * 4 + 1, none⟩ = some (.string t.text) ∧ W.cell? ⟨b, off + j * 4 + 2, none⟩ = some (.int .i64 t.frm) ∧ W.cell? ⟨b, off + j * 4 + 3, none⟩ = some (.int .i64 t.en)
theorem RdF.below {W W' : World} {oa : Option Addr} {n : Nat} {l : List Lf} (h : RdF W oa n l) (hb : Below W.heap.size W W') : RdF W' oa n l :=
  ⟨h.len, fun j d hj => by
    obtain ⟨b, off, h1, h2, h3, h4, h5, h6⟩ := h.cells j d hj
    have e : ∀ o, W'.cell? ⟨b, o, none⟩ = W.cell? ⟨b, o, none⟩ := fun o => hb.cell (p := ⟨b, o, none⟩) h2
    exact ⟨b, off, h1, Nat.lt_of_lt_of_le h2 hb.size, (e _).trans h3, (e _).trans h4, (e _).trans h5, (e _).trans h6⟩⟩
theorem RdF.of_own {W : World} {base : Nat} {v : Value} {l : List Lf} {n : Nat} (hn : n = l.length) (h : W.ownsRow base 43 4 v n (cellsLf l)) : ∃ oa c, v = .slice oa n c ∧ RdF W oa n l := by
  subst hn
  rcases Src.of_own h with ⟨h1, h2, _⟩ | ⟨b, off, c, h1, h2, h3⟩
  · have := List.eq_nil_of_length_eq_zero h2
    subst this
    exact ⟨none, 0, h1, rfl, fun j t hj => by cases hj⟩
  · refine ⟨_, c, h1, rfl, fun j t hj => ?_⟩
    have g := fun k hk => cellsLf_get l j k t hj hk
    refine ⟨b, off, rfl, h2, h3 (j * 4) _ (g 0 (by omega)), ?_, ?_, ?_⟩
    · exact h3 (j * 4 + 1) _ (g 1 (by omega))
    · exact h3 (j * 4 + 2) _ (g 2 (by omega))
    · exact h3 (j * 4 + 3) _ (g 3 (by omega))
section
variable (w : World)
set_option maxHeartbeats 2000000 in
theorem standsZ_any (s : ByteArray) (t : Tz) : Calls Tryz.prog 48 #[.string s, aggZ t] w fun e w' => e = .returned (.bool (inZ s t)) ∧ Below w.heap.size w w' := by
  obtain ⟨tk, tf, te, top⟩ := t
  unfold aggZ inZ
  dsimp only
  have kb := Blk.new w #[.int .i64 tk, .int .i64 tf, .int .i64 te, .bool top] 33
  have a1 := kb.cell 1
  have a2 := kb.cell 2
  have hB := (Below.refl _ w).alloc (Nat.le_refl _) (.cells #[.int .i64 tk, .int .i64 tf, .int .i64 te, .bool top] 33)
  by_cases h1 : 0 ≤ tf
  · by_cases h2 : tf ≤ te
    · by_cases h3 : te ≤ (s.size : Int)
      · go_enter Tryz.func48, Tryz.ntmps48
        go_wp2
        go_ret
        exact ⟨by simp [h1, h2, h3], hB⟩
      · go_enter Tryz.func48, Tryz.ntmps48
        go_wp2
        go_ret
        exact ⟨by simp; omega, hB⟩
    · go_enter Tryz.func48, Tryz.ntmps48
      go_wp2
      go_ret
      exact ⟨by simp; omega, hB⟩
  · go_enter Tryz.func48, Tryz.ntmps48
    go_wp2
    go_ret
    exact ⟨by simp; omega, hB⟩
set_option maxHeartbeats 2000000 in
theorem textZ_any (s : ByteArray) (t : Tz) (hs : s.size ≤ 1000000) : Calls Tryz.prog 22 #[.string s, aggZ t] w fun e w' => e = .returned (.string (txZ s t)) ∧ Below w.heap.size w w' := by
  have hst := fun W => standsZ_any W s t
  cases hin : inZ s t with
  | true =>
    have hcl := fun W => tclone_any (s.extract t.frm.toNat t.en.toNat) W (by rw [ByteArray.size_extract]; omega)
    rw [hin] at hst
    have htx : txZ s t = s.extract t.frm.toNat t.en.toNat := by unfold txZ; rw [if_pos hin]
    rw [htx]
    unfold inZ at hin
    simp only [Bool.and_eq_true, decide_eq_true_eq] at hin
    obtain ⟨q0, q1, q2⟩ := hin
    clear htx
    obtain ⟨tk, tf, te, top⟩ := t
    unfold aggZ at *
    dsimp only at *
    obtain ⟨a, rfl⟩ := Int.eq_ofNat_of_zero_le q0
    obtain ⟨b, rfl⟩ := Int.eq_ofNat_of_zero_le (show 0 ≤ te by omega)
    rw [Int.toNat_natCast, Int.toNat_natCast] at *
    have HST := Lib.hid hst
    have HCL := Lib.hid hcl
    have kb := Blk.new w #[.int .i64 tk, .int .i64 (a : Int), .int .i64 (b : Int), .bool top] 33
    have hB0 : Below w.heap.size w (w.alloc (.cells #[.int .i64 tk, .int .i64 (a : Int), .int .i64 (b : Int), .bool top] 33)) := (Below.refl _ w).alloc (Nat.le_refl _) _
    have HB0 := Lib.hid hB0
    have HKB := Lib.hid kb
    clear hst hcl hB0
    go_enter Tryz.func22, Tryz.ntmps22
    go_wp2_with fail
    refine (HST.out _).mono ?_
    rintro e w1 ⟨rfl, hb1⟩
    have k1 := HKB.out.below hb1
    have a1 := k1.cell 1
    have a2 := k1.cell 2
    go_wp2_with fail
    refine (HCL.out _).mono ?_
    rintro e w2 ⟨rfl, hb2⟩
    go_wp2
    go_ret
    have hz := HB0.out.size
    exact ⟨rfl, (HB0.out.trans (hb1.mono hz)).trans (hb2.mono (Nat.le_trans hz hb1.size))⟩
  | false =>
    rw [hin] at hst
    have htx : txZ s t = ⟨#[]⟩ := by unfold txZ; rw [if_neg (by rw [hin]; simp)]
    rw [htx]
    clear htx hin
    obtain ⟨tk, tf, te, top⟩ := t
    unfold aggZ at *
    have HST := Lib.hid hst
    have hB0 : Below w.heap.size w (w.alloc (.cells #[.int .i64 tk, .int .i64 tf, .int .i64 te, .bool top] 33)) := (Below.refl _ w).alloc (Nat.le_refl _) _
    have HB0 := Lib.hid hB0
    clear hst hB0
    go_enter Tryz.func22, Tryz.ntmps22
    go_wp2_with fail
    refine (HST.out _).mono ?_
    rintro e w1 ⟨rfl, hb1⟩
    go_wp2
    go_ret
    exact ⟨rfl, HB0.out.trans (hb1.mono HB0.out.size)⟩
set_option maxHeartbeats 2000000 in
theorem leaf_any (k : Int) : Calls Tryz.prog 59 #[.int .i64 k] w fun e w' => e = .returned (.bool (lfK k)) ∧ w' = w := by
  unfold lfK
  by_cases h4 : k = 4
  · subst h4
    go_enter Tryz.func59, Tryz.ntmps59
    go_wp2
    go_ret
    exact ⟨rfl, rfl⟩
  by_cases h5 : k = 5
  · subst h5
    go_enter Tryz.func59, Tryz.ntmps59
    go_wp2
    go_ret
    exact ⟨rfl, rfl⟩
  by_cases h6 : k = 6
  · subst h6
    go_enter Tryz.func59, Tryz.ntmps59
    go_wp2
    go_ret
    exact ⟨rfl, rfl⟩
  by_cases h2 : k = 2
  · subst h2
    go_enter Tryz.func59, Tryz.ntmps59
    go_wp2
    go_ret
    exact ⟨rfl, rfl⟩
  · go_enter Tryz.func59, Tryz.ntmps59
    go_wp2
    go_ret
    exact ⟨by simp [h2, h4, h5, h6], rfl⟩
end
end Go.Proofs.YtgfkbfojeohlkaaGreatDoor

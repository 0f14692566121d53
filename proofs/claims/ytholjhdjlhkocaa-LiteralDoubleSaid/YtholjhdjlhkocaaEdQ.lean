/- The plain facts on where two byte strings begin and end alike, on which the walks of Diff rest. No condition: nothing here speaks of the program. -/
import Derived.Test.YtholjhdjlhkocaaEdP
namespace Go.Proofs.Ytholjhdjlhkocaa
open Go.RowKit
set_option linter.unusedVariables false

/-- The byte at a place; 0 outside. -/
def bt (s : ByteArray) (i : Nat) : UInt8 := if h : i < s.size then s[i] else 0
theorem bt_eq {s : ByteArray} {i : Nat} (h : i < s.size) : bt s i = s[i] := by unfold bt; rw [dif_pos h]

/-- What alike's loop keeps. -/
def AlInv (a b : ByteArray) (h t : Nat) : Prop :=
  h + t ≤ a.size ∧ h + t ≤ b.size ∧ (∀ i, i < h → bt a i = bt b i) ∧ (∀ j, j < t → bt a (a.size - 1 - j) = bt b (b.size - 1 - j)) ∧ (0 < t → bt a h ≠ bt b h)
/-- h bytes are alike at the beginnings, the most; of what is left t at the ends, the most. -/
def IsDiff (a b : ByteArray) (h t : Nat) : Prop :=
  h + t ≤ a.size ∧ h + t ≤ b.size ∧ (∀ i, i < h → bt a i = bt b i) ∧ (∀ j, j < t → bt a (a.size - 1 - j) = bt b (b.size - 1 - j)) ∧
    (h < a.size → h < b.size → bt a h ≠ bt b h) ∧ (h + t < a.size → h + t < b.size → bt a (a.size - 1 - t) ≠ bt b (b.size - 1 - t))

theorem IsDiff.one {a b : ByteArray} {h t h' t' : Nat} (x : IsDiff a b h t) (y : IsDiff a b h' t') : h = h' ∧ t = t' := by
  obtain ⟨x1, x2, x3, x4, x5, x6⟩ := x
  obtain ⟨y1, y2, y3, y4, y5, y6⟩ := y
  have e : h = h' := by
    rcases Nat.lt_trichotomy h h' with g | g | g
    · exact absurd (y3 h g) (x5 (by omega) (by omega))
    · exact g
    · exact absurd (x3 h' g) (y5 (by omega) (by omega))
  subst e
  refine ⟨rfl, ?_⟩
  rcases Nat.lt_trichotomy t t' with g | g | g
  · exact absurd (y4 t g) (x6 (by omega) (by omega))
  · exact g
  · exact absurd (x4 t' g) (y6 (by omega) (by omega))

theorem AlInv.zero (a b : ByteArray) : AlInv a b 0 0 := ⟨by omega, by omega, fun i h => by omega, fun i h => by omega, fun h => by omega⟩
theorem byte_beq {x y : UInt8} {c : Bool} (e : ((x.toNat : Int) == (y.toNat : Int)) = c) : (x = y) ↔ c = true := by
  subst e
  rw [beq_iff_eq]
  constructor
  · intro h; rw [h]
  · intro h; exact UInt8.toNat_inj.1 (by omega)
theorem AlInv.stepA {a b : ByteArray} {h t : Nat} (v : AlInv a b h t) (ha : h + t < a.size) (hb : h + t < b.size) (e : bt a h = bt b h) : AlInv a b (h + 1) t := by
  obtain ⟨v1, v2, v3, v4, v5⟩ := v
  have ht : t = 0 := by
    rcases Nat.eq_zero_or_pos t with g | g
    · exact g
    · exact absurd e (v5 g)
  refine ⟨by omega, by omega, fun i hi => ?_, v4, fun g => by omega⟩
  rcases Nat.lt_or_ge i h with g | g
  · exact v3 i g
  · have : i = h := by omega
    rw [this]; exact e
theorem AlInv.stepB {a b : ByteArray} {h t : Nat} (v : AlInv a b h t) (ha : h + t < a.size) (hb : h + t < b.size) (n : bt a h ≠ bt b h) (e : bt a (a.size - 1 - t) = bt b (b.size - 1 - t)) : AlInv a b h (t + 1) := by
  obtain ⟨v1, v2, v3, v4, v5⟩ := v
  refine ⟨by omega, by omega, v3, fun j hj => ?_, fun _ => n⟩
  rcases Nat.lt_or_ge j t with g | g
  · exact v4 j g
  · have : j = t := by omega
    rw [this]; exact e
theorem AlInv.endC {a b : ByteArray} {h t : Nat} (v : AlInv a b h t) (n : bt a h ≠ bt b h) (e : bt a (a.size - 1 - t) ≠ bt b (b.size - 1 - t)) : IsDiff a b h t :=
  ⟨v.1, v.2.1, v.2.2.1, v.2.2.2.1, fun _ _ => n, fun _ _ => e⟩
theorem AlInv.endD {a b : ByteArray} {h t : Nat} (v : AlInv a b h t) (hl : ¬ ((h : Int) + t < min (a.size : Int) b.size)) : IsDiff a b h t := by
  obtain ⟨v1, v2, v3, v4, v5⟩ := v
  refine ⟨v1, v2, v3, v4, fun ha hb => ?_, fun ha hb => by omega⟩
  rcases Nat.eq_zero_or_pos t with g | g
  · omega
  · exact v5 g

/-- The first loop of the document's own answer. -/
def HdInv (a b : ByteArray) (h : Nat) : Prop := h ≤ a.size ∧ h ≤ b.size ∧ ∀ i, i < h → bt a i = bt b i
def TlInv (a b : ByteArray) (h t : Nat) : Prop := h + t ≤ a.size ∧ h + t ≤ b.size ∧ ∀ j, j < t → bt a (a.size - 1 - j) = bt b (b.size - 1 - j)
theorem HdInv.zero (a b : ByteArray) : HdInv a b 0 := ⟨by omega, by omega, fun i h => by omega⟩
theorem HdInv.step {a b : ByteArray} {h : Nat} (v : HdInv a b h) (ha : h < a.size) (hb : h < b.size) (e : bt a h = bt b h) : HdInv a b (h + 1) := by
  obtain ⟨v1, v2, v3⟩ := v
  refine ⟨by omega, by omega, fun i hi => ?_⟩
  rcases Nat.lt_or_ge i h with g | g
  · exact v3 i g
  · have : i = h := by omega
    rw [this]; exact e
theorem TlInv.zero {a b : ByteArray} {h : Nat} (v : HdInv a b h) : TlInv a b h 0 := ⟨v.1, v.2.1, fun i h => by omega⟩
theorem TlInv.step {a b : ByteArray} {h t : Nat} (v : TlInv a b h t) (ha : h + t < a.size) (hb : h + t < b.size) (e : bt a (a.size - 1 - t) = bt b (b.size - 1 - t)) : TlInv a b h (t + 1) := by
  obtain ⟨v1, v2, v3⟩ := v
  refine ⟨by omega, by omega, fun j hj => ?_⟩
  rcases Nat.lt_or_ge j t with g | g
  · exact v3 j g
  · have : j = t := by omega
    rw [this]; exact e
theorem isDiff_of {a b : ByteArray} {h t : Nat} (v : HdInv a b h) (u : TlInv a b h t) (n : h < a.size → h < b.size → bt a h ≠ bt b h) (m : h + t < a.size → h + t < b.size → bt a (a.size - 1 - t) ≠ bt b (b.size - 1 - t)) : IsDiff a b h t :=
  ⟨u.1, u.2.1, v.2.2, u.2.2, n, m⟩

/-- The edit from a to b goes with a, and brings b. -/
theorem bt_getElem (s : ByteArray) (i : Nat) (h : i < s.data.size) : s.data[i] = bt s i := by
  rw [bt_eq (by simpa using h)]; rfl
theorem IsDiff.brings {a b : ByteArray} {h t : Nat} (x : IsDiff a b h t) :
    fits a h (a.extract h (a.size - t)) ∧ doB a h (a.extract h (a.size - t)) (b.extract h (b.size - t)) = b := by
  obtain ⟨x1, x2, x3, x4, x5, x6⟩ := x
  have hs : (a.extract h (a.size - t)).size = a.size - t - h := by simp
  have hk : h + (a.size - t - h) = a.size - t := by omega
  refine ⟨⟨by rw [hs]; omega, by rw [hs, hk]⟩, ?_⟩
  have e1 : a.extract 0 h = b.extract 0 h := by
    apply ByteArray.ext
    simp only [ByteArray.data_extract]
    apply Array.ext
    · simp; omega
    · intro i hi1 hi2
      have : i < h := by simp at hi1; omega
      simp only [Array.getElem_extract, bt_getElem]
      simpa using x3 i this
  have e2 : a.extract (a.size - t) a.size = b.extract (b.size - t) b.size := by
    apply ByteArray.ext
    simp only [ByteArray.data_extract]
    apply Array.ext
    · simp; omega
    · intro i hi1 hi2
      have hi : i < t := by simp at hi1; omega
      simp only [Array.getElem_extract, bt_getElem]
      have := x4 (t - 1 - i) (by omega)
      rw [show a.size - 1 - (t - 1 - i) = a.size - t + i from by omega, show b.size - 1 - (t - 1 - i) = b.size - t + i from by omega] at this
      exact this
  unfold doB
  rw [hs, hk, e1, e2, extract_split b 0 h (b.size - t) (by omega) (by omega), extract_split b 0 (b.size - t) b.size (by omega) (by omega)]
  simp

/-- The inverse of an edit that goes brings the text again. -/
theorem inverse_brings {s d n : ByteArray} {k : Nat} (hf : fits s k d) : fits (doB s k d n) k n ∧ doB (doB s k d n) k n d = s := by
  obtain ⟨h1, h2⟩ := hf
  have hz : (doB s k d n).size = s.size - d.size + n.size := doB_size h1
  have z0 : (s.extract 0 k).size = k := by simp; omega
  have z1 : (s.extract 0 k ++ n).size = k + n.size := by simp; omega
  have z2 : (s.extract (k + d.size) s.size).size = s.size - (k + d.size) := by simp
  have p1 : (doB s k d n).extract 0 k = s.extract 0 k := by
    unfold doB
    rw [ByteArray.extract_append, ByteArray.extract_append, z0, z1, Nat.sub_self, Nat.sub_eq_zero_of_le (Nat.le_add_right k n.size)]
    simp [ByteArray.extract_extract]
  have p2 : (doB s k d n).extract k (k + n.size) = n := by
    unfold doB
    rw [ByteArray.extract_append, ByteArray.extract_append, z0, z1, Nat.sub_self, Nat.add_sub_cancel_left]
    have q1 : (s.extract 0 k).extract k (k + n.size) = ByteArray.empty := by
      apply ByteArray.ext
      apply Array.eq_empty_of_size_eq_zero
      simp; omega
    rw [q1]
    simp
  have p3 : (doB s k d n).extract (k + n.size) (doB s k d n).size = s.extract (k + d.size) s.size := by
    rw [hz]
    unfold doB
    rw [ByteArray.extract_append, z1, Nat.sub_self]
    have q1 : (s.extract 0 k ++ n).extract (k + n.size) (s.size - d.size + n.size) = ByteArray.empty := by
      apply ByteArray.ext
      apply Array.eq_empty_of_size_eq_zero
      simp; omega
    rw [q1, ByteArray.extract_extract]
    simp only [ByteArray.empty_append]
    congr 1
    omega
  refine ⟨⟨by omega, p2⟩, ?_⟩
  rw [show doB (doB s k d n) k n d = (doB s k d n).extract 0 k ++ d ++ (doB s k d n).extract (k + n.size) (doB s k d n).size from rfl, p1, p3]
  conv => lhs; arg 1; arg 2; rw [← h2]
  rw [extract_split s 0 k (k + d.size) (by omega) (by omega), extract_split s 0 (k + d.size) s.size (by omega) (by omega)]
  simp
end Go.Proofs.Ytholjhdjlhkocaa

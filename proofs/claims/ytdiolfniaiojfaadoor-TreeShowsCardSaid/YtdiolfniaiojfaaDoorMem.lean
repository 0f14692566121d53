/- The plain facts on byte strings that the walks of layer 1 (edit) rest on: when an edit fits, what is wrong with it, the text behind it. No condition: nothing here speaks of the program.
The plain facts on where two byte strings begin and end alike, on which the walks of Diff rest. No condition: nothing here speaks of the program.
Facts on worlds: a frame (all blocks but those named lie as they lay), a block of cells. No condition: nothing here speaks of the program. -/
import Derived.WalkKit
import Derived.IntWalk
import Derived.Test.YtdiolfniaiojfaaDoorRows
import Derived.Below
import Derived.RangeFuncRecord
import Derived.Deep.QuietTactic
import Derived.BigQuiet
import Derived.ArgAppend
import Derived.Deep.RegionHeld3
import Derived.Lib.Hide
import Derived.WalkSmall
import Derived.Laws.AppendOwn
namespace Go.Proofs.YtdiolfniaiojfaaDoor
open Go.RowKit
set_option linter.unusedVariables false

theorem bs_eqb (s t : ByteArray) : (s.toList == t.toList) = decide (s = t) := by
  rw [Bool.eq_iff_iff, beq_iff_eq, Go.ByteArray.toList_eq, Go.ByteArray.toList_eq, decide_eq_true_iff]
  constructor
  · intro h
    apply ByteArray.ext
    exact Array.toList_inj.1 h
  · intro h
    rw [h]

/-- The bytes d stand in s at the place k. -/
def fits (s : ByteArray) (k : Nat) (d : ByteArray) : Prop := k + d.size ≤ s.size ∧ s.extract k (k + d.size) = d
instance (s : ByteArray) (k : Nat) (d : ByteArray) : Decidable (fits s k d) := by unfold fits; infer_instance
def hpB (s t : ByteArray) : Bool := decide (t.size ≤ s.size ∧ s.extract 0 t.size = t)
theorem fits_hp (s d : ByteArray) (k : Nat) (h : k ≤ s.size) : hpB (s.extract k s.size) d = decide (fits s k d) := by
  unfold hpB fits
  congr 1
  have e1 : (s.extract k s.size).size = s.size - k := by simp
  have e2 : d.size ≤ s.size - k → (s.extract k s.size).extract 0 d.size = s.extract k (k + d.size) := by
    intro hd
    rw [ByteArray.extract_extract]
    congr 1
    omega
  rw [e1]
  apply propext
  constructor
  · rintro ⟨a, b⟩
    rw [e2 a] at b
    exact ⟨by omega, b⟩
  · rintro ⟨a, b⟩
    have a' : d.size ≤ s.size - k := by omega
    exact ⟨a', by rw [e2 a']; exact b⟩

/-- What is wrong with an edit: 1: its bytes don't stand there; 2: the text would be too long; 0: nothing. -/
def wrongN (s : ByteArray) (a : Int) (d n : ByteArray) : Int :=
  if a < 0 ∨ (s.size : Int) < a ∨ ¬ fits s a.toNat d then 1 else if (1048576 : Int) < (s.size : Int) - d.size + n.size then 2 else 0
/-- The text behind an edit that goes. -/
def doB (s : ByteArray) (k : Nat) (d n : ByteArray) : ByteArray := s.extract 0 k ++ n ++ s.extract (k + d.size) s.size

theorem wrongN_cases (s : ByteArray) (a : Int) (d n : ByteArray) : wrongN s a d n = 0 ∨ wrongN s a d n = 1 ∨ wrongN s a d n = 2 := by
  unfold wrongN
  split
  · exact .inr (.inl rfl)
  · split
    · exact .inr (.inr rfl)
    · exact .inl rfl
theorem wrongN_0 {s d n : ByteArray} {a : Int} (h : wrongN s a d n = 0) : 0 ≤ a ∧ a ≤ s.size ∧ fits s a.toNat d ∧ (s.size : Int) - d.size + n.size ≤ 1048576 := by
  unfold wrongN at h
  split at h
  · omega
  · rename_i h1
    split at h
    · omega
    · simp only [not_or, Classical.not_not] at h1
      exact ⟨by omega, by omega, h1.2.2, by omega⟩
theorem wrongN_mk0 {s d n : ByteArray} {a : Int} (h0 : 0 ≤ a) (h1 : a ≤ s.size) (h2 : fits s a.toNat d) (h3 : (s.size : Int) - d.size + n.size ≤ 1048576) : wrongN s a d n = 0 := by
  unfold wrongN
  rw [if_neg (by simp only [not_or, Classical.not_not]; exact ⟨by omega, by omega, h2⟩), if_neg (by omega)]
theorem wrongN_2 {s d n : ByteArray} {a : Int} (h0 : 0 ≤ a) (h1 : a ≤ s.size) (h2 : fits s a.toNat d) (h3 : (1048576 : Int) < (s.size : Int) - d.size + n.size) : wrongN s a d n = 2 := by
  unfold wrongN
  rw [if_neg (by simp only [not_or, Classical.not_not]; exact ⟨by omega, by omega, h2⟩), if_pos h3]
theorem fits_le {s d : ByteArray} {k : Nat} (h : fits s k d) : k + d.size ≤ s.size := h.1
theorem doB_size {s d n : ByteArray} {k : Nat} (h : k + d.size ≤ s.size) : (doB s k d n).size = s.size - d.size + n.size := by
  unfold doB
  simp
  omega

/-- The inverse brings the text again. -/
theorem extract_split (s : ByteArray) (i j k : Nat) (h1 : i ≤ j) (h2 : j ≤ k) : s.extract i j ++ s.extract j k = s.extract i k := by
  apply ByteArray.ext
  simp only [ByteArray.data_append, ByteArray.data_extract]
  rw [Array.extract_append_extract]
  congr 1
  · omega
  · omega

end Go.Proofs.YtdiolfniaiojfaaDoor
namespace Go.Proofs.YtdiolfniaiojfaaDoor
open Go.RowKit
set_option linter.unusedVariables false

/-- The byte at a place; 0 outside. -/
def bt (s : ByteArray) (i : Nat) : UInt8 := if h : i < s.size then s[i] else 0
theorem bt_eq {s : ByteArray} {i : Nat} (h : i < s.size) : bt s i = s[i] := by unfold bt; rw [dif_pos h]

/-- What alike's loop keeps. -/
def AlInv (a b : ByteArray) (h t : Nat) : Prop :=
  h + t ≤ a.size ∧ h + t ≤ b.size ∧ (∀ i, i < h → bt a i = bt b i) ∧ (∀ j, j < t → bt a (a.size - 1 - j) = bt b (b.size - 1 - j)) ∧ (0 < t → bt a h ≠ bt b h)
/-- h bytes are alike at the beginnings, the most; of what is left t at the ends, the most. -/
def IsDiff (a b : ByteArray) (h t : Nat) : Prop :=
  h + t ≤ a.size ∧ h + t ≤ b.size ∧ (∀ i, i < h → bt a i = bt b i) ∧ (∀ j, j < t → bt a (a.size - 1 - j) = bt b (b.size - 1 - j)) ∧
    (h < a.size → h < b.size → bt a h ≠ bt b h) ∧ (h + t < a.size → h + t < b.size → bt a (a.size - 1 - t) ≠ bt b (b.size - 1 - t))

theorem IsDiff.one {a b : ByteArray} {h t h' t' : Nat} (x : IsDiff a b h t) (y : IsDiff a b h' t') : h = h' ∧ t = t' := by
  obtain ⟨x1, x2, x3, x4, x5, x6⟩ := x
  obtain ⟨y1, y2, y3, y4, y5, y6⟩ := y
  have e : h = h' := by
    rcases Nat.lt_trichotomy h h' with g | g | g
    · exact absurd (y3 h g) (x5 (by omega) (by omega))
    · exact g
    · exact absurd (x3 h' g) (y5 (by omega) (by omega))
  subst e
  refine ⟨rfl, ?_⟩
  rcases Nat.lt_trichotomy t t' with g | g | g
  · exact absurd (y4 t g) (x6 (by omega) (by omega))
  · exact g
  · exact absurd (x4 t' g) (y6 (by omega) (by omega))

theorem AlInv.zero (a b : ByteArray) : AlInv a b 0 0 := ⟨by omega, by omega, fun i h => by omega, fun i h => by omega, fun h => by omega⟩
theorem byte_beq {x y : UInt8} {c : Bool} (e : ((x.toNat : Int) == (y.toNat : Int)) = c) : (x = y) ↔ c = true := by
  subst e
  rw [beq_iff_eq]
  constructor
  · intro h; rw [h]
  · intro h; exact UInt8.toNat_inj.1 (by omega)
theorem AlInv.stepA {a b : ByteArray} {h t : Nat} (v : AlInv a b h t) (ha : h + t < a.size) (hb : h + t < b.size) (e : bt a h = bt b h) : AlInv a b (h + 1) t := by
  obtain ⟨v1, v2, v3, v4, v5⟩ := v
  have ht : t = 0 := by
    rcases Nat.eq_zero_or_pos t with g | g
    · exact g
    · exact absurd e (v5 g)
  refine ⟨by omega, by omega, fun i hi => ?_, v4, fun g => by omega⟩
  rcases Nat.lt_or_ge i h with g | g
  · exact v3 i g
  · have : i = h := by omega
    rw [this]; exact e
theorem AlInv.stepB {a b : ByteArray} {h t : Nat} (v : AlInv a b h t) (ha : h + t < a.size) (hb : h + t < b.size) (n : bt a h ≠ bt b h) (e : bt a (a.size - 1 - t) = bt b (b.size - 1 - t)) : AlInv a b h (t + 1) := by
  obtain ⟨v1, v2, v3, v4, v5⟩ := v
  refine ⟨by omega, by omega, v3, fun j hj => ?_, fun _ => n⟩
  rcases Nat.lt_or_ge j t with g | g
  · exact v4 j g
  · have : j = t := by omega
    rw [this]; exact e
theorem AlInv.endC {a b : ByteArray} {h t : Nat} (v : AlInv a b h t) (n : bt a h ≠ bt b h) (e : bt a (a.size - 1 - t) ≠ bt b (b.size - 1 - t)) : IsDiff a b h t :=
  ⟨v.1, v.2.1, v.2.2.1, v.2.2.2.1, fun _ _ => n, fun _ _ => e⟩
theorem AlInv.endD {a b : ByteArray} {h t : Nat} (v : AlInv a b h t) (hl : ¬ ((h : Int) + t < min (a.size : Int) b.size)) : IsDiff a b h t := by
  obtain ⟨v1, v2, v3, v4, v5⟩ := v
  refine ⟨v1, v2, v3, v4, fun ha hb => ?_, fun ha hb => by omega⟩
  rcases Nat.eq_zero_or_pos t with g | g
  · omega
  · exact v5 g

/-- The first loop of the document's own answer. -/
def HdInv (a b : ByteArray) (h : Nat) : Prop := h ≤ a.size ∧ h ≤ b.size ∧ ∀ i, i < h → bt a i = bt b i
def TlInv (a b : ByteArray) (h t : Nat) : Prop := h + t ≤ a.size ∧ h + t ≤ b.size ∧ ∀ j, j < t → bt a (a.size - 1 - j) = bt b (b.size - 1 - j)
theorem HdInv.zero (a b : ByteArray) : HdInv a b 0 := ⟨by omega, by omega, fun i h => by omega⟩
theorem HdInv.step {a b : ByteArray} {h : Nat} (v : HdInv a b h) (ha : h < a.size) (hb : h < b.size) (e : bt a h = bt b h) : HdInv a b (h + 1) := by
  obtain ⟨v1, v2, v3⟩ := v
  refine ⟨by omega, by omega, fun i hi => ?_⟩
  rcases Nat.lt_or_ge i h with g | g
  · exact v3 i g
  · have : i = h := by omega
    rw [this]; exact e
theorem TlInv.zero {a b : ByteArray} {h : Nat} (v : HdInv a b h) : TlInv a b h 0 := ⟨v.1, v.2.1, fun i h => by omega⟩
theorem TlInv.step {a b : ByteArray} {h t : Nat} (v : TlInv a b h t) (ha : h + t < a.size) (hb : h + t < b.size) (e : bt a (a.size - 1 - t) = bt b (b.size - 1 - t)) : TlInv a b h (t + 1) := by
  obtain ⟨v1, v2, v3⟩ := v
  refine ⟨by omega, by omega, fun j hj => ?_⟩
  rcases Nat.lt_or_ge j t with g | g
  · exact v3 j g
  · have : j = t := by omega
    rw [this]; exact e
theorem isDiff_of {a b : ByteArray} {h t : Nat} (v : HdInv a b h) (u : TlInv a b h t) (n : h < a.size → h < b.size → bt a h ≠ bt b h) (m : h + t < a.size → h + t < b.size → bt a (a.size - 1 - t) ≠ bt b (b.size - 1 - t)) : IsDiff a b h t :=
  ⟨u.1, u.2.1, v.2.2, u.2.2, n, m⟩

/-- The edit from a to b goes with a, and brings b. -/
theorem bt_getElem (s : ByteArray) (i : Nat) (h : i < s.data.size) : s.data[i] = bt s i := by
  rw [bt_eq (by simpa using h)]; rfl
theorem IsDiff.brings {a b : ByteArray} {h t : Nat} (x : IsDiff a b h t) :
    fits a h (a.extract h (a.size - t)) ∧ doB a h (a.extract h (a.size - t)) (b.extract h (b.size - t)) = b := by
  obtain ⟨x1, x2, x3, x4, x5, x6⟩ := x
  have hs : (a.extract h (a.size - t)).size = a.size - t - h := by simp
  have hk : h + (a.size - t - h) = a.size - t := by omega
  refine ⟨⟨by rw [hs]; omega, by rw [hs, hk]⟩, ?_⟩
  have e1 : a.extract 0 h = b.extract 0 h := by
    apply ByteArray.ext
    simp only [ByteArray.data_extract]
    apply Array.ext
    · simp; omega
    · intro i hi1 hi2
      have : i < h := by simp at hi1; omega
      simp only [Array.getElem_extract, bt_getElem]
      simpa using x3 i this
  have e2 : a.extract (a.size - t) a.size = b.extract (b.size - t) b.size := by
    apply ByteArray.ext
    simp only [ByteArray.data_extract]
    apply Array.ext
    · simp; omega
    · intro i hi1 hi2
      have hi : i < t := by simp at hi1; omega
      simp only [Array.getElem_extract, bt_getElem]
      have := x4 (t - 1 - i) (by omega)
      rw [show a.size - 1 - (t - 1 - i) = a.size - t + i from by omega, show b.size - 1 - (t - 1 - i) = b.size - t + i from by omega] at this
      exact this
  unfold doB
  rw [hs, hk, e1, e2, extract_split b 0 h (b.size - t) (by omega) (by omega), extract_split b 0 (b.size - t) b.size (by omega) (by omega)]
  simp

/-- The inverse of an edit that goes brings the text again. -/
theorem inverse_brings {s d n : ByteArray} {k : Nat} (hf : fits s k d) : fits (doB s k d n) k n ∧ doB (doB s k d n) k n d = s := by
  obtain ⟨h1, h2⟩ := hf
  have hz : (doB s k d n).size = s.size - d.size + n.size := doB_size h1
  have z0 : (s.extract 0 k).size = k := by simp; omega
  have z1 : (s.extract 0 k ++ n).size = k + n.size := by simp; omega
  have z2 : (s.extract (k + d.size) s.size).size = s.size - (k + d.size) := by simp
  have p1 : (doB s k d n).extract 0 k = s.extract 0 k := by
    unfold doB
    rw [ByteArray.extract_append, ByteArray.extract_append, z0, z1, Nat.sub_self, Nat.sub_eq_zero_of_le (Nat.le_add_right k n.size)]
    simp [ByteArray.extract_extract]
  have p2 : (doB s k d n).extract k (k + n.size) = n := by
    unfold doB
    rw [ByteArray.extract_append, ByteArray.extract_append, z0, z1, Nat.sub_self, Nat.add_sub_cancel_left]
    have q1 : (s.extract 0 k).extract k (k + n.size) = ByteArray.empty := by
      apply ByteArray.ext
      apply Array.eq_empty_of_size_eq_zero
      simp; omega
    rw [q1]
    simp
  have p3 : (doB s k d n).extract (k + n.size) (doB s k d n).size = s.extract (k + d.size) s.size := by
    rw [hz]
    unfold doB
    rw [ByteArray.extract_append, z1, Nat.sub_self]
    have q1 : (s.extract 0 k ++ n).extract (k + n.size) (s.size - d.size + n.size) = ByteArray.empty := by
      apply ByteArray.ext
      apply Array.eq_empty_of_size_eq_zero
      simp; omega
    rw [q1, ByteArray.extract_extract]
    simp only [ByteArray.empty_append]
    congr 1
    omega
  refine ⟨⟨by omega, p2⟩, ?_⟩
  rw [show doB (doB s k d n) k n d = (doB s k d n).extract 0 k ++ d ++ (doB s k d n).extract (k + n.size) (doB s k d n).size from rfl, p1, p3]
  conv => lhs; arg 1; arg 2; rw [← h2]
  rw [extract_split s 0 k (k + d.size) (by omega) (by omega), extract_split s 0 (k + d.size) s.size (by omega) (by omega)]
  simp
end Go.Proofs.YtdiolfniaiojfaaDoor
namespace Go.Proofs.YtdiolfniaiojfaaDoor
open Go.RowKit
set_option linter.unusedVariables false

/-- All blocks that lay there, but those of p, lie as they lay. -/
structure Frm (p : Nat → Prop) (w w' : World) : Prop where
  os : w'.os = w.os
  tape : w'.tape = w.tape
  output : w'.output = w.output
  size : w.heap.size ≤ w'.heap.size
  block : ∀ k, k < w.heap.size → ¬ p k → w'.heap[k]? = w.heap[k]?

theorem Frm.refl (p : Nat → Prop) (w : World) : Frm p w w := ⟨rfl, rfl, rfl, Nat.le_refl _, fun _ _ _ => rfl⟩
theorem Frm.trans {p q : Nat → Prop} {a b c : World} (h : Frm p a b) (k : Frm q b c) (hq : ∀ i, i < a.heap.size → q i → p i) : Frm p a c :=
  ⟨k.os.trans h.os, k.tape.trans h.tape, k.output.trans h.output, Nat.le_trans h.size k.size, fun i hi hp => (k.block i (Nat.lt_of_lt_of_le hi h.size) (fun hh => hp (hq i hi hh))).trans (h.block i hi hp)⟩
theorem Frm.mono {p q : Nat → Prop} {a b : World} (h : Frm p a b) (hq : ∀ i, i < a.heap.size → p i → q i) : Frm q a b :=
  ⟨h.os, h.tape, h.output, h.size, fun i hi hp => h.block i hi (fun hh => hp (hq i hi hh))⟩
theorem Frm.of_below {p : Nat → Prop} {a b : World} (h : Below a.heap.size a b) : Frm p a b := ⟨h.os, h.tape, h.output, h.size, fun i hi _ => h.block i hi⟩
theorem Frm.below {p : Nat → Prop} {n : Nat} {a b : World} (h : Frm p a b) (hn : n ≤ a.heap.size) (hp : ∀ k, p k → n ≤ k) : Below n a b :=
  ⟨h.os, h.tape, h.output, h.size, fun i hi => h.block i (by omega) (fun hh => by have := hp i hh; omega)⟩
theorem Frm.alloc {p : Nat → Prop} {a w : World} (h : Frm p a w) (o : Obj) : Frm p a (w.alloc o) :=
  h.trans (Frm.of_below (p := p) ((Below.refl _ _).alloc (Nat.le_refl _) o)) (fun _ _ hh => hh)
theorem Frm.drew {p : Nat → Prop} {a w : World} (h : Frm p a w) : Frm p a w.drew := ⟨h.os, h.tape, h.output, h.size, h.block⟩
theorem Frm.drewN {p : Nat → Prop} {a w : World} (h : Frm p a w) (n : Nat) : Frm p a (w.drewN n) := ⟨h.os, h.tape, h.output, h.size, h.block⟩
theorem Frm.setCell {p : Nat → Prop} {a w : World} (h : Frm p a w) {b : Nat} (o : Nat) (hb : p b ∨ a.heap.size ≤ b) (u : Value) : Frm p a (w.setCell ⟨b, o, none⟩ u) :=
  ⟨h.os, h.tape, h.output, Nat.le_trans h.size (by simp [World.setCell]), fun i hi hp => (Below.heap_setCell w ⟨b, o, none⟩ u i (fun e => by
    have e' : i = b := e
    subst e'
    rcases hb with hb | hb
    · exact hp hb
    · omega)).trans (h.block i hi hp)⟩
theorem Frm.put {a w : World} {b : Nat} (h : Frm (fun k => k = b) a w) (o : Nat) (u : Value) : Frm (fun k => k = b) a (w.setCell ⟨b, o, none⟩ u) := h.setCell o (.inl rfl) u
theorem Frm.setCells {p : Nat → Prop} {b : Nat} : ∀ (l : List Value) (o : Nat) {a w : World}, Frm p a w → (p b ∨ a.heap.size ≤ b) → Frm p a (w.setCells b o l)
  | [], _, _, _, h, _ => h
  | v :: l, o, _, _, h, hb => Frm.setCells l (o + 1) (h.setCell o hb v) hb
theorem Frm.grown {p : Nat → Prop} {a w w' : World} {row : Option Nat} (h : Frm p a w) (hg : w.grownBy w' row) (hr : ∀ k, row = some k → p k ∨ a.heap.size ≤ k) : Frm p a w' :=
  ⟨hg.os.trans h.os, hg.tape.trans h.tape, hg.output.trans h.output, Nat.le_trans h.size hg.size, fun i hi hp => (hg.block i (Nat.lt_of_lt_of_le hi h.size) (fun e => by
    rcases hr i e.symm with hh | hh
    · exact hp hh
    · omega)).trans (h.block i hi hp)⟩
theorem Frm.cell {p : Nat → Prop} {w w' : World} (h : Frm p w w') {a : Addr} (hl : a.block < w.heap.size) (hp : ¬ p a.block) : w'.cell? a = w.cell? a := World.cell?_of_block (h.block _ hl hp)

/-- Block b: these cells, none frozen. -/
def Blk (w : World) (b : Nat) (cs : Array Value) (t : TypeId) : Prop := w.heap[b]? = some (.cells cs t (0, 0))
section
variable {w : World} {b : Nat} {cs : Array Value} {t : TypeId}
theorem Blk.lt (h : Blk w b cs t) : b < w.heap.size := (Array.getElem?_eq_some_iff.1 h).1
theorem Blk.new (w : World) (cs : Array Value) (t : TypeId) : Blk (w.alloc (.cells cs t)) w.heap.size cs t := World.alloc_heap_new w _
theorem Blk.alloc (h : Blk w b cs t) (o : Obj) : Blk (w.alloc o) b cs t := (Below.heap_alloc w o b h.lt).trans h
theorem Blk.drew (h : Blk w b cs t) : Blk w.drew b cs t := h
theorem Blk.drewN (h : Blk w b cs t) (n : Nat) : Blk (w.drewN n) b cs t := h
theorem Blk.set (h : Blk w b cs t) (o : Nat) (v : Value) : Blk (w.setCell ⟨b, o, none⟩ v) b (cs.setIfInBounds o v) t := by
  obtain ⟨hlt, hk⟩ := Array.getElem?_eq_some_iff.1 h
  show (w.heap.modify b _)[b]? = _
  rw [Array.getElem?_eq_getElem (by rw [Array.size_modify]; exact hlt), Array.getElem_modify_self, hk]
  rfl
theorem Blk.other (h : Blk w b cs t) {b' : Nat} (o : Nat) (v : Value) (hne : b ≠ b') : Blk (w.setCell ⟨b', o, none⟩ v) b cs t := (Below.heap_setCell w _ v b hne).trans h
theorem Blk.setsOther {b' : Nat} (hne : b ≠ b') : ∀ (l : List Value) (o : Nat) {w : World}, Blk w b cs t → Blk (w.setCells b' o l) b cs t
  | [], _, _, h => h
  | v :: l, o, _, h => Blk.setsOther hne l (o + 1) (h.other o v hne)
theorem Blk.sets : ∀ (l : List Value) (o : Nat) {w : World} {cs : Array Value}, Blk w b cs t → ∃ cs', Blk (w.setCells b o l) b cs' t ∧ cs'.size = cs.size
  | [], _, _, cs, h => ⟨cs, h, rfl⟩
  | v :: l, o, _, cs, h => by
    obtain ⟨cs', h1, h2⟩ := Blk.sets l (o + 1) (h.set o v)
    exact ⟨cs', h1, by rw [h2]; simp⟩
theorem Blk.grown (h : Blk w b cs t) {w' : World} {row : Option Nat} (hg : w.grownBy w' row) (hne : some b ≠ row) : Blk w' b cs t := (hg.block b h.lt hne).trans h
theorem Blk.frm (h : Blk w b cs t) {w' : World} {p : Nat → Prop} (hf : Frm p w w') (hp : ¬ p b) : Blk w' b cs t := (hf.block b h.lt hp).trans h
theorem Blk.below (h : Blk w b cs t) {w' : World} (hf : Below w.heap.size w w') : Blk w' b cs t := (hf.block b h.lt).trans h
theorem Blk.cell (h : Blk w b cs t) (o : Nat) : w.cell? ⟨b, o, none⟩ = cs[o]? := cell_of_row w b o cs t (0, 0) h
theorem Blk.frozen (h : Blk w b cs t) (o : Nat) : w.frozen? ⟨b, o, none⟩ = false := by simp [World.frozen?, show w.heap[b]? = _ from h]
end

/-- A row of the call's own lies at or behind its base. -/
theorem own_ge {w : World} {base : Nat} {e : TypeId} {size n : Nat} {v : Value} {xs : List Value} (h : w.ownsRow base e size v n xs) : ∀ k, v.ownBlock = some k → base ≤ k := by
  intro k hk
  rcases h.2 with ⟨rfl, _⟩ | ⟨g, cap, cur, rfl, hb, _⟩
  · simp [Value.ownBlock] at hk
  · simp [Value.ownBlock] at hk
    omega
theorem own_lt {w : World} {base : Nat} {e : TypeId} {size n : Nat} {v : Value} {xs : List Value} (h : w.ownsRow base e size v n xs) : ∀ k, v.ownBlock = some k → k < w.heap.size := by
  intro k hk
  rcases h.2 with ⟨rfl, _⟩ | ⟨g, cap, cur, rfl, hb, hg, _⟩
  · simp [Value.ownBlock] at hk
  · simp [Value.ownBlock] at hk
    subst hk
    exact (Array.getElem?_eq_some_iff.1 hg).1
/-- A row stays, where its block stays. -/
theorem own_frm {p : Nat → Prop} {w w' : World} (hf : Frm p w w') {base : Nat} {e : TypeId} {size n : Nat} {v : Value} {xs : List Value} (h : w.ownsRow base e size v n xs) (hp : ∀ k, v.ownBlock = some k → ¬ p k) : w'.ownsRow base e size v n xs := by
  refine ⟨h.1, ?_⟩
  rcases h.2 with h0 | ⟨g, cap, cur, hv, hb, hg, h5⟩
  · exact .inl h0
  · refine .inr ⟨g, cap, cur, hv, hb, ?_, h5⟩
    rw [hf.block g (Array.getElem?_eq_some_iff.1 hg).1 (hp g (by rw [hv]; rfl))]
    exact hg
theorem own_below {w w' : World} {base : Nat} {e : TypeId} {size n : Nat} {v : Value} {xs : List Value} (h : w.ownsRow base e size v n xs) (hb : Below w.heap.size w w') : w'.ownsRow base e size v n xs :=
  own_frm (Frm.of_below (p := fun _ => False) hb) h (fun _ _ h => h)
end Go.Proofs.YtdiolfniaiojfaaDoor

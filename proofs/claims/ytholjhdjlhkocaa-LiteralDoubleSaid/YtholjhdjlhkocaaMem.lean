/- Facts on worlds: a frame (all blocks but those named lie as they lay), a block of cells. No condition: nothing here speaks of the program. -/
import Derived.Test.YtholjhdjlhkocaaRows
import Derived.WalkKit
import Derived.Below
import Derived.RangeFuncRecord
import Derived.Deep.QuietTactic
import Derived.BigQuiet
import Derived.ArgAppend
import Derived.Deep.RegionHeld3
import Derived.Lib.Hide
import Derived.WalkSmall
import Derived.IntWalk
import Derived.Laws.AppendOwn
namespace Go.Proofs.Ytholjhdjlhkocaa
open Go.RowKit
set_option linter.unusedVariables false

/-- All blocks that lay there, but those of p, lie as they lay. -/
structure Frm (p : Nat → Prop) (w w' : World) : Prop where
  os : w'.os = w.os
  tape : w'.tape = w.tape
  output : w'.output = w.output
  size : w.heap.size ≤ w'.heap.size
  block : ∀ k, k < w.heap.size → ¬ p k → w'.heap[k]? = w.heap[k]?

theorem Frm.refl (p : Nat → Prop) (w : World) : Frm p w w := ⟨rfl, rfl, rfl, Nat.le_refl _, fun _ _ _ => rfl⟩
theorem Frm.trans {p q : Nat → Prop} {a b c : World} (h : Frm p a b) (k : Frm q b c) (hq : ∀ i, i < a.heap.size → q i → p i) : Frm p a c :=
  ⟨k.os.trans h.os, k.tape.trans h.tape, k.output.trans h.output, Nat.le_trans h.size k.size, fun i hi hp => (k.block i (Nat.lt_of_lt_of_le hi h.size) (fun hh => hp (hq i hi hh))).trans (h.block i hi hp)⟩
theorem Frm.mono {p q : Nat → Prop} {a b : World} (h : Frm p a b) (hq : ∀ i, i < a.heap.size → p i → q i) : Frm q a b :=
  ⟨h.os, h.tape, h.output, h.size, fun i hi hp => h.block i hi (fun hh => hp (hq i hi hh))⟩
theorem Frm.of_below {p : Nat → Prop} {a b : World} (h : Below a.heap.size a b) : Frm p a b := ⟨h.os, h.tape, h.output, h.size, fun i hi _ => h.block i hi⟩
theorem Frm.below {p : Nat → Prop} {n : Nat} {a b : World} (h : Frm p a b) (hn : n ≤ a.heap.size) (hp : ∀ k, p k → n ≤ k) : Below n a b :=
  ⟨h.os, h.tape, h.output, h.size, fun i hi => h.block i (by omega) (fun hh => by have := hp i hh; omega)⟩
theorem Frm.alloc {p : Nat → Prop} {a w : World} (h : Frm p a w) (o : Obj) : Frm p a (w.alloc o) :=
  h.trans (Frm.of_below (p := p) ((Below.refl _ _).alloc (Nat.le_refl _) o)) (fun _ _ hh => hh)
theorem Frm.drew {p : Nat → Prop} {a w : World} (h : Frm p a w) : Frm p a w.drew := ⟨h.os, h.tape, h.output, h.size, h.block⟩
theorem Frm.drewN {p : Nat → Prop} {a w : World} (h : Frm p a w) (n : Nat) : Frm p a (w.drewN n) := ⟨h.os, h.tape, h.output, h.size, h.block⟩
theorem Frm.setCell {p : Nat → Prop} {a w : World} (h : Frm p a w) {b : Nat} (o : Nat) (hb : p b ∨ a.heap.size ≤ b) (u : Value) : Frm p a (w.setCell ⟨b, o, none⟩ u) :=
  ⟨h.os, h.tape, h.output, Nat.le_trans h.size (by simp [World.setCell]), fun i hi hp => (Below.heap_setCell w ⟨b, o, none⟩ u i (fun e => by
    have e' : i = b := e
    subst e'
    rcases hb with hb | hb
    · exact hp hb
    · omega)).trans (h.block i hi hp)⟩
theorem Frm.put {a w : World} {b : Nat} (h : Frm (fun k => k = b) a w) (o : Nat) (u : Value) : Frm (fun k => k = b) a (w.setCell ⟨b, o, none⟩ u) := h.setCell o (.inl rfl) u
theorem Frm.setCells {p : Nat → Prop} {b : Nat} : ∀ (l : List Value) (o : Nat) {a w : World}, Frm p a w → (p b ∨ a.heap.size ≤ b) → Frm p a (w.setCells b o l)
  | [], _, _, _, h, _ => h
  | v :: l, o, _, _, h, hb => Frm.setCells l (o + 1) (h.setCell o hb v) hb
theorem Frm.grown {p : Nat → Prop} {a w w' : World} {row : Option Nat} (h : Frm p a w) (hg : w.grownBy w' row) (hr : ∀ k, row = some k → p k ∨ a.heap.size ≤ k) : Frm p a w' :=
  ⟨hg.os.trans h.os, hg.tape.trans h.tape, hg.output.trans h.output, Nat.le_trans h.size hg.size, fun i hi hp => (hg.block i (Nat.lt_of_lt_of_le hi h.size) (fun e => by
    rcases hr i e.symm with hh | hh
    · exact hp hh
    · omega)).trans (h.block i hi hp)⟩
theorem Frm.cell {p : Nat → Prop} {w w' : World} (h : Frm p w w') {a : Addr} (hl : a.block < w.heap.size) (hp : ¬ p a.block) : w'.cell? a = w.cell? a := World.cell?_of_block (h.block _ hl hp)

/-- Block b: these cells, none frozen. -/
def Blk (w : World) (b : Nat) (cs : Array Value) (t : TypeId) : Prop := w.heap[b]? = some (.cells cs t (0, 0))
section
variable {w : World} {b : Nat} {cs : Array Value} {t : TypeId}
theorem Blk.lt (h : Blk w b cs t) : b < w.heap.size := (Array.getElem?_eq_some_iff.1 h).1
theorem Blk.new (w : World) (cs : Array Value) (t : TypeId) : Blk (w.alloc (.cells cs t)) w.heap.size cs t := World.alloc_heap_new w _
theorem Blk.alloc (h : Blk w b cs t) (o : Obj) : Blk (w.alloc o) b cs t := (Below.heap_alloc w o b h.lt).trans h
theorem Blk.drew (h : Blk w b cs t) : Blk w.drew b cs t := h
theorem Blk.drewN (h : Blk w b cs t) (n : Nat) : Blk (w.drewN n) b cs t := h
theorem Blk.set (h : Blk w b cs t) (o : Nat) (v : Value) : Blk (w.setCell ⟨b, o, none⟩ v) b (cs.setIfInBounds o v) t := by
  obtain ⟨hlt, hk⟩ := Array.getElem?_eq_some_iff.1 h
  show (w.heap.modify b _)[b]? = _
  rw [Array.getElem?_eq_getElem (by rw [Array.size_modify]; exact hlt), Array.getElem_modify_self, hk]
  rfl
theorem Blk.other (h : Blk w b cs t) {b' : Nat} (o : Nat) (v : Value) (hne : b ≠ b') : Blk (w.setCell ⟨b', o, none⟩ v) b cs t := (Below.heap_setCell w _ v b hne).trans h
theorem Blk.setsOther {b' : Nat} (hne : b ≠ b') : ∀ (l : List Value) (o : Nat) {w : World}, Blk w b cs t → Blk (w.setCells b' o l) b cs t
  | [], _, _, h => h
  | v :: l, o, _, h => Blk.setsOther hne l (o + 1) (h.other o v hne)
theorem Blk.sets : ∀ (l : List Value) (o : Nat) {w : World} {cs : Array Value}, Blk w b cs t → ∃ cs', Blk (w.setCells b o l) b cs' t ∧ cs'.size = cs.size
  | [], _, _, cs, h => ⟨cs, h, rfl⟩
  | v :: l, o, _, cs, h => by
    obtain ⟨cs', h1, h2⟩ := Blk.sets l (o + 1) (h.set o v)
    exact ⟨cs', h1, by rw [h2]; simp⟩
theorem Blk.grown (h : Blk w b cs t) {w' : World} {row : Option Nat} (hg : w.grownBy w' row) (hne : some b ≠ row) : Blk w' b cs t := (hg.block b h.lt hne).trans h
theorem Blk.frm (h : Blk w b cs t) {w' : World} {p : Nat → Prop} (hf : Frm p w w') (hp : ¬ p b) : Blk w' b cs t := (hf.block b h.lt hp).trans h
theorem Blk.below (h : Blk w b cs t) {w' : World} (hf : Below w.heap.size w w') : Blk w' b cs t := (hf.block b h.lt).trans h
theorem Blk.cell (h : Blk w b cs t) (o : Nat) : w.cell? ⟨b, o, none⟩ = cs[o]? := cell_of_row w b o cs t (0, 0) h
theorem Blk.frozen (h : Blk w b cs t) (o : Nat) : w.frozen? ⟨b, o, none⟩ = false := by simp [World.frozen?, show w.heap[b]? = _ from h]
end

/-- A row of the call's own lies at or behind its base. -/
theorem own_ge {w : World} {base : Nat} {e : TypeId} {size n : Nat} {v : Value} {xs : List Value} (h : w.ownsRow base e size v n xs) : ∀ k, v.ownBlock = some k → base ≤ k := by
  intro k hk
  rcases h.2 with ⟨rfl, _⟩ | ⟨g, cap, cur, rfl, hb, _⟩
  · simp [Value.ownBlock] at hk
  · simp [Value.ownBlock] at hk
    omega
theorem own_lt {w : World} {base : Nat} {e : TypeId} {size n : Nat} {v : Value} {xs : List Value} (h : w.ownsRow base e size v n xs) : ∀ k, v.ownBlock = some k → k < w.heap.size := by
  intro k hk
  rcases h.2 with ⟨rfl, _⟩ | ⟨g, cap, cur, rfl, hb, hg, _⟩
  · simp [Value.ownBlock] at hk
  · simp [Value.ownBlock] at hk
    subst hk
    exact (Array.getElem?_eq_some_iff.1 hg).1
/-- A row stays, where its block stays. -/
theorem own_frm {p : Nat → Prop} {w w' : World} (hf : Frm p w w') {base : Nat} {e : TypeId} {size n : Nat} {v : Value} {xs : List Value} (h : w.ownsRow base e size v n xs) (hp : ∀ k, v.ownBlock = some k → ¬ p k) : w'.ownsRow base e size v n xs := by
  refine ⟨h.1, ?_⟩
  rcases h.2 with h0 | ⟨g, cap, cur, hv, hb, hg, h5⟩
  · exact .inl h0
  · refine .inr ⟨g, cap, cur, hv, hb, ?_, h5⟩
    rw [hf.block g (Array.getElem?_eq_some_iff.1 hg).1 (hp g (by rw [hv]; rfl))]
    exact hg
theorem own_below {w w' : World} {base : Nat} {e : TypeId} {size n : Nat} {v : Value} {xs : List Value} (h : w.ownsRow base e size v n xs) (hb : Below w.heap.size w w') : w'.ownsRow base e size v n xs :=
  own_frm (Frm.of_below (p := fun _ => False) hb) h (fun _ _ h => h)
end Go.Proofs.Ytholjhdjlhkocaa

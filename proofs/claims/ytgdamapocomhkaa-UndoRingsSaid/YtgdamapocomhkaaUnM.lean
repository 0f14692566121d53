/- The memory of a journal of layer 2 (undo): its block, the block of its steps, and what is left alone beside them. No condition: plain facts on worlds. -/
import Derived.Test.YtgdamapocomhkaaUnT
import Derived.Test.YtgdamapocomhkaaEdA
import Derived.ArgAppend
import Derived.Deep.RegionHeld3
namespace Go.Proofs.Ytgdamapocomhkaa
open Go.RowKit Go.Shelf
set_option linter.unusedVariables false

/-- All blocks that lay there, but those of p, lie as they lay. -/
structure Frm (p : Nat → Prop) (w w' : World) : Prop where
  os : w'.os = w.os
  tape : w'.tape = w.tape
  output : w'.output = w.output
  size : w.heap.size ≤ w'.heap.size
  block : ∀ k, k < w.heap.size → ¬ p k → w'.heap[k]? = w.heap[k]?

theorem Frm.refl (p : Nat → Prop) (w : World) : Frm p w w := ⟨rfl, rfl, rfl, Nat.le_refl _, fun _ _ _ => rfl⟩
theorem Frm.trans {p q : Nat → Prop} {a b c : World} (h : Frm p a b) (k : Frm q b c) (hq : ∀ i, i < a.heap.size → q i → p i) : Frm p a c :=
  ⟨k.os.trans h.os, k.tape.trans h.tape, k.output.trans h.output, Nat.le_trans h.size k.size, fun i hi hp => (k.block i (Nat.lt_of_lt_of_le hi h.size) (fun hh => hp (hq i hi hh))).trans (h.block i hi hp)⟩
theorem Frm.mono {p q : Nat → Prop} {a b : World} (h : Frm p a b) (hq : ∀ i, i < a.heap.size → p i → q i) : Frm q a b :=
  ⟨h.os, h.tape, h.output, h.size, fun i hi hp => h.block i hi (fun hh => hp (hq i hi hh))⟩
theorem Frm.of_below {p : Nat → Prop} {a b : World} (h : Below a.heap.size a b) : Frm p a b := ⟨h.os, h.tape, h.output, h.size, fun i hi _ => h.block i hi⟩
theorem Frm.below {p : Nat → Prop} {n : Nat} {a b : World} (h : Frm p a b) (hn : n ≤ a.heap.size) (hp : ∀ k, p k → n ≤ k) : Below n a b :=
  ⟨h.os, h.tape, h.output, h.size, fun i hi => h.block i (by omega) (fun hh => by have := hp i hh; omega)⟩
theorem Frm.alloc {p : Nat → Prop} {a w : World} (h : Frm p a w) (o : Obj) : Frm p a (w.alloc o) :=
  h.trans (Frm.of_below (p := p) ((Below.refl _ _).alloc (Nat.le_refl _) o)) (fun _ _ hh => hh)
theorem Frm.drew {p : Nat → Prop} {a w : World} (h : Frm p a w) : Frm p a w.drew := ⟨h.os, h.tape, h.output, h.size, h.block⟩
theorem Frm.drewN {p : Nat → Prop} {a w : World} (h : Frm p a w) (n : Nat) : Frm p a (w.drewN n) := ⟨h.os, h.tape, h.output, h.size, h.block⟩
theorem Frm.setCell {p : Nat → Prop} {a w : World} (h : Frm p a w) {b : Nat} (o : Nat) (hb : p b ∨ a.heap.size ≤ b) (u : Value) : Frm p a (w.setCell ⟨b, o, none⟩ u) :=
  ⟨h.os, h.tape, h.output, Nat.le_trans h.size (by simp [World.setCell]), fun i hi hp => (Below.heap_setCell w ⟨b, o, none⟩ u i (fun e => by
    have e' : i = b := e
    subst e'
    rcases hb with hb | hb
    · exact hp hb
    · omega)).trans (h.block i hi hp)⟩
theorem Frm.put {a w : World} {b : Nat} (h : Frm (fun k => k = b) a w) (o : Nat) (u : Value) : Frm (fun k => k = b) a (w.setCell ⟨b, o, none⟩ u) := h.setCell o (.inl rfl) u
theorem Frm.setCells {p : Nat → Prop} {b : Nat} : ∀ (l : List Value) (o : Nat) {a w : World}, Frm p a w → (p b ∨ a.heap.size ≤ b) → Frm p a (w.setCells b o l)
  | [], _, _, _, h, _ => h
  | v :: l, o, _, _, h, hb => Frm.setCells l (o + 1) (h.setCell o hb v) hb
theorem Frm.grown {p : Nat → Prop} {a w w' : World} {row : Option Nat} (h : Frm p a w) (hg : w.grownBy w' row) (hr : ∀ k, row = some k → p k ∨ a.heap.size ≤ k) : Frm p a w' :=
  ⟨hg.os.trans h.os, hg.tape.trans h.tape, hg.output.trans h.output, Nat.le_trans h.size hg.size, fun i hi hp => (hg.block i (Nat.lt_of_lt_of_le hi h.size) (fun e => by
    rcases hr i e.symm with hh | hh
    · exact hp hh
    · omega)).trans (h.block i hi hp)⟩
theorem Frm.cell {p : Nat → Prop} {w w' : World} (h : Frm p w w') {a : Addr} (hl : a.block < w.heap.size) (hp : ¬ p a.block) : w'.cell? a = w.cell? a := World.cell?_of_block (h.block _ hl hp)

/-- Block b: these cells, none frozen. -/
def Blk (w : World) (b : Nat) (cs : Array Value) (t : TypeId) : Prop := w.heap[b]? = some (.cells cs t (0, 0))
section
variable {w : World} {b : Nat} {cs : Array Value} {t : TypeId}
theorem Blk.lt (h : Blk w b cs t) : b < w.heap.size := (Array.getElem?_eq_some_iff.1 h).1
theorem Blk.new (w : World) (cs : Array Value) (t : TypeId) : Blk (w.alloc (.cells cs t)) w.heap.size cs t := World.alloc_heap_new w _
theorem Blk.alloc (h : Blk w b cs t) (o : Obj) : Blk (w.alloc o) b cs t := (Below.heap_alloc w o b h.lt).trans h
theorem Blk.drew (h : Blk w b cs t) : Blk w.drew b cs t := h
theorem Blk.drewN (h : Blk w b cs t) (n : Nat) : Blk (w.drewN n) b cs t := h
theorem Blk.set (h : Blk w b cs t) (o : Nat) (v : Value) : Blk (w.setCell ⟨b, o, none⟩ v) b (cs.setIfInBounds o v) t := by
  obtain ⟨hlt, hk⟩ := Array.getElem?_eq_some_iff.1 h
  show (w.heap.modify b _)[b]? = _
  rw [Array.getElem?_eq_getElem (by rw [Array.size_modify]; exact hlt), Array.getElem_modify_self, hk]
  rfl
theorem Blk.other (h : Blk w b cs t) {b' : Nat} (o : Nat) (v : Value) (hne : b ≠ b') : Blk (w.setCell ⟨b', o, none⟩ v) b cs t := (Below.heap_setCell w _ v b hne).trans h
theorem Blk.setsOther {b' : Nat} (hne : b ≠ b') : ∀ (l : List Value) (o : Nat) {w : World}, Blk w b cs t → Blk (w.setCells b' o l) b cs t
  | [], _, _, h => h
  | v :: l, o, _, h => Blk.setsOther hne l (o + 1) (h.other o v hne)
theorem Blk.sets : ∀ (l : List Value) (o : Nat) {w : World} {cs : Array Value}, Blk w b cs t → ∃ cs', Blk (w.setCells b o l) b cs' t ∧ cs'.size = cs.size
  | [], _, _, cs, h => ⟨cs, h, rfl⟩
  | v :: l, o, _, cs, h => by
    obtain ⟨cs', h1, h2⟩ := Blk.sets l (o + 1) (h.set o v)
    exact ⟨cs', h1, by rw [h2]; simp⟩
theorem Blk.grown (h : Blk w b cs t) {w' : World} {row : Option Nat} (hg : w.grownBy w' row) (hne : some b ≠ row) : Blk w' b cs t := (hg.block b h.lt hne).trans h
theorem Blk.frm (h : Blk w b cs t) {w' : World} {p : Nat → Prop} (hf : Frm p w w') (hp : ¬ p b) : Blk w' b cs t := (hf.block b h.lt hp).trans h
theorem Blk.below (h : Blk w b cs t) {w' : World} (hf : Below w.heap.size w w') : Blk w' b cs t := (hf.block b h.lt).trans h
theorem Blk.cell (h : Blk w b cs t) (o : Nat) : w.cell? ⟨b, o, none⟩ = cs[o]? := cell_of_row w b o cs t (0, 0) h
theorem Blk.frozen (h : Blk w b cs t) (o : Nat) : w.frozen? ⟨b, o, none⟩ = false := by simp [World.frozen?, show w.heap[b]? = _ from h]
end

theorem Frm.five {p : Nat → Prop} {a w : World} (h : Frm p a w) {b : Nat} (hb : p b ∨ a.heap.size ≤ b) (v0 v1 v2 v3 v4 : Value) :
    Frm p a (((((w.setCell ⟨b, 0, none⟩ v0).setCell ⟨b, 1, none⟩ v1).setCell ⟨b, 2, none⟩ v2).setCell ⟨b, 3, none⟩ v3).setCell ⟨b, 4, none⟩ v4) :=
  ((((h.setCell 0 hb v0).setCell 1 hb v1).setCell 2 hb v2).setCell 3 hb v3).setCell 4 hb v4
theorem Blk.five {w : World} {b b' : Nat} {cs : Array Value} {t : TypeId} (h : Blk w b cs t) (hb : b ≠ b') (v0 v1 v2 v3 v4 : Value) :
    Blk (((((w.setCell ⟨b', 0, none⟩ v0).setCell ⟨b', 1, none⟩ v1).setCell ⟨b', 2, none⟩ v2).setCell ⟨b', 3, none⟩ v3).setCell ⟨b', 4, none⟩ v4) b cs t :=
  ((((h.other 0 v0 hb).other 1 v1 hb).other 2 v2 hb).other 3 v3 hb).other 4 v4 hb

theorem Blk.five_at {w : World} {b b' : Nat} {cs : Array Value} {t : TypeId} (h : Blk w b cs t) (hb : b ≠ b') (o0 o1 o2 o3 o4 : Nat) (v0 v1 v2 v3 v4 : Value) :
    Blk (((((w.setCell ⟨b', o0, none⟩ v0).setCell ⟨b', o1, none⟩ v1).setCell ⟨b', o2, none⟩ v2).setCell ⟨b', o3, none⟩ v3).setCell ⟨b', o4, none⟩ v4) b cs t :=
  ((((h.other o0 v0 hb).other o1 v1 hb).other o2 v2 hb).other o3 v3 hb).other o4 v4 hb
theorem Frm.five_at {p : Nat → Prop} {a w : World} (h : Frm p a w) {b : Nat} (hb : p b ∨ a.heap.size ≤ b) (o0 o1 o2 o3 o4 : Nat) (v0 v1 v2 v3 v4 : Value) :
    Frm p a (((((w.setCell ⟨b, o0, none⟩ v0).setCell ⟨b, o1, none⟩ v1).setCell ⟨b, o2, none⟩ v2).setCell ⟨b, o3, none⟩ v3).setCell ⟨b, o4, none⟩ v4) :=
  ((((h.setCell o0 hb v0).setCell o1 hb v1).setCell o2 hb v2).setCell o3 hb v3).setCell o4 hb v4

/-- Where the steps of a journal lie: nowhere, or in a block of steps with room for so many. -/
def Row (w : World) (jb : Nat) (sv : Value) (steps : List St) : Prop :=
  (sv = .slice none 0 0 ∧ steps = []) ∨ ∃ b off cap cs, sv = .slice (some ⟨b, off, none⟩) steps.length cap ∧ steps.length ≤ cap ∧ b ≠ jb ∧ Blk w b cs 31 ∧ off + cap * 5 ≤ cs.size ∧
    ∀ j, j < steps.length → StepAt w b (off + j * 5) (steps[j]?.getD St.zero)
/-- The journal at jb: at most so many steps, the steps, and how many of them are done. -/
structure Jn (w : World) (jb : Nat) (most : Nat) (sv : Value) (steps : List St) (done : Nat) : Prop where
  obj : Blk w jb #[.int .i64 most, sv, .int .i64 done] 65
  le : done ≤ steps.length
  row : Row w jb sv steps
/-- What the journal may turn. -/
def foot (jb : Nat) (sv : Value) (k : Nat) : Prop := k = jb ∨ sv.ownBlock = some k

theorem StepAt.frm {p : Nat → Prop} {w w' : World} (hf : Frm p w w') {b o : Nat} {s : St} (h : StepAt w b o s) (hb : b < w.heap.size) (hp : ¬ p b) : StepAt w' b o s := h.of_block (hf.block b hb hp)
theorem Row.frm {p : Nat → Prop} {w w' : World} (hf : Frm p w w') {jb : Nat} {sv : Value} {steps : List St} (h : Row w jb sv steps) (hp : ∀ k, sv.ownBlock = some k → ¬ p k) : Row w' jb sv steps := by
  rcases h with h | ⟨b, off, cap, cs, h1, h2, h3, h4, h5, h6⟩
  · exact .inl h
  · have hb : ¬ p b := hp b (by rw [h1]; rfl)
    exact .inr ⟨b, off, cap, cs, h1, h2, h3, h4.frm hf hb, h5, fun j hj => (h6 j hj).frm hf h4.lt hb⟩
theorem Jn.frm {p : Nat → Prop} {w w' : World} (hf : Frm p w w') {jb most : Nat} {sv : Value} {steps : List St} {done : Nat} (h : Jn w jb most sv steps done) (hp : ∀ k, foot jb sv k → ¬ p k) : Jn w' jb most sv steps done :=
  ⟨h.obj.frm hf (hp jb (.inl rfl)), h.le, h.row.frm hf (fun k hk => hp k (.inr hk))⟩
theorem Row.lt {w : World} {jb : Nat} {sv : Value} {steps : List St} (h : Row w jb sv steps) : ∀ k, sv.ownBlock = some k → k < w.heap.size ∧ k ≠ jb := by
  intro k hk
  rcases h with ⟨rfl, _⟩ | ⟨b, off, cap, cs, rfl, h2, h3, h4, h5, h6⟩
  · simp [Value.ownBlock] at hk
  · simp [Value.ownBlock] at hk
    subst hk
    exact ⟨h4.lt, h3⟩
theorem Row.form {w : World} {jb : Nat} {sv : Value} {steps : List St} (h : Row w jb sv steps) : ∃ a cap, sv = .slice a steps.length cap := by
  rcases h with ⟨rfl, rfl⟩ | ⟨b, off, cap, cs, rfl, h2, h3, h4, h5, h6⟩
  · exact ⟨none, 0, rfl⟩
  · exact ⟨_, _, rfl⟩
/-- The row, as told reads it. -/
theorem Row.reads {w : World} {jb : Nat} {sv : Value} {steps : List St} (h : Row w jb sv steps) : Reads w.heap.size w sv steps := by
  rcases h with h | ⟨b, off, cap, cs, h1, h2, h3, h4, h5, h6⟩
  · exact .inl h
  · exact .inr ⟨b, off, cap, h1, h4.lt, h2, h6⟩
end Go.Proofs.Ytgdamapocomhkaa

/- What parts.rows yields: the rows of bytes of one part, in their order. Condition: texts of at most 60,000 bytes. -/
import Derived.Deep.AppendLies
import Derived.Maps.AppendAt
import Derived.Test.YtholjhdjlhkocaaPtX
import Derived.Test.YtholjhdjlhkocaaPtF
namespace Go.Proofs.Ytholjhdjlhkocaa
open Go.RowKit Go.Shelf
set_option linter.unusedVariables false
attribute [local go_sem] Oper.semAt_some

theorem grown_below {w w' : World} (h : Below w.heap.size w w') : w.grownBy w' none := ⟨h.os, h.tape, h.output, h.size, fun k hk _ => h.block k hk⟩
/-- All blocks of parts lie as they lay, and a box is as it was. -/
def KpP (B : Nat) (W W' : World) : Prop := W'.heap[B]? = W.heap[B]? ∧ ∀ (b : Nat) (cs : Array Value) (fr : Nat × Nat), W.heap[b]? = some (Obj.cells cs 45 fr) → W'.heap[b]? = W.heap[b]?
theorem kpP_t {B : Nat} {X Y Z : World} (h : KpP B X Y) (k : KpP B Y Z) : KpP B X Z := ⟨k.1.trans h.1, fun b cs fr hb => (k.2 b cs fr ((h.2 b cs fr hb).trans hb)).trans (h.2 b cs fr hb)⟩
theorem kpP_b {B : Nat} {w : World} (hB : B < w.heap.size) (W : World) (l : Nat) (o o' : Obj) (hl : w.heap.size ≤ l) (h : W.heap[l]? = some o) (hc : o.isCells = false) (_ : o.isWalk = false) : KpP B W (W.putObj l o') := by
  have hl2 : l < W.heap.size := (Array.getElem?_eq_some_iff.1 h).1
  refine ⟨(grownBy_putObj' W l o').block B (by omega) (fun e => by cases e; omega), fun b cs fr hb => ?_⟩
  refine (grownBy_putObj' W l o').block b (Array.getElem?_eq_some_iff.1 hb).1 (fun e => ?_)
  cases e
  rw [h] at hb
  cases hb
  cases hc
theorem kpP_below {B : Nat} {W W' : World} (hB : B < W.heap.size) (h : Below W.heap.size W W') : KpP B W W' :=
  ⟨h.block B hB, fun b cs fr hb => h.block b (Array.getElem?_eq_some_iff.1 hb).1⟩
/-- A text's parts, read, in a block of their type. -/
def PK (w : World) (oa : Option Addr) (n : Nat) (L : List Prt) : Prop := RdP w oa n L ∧ ∀ (b off : Nat), oa = some ⟨b, off, none⟩ → ∃ (cs : Array Value) (fr : Nat × Nat), w.heap[b]? = some (Obj.cells cs 45 fr)
theorem PK.kept {B : Nat} {w w' : World} {oa : Option Addr} {n : Nat} {L : List Prt} (h : PK w oa n L) (k : KpP B w w') : PK w' oa n L := by
  obtain ⟨h1, h2⟩ := h
  refine ⟨⟨h1.len, fun i p hp => ?_⟩, fun b off e => ?_⟩
  · obtain ⟨ob, e, _, hc⟩ := h1.cells i p hp
    obtain ⟨cs, fr, hb⟩ := h2 ob 0 e
    have hk := k.2 ob cs fr hb
    refine ⟨ob, e, (Array.getElem?_eq_some_iff.1 (hk.trans hb)).1, fun c u hu => (World.cell?_of_block (a := ⟨ob, i * 5 + c, none⟩) hk).trans (hc c u hu)⟩
  · obtain ⟨cs, fr, hb⟩ := h2 b off e
    exact ⟨cs, fr, (k.2 b cs fr hb).trans hb⟩
theorem PtS.kept {w : World} {base : Nat} {v : Value} {L : List Prt} (h : PtS w base v L) : ∃ oa n oc, v = .slice oa n oc ∧ PK w oa n L := by
  obtain ⟨oa, n, oc, rfl, hR⟩ := h.read
  refine ⟨oa, n, oc, rfl, hR, fun b off e => ?_⟩
  subst e
  rcases h.2 with ⟨h1, _⟩ | ⟨g, cap, cs, h1, _, h3, _⟩
  · injection h1 with h1
    cases h1
  · injection h1 with h1
    cases h1
    exact ⟨cs, _, h3⟩
end Go.Proofs.Ytholjhdjlhkocaa

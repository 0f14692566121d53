/- The document's own machine as a value: a stack's letters, its places, and what push, pop, turn and mark make of them. Condition: stacks of at most a hundred thousand frames. -/
import Derived.Test.YtdjcidackkogjaaGreatDoorMdX
import Derived.Deep.RegionHeldLaw
namespace Go.Proofs.YtdjcidackkogjaaGreatDoor
open Go.RowKit
set_option linter.unusedVariables false

theorem bcell {W w1 : World} (hb : Below W.heap.size W w1) : (∀ b o, b < W.heap.size → w1.cell? ⟨b, o, none⟩ = W.cell? ⟨b, o, none⟩) ∧ (∀ b o, b < W.heap.size → w1.frozen? ⟨b, o, none⟩ = W.frozen? ⟨b, o, none⟩) :=
  ⟨fun b o h => hb.cell (p := ⟨b, o, none⟩) h, fun b o h => hb.frozen (p := ⟨b, o, none⟩) h⟩
theorem below2 (w : World) (o o' : Obj) : Below w.heap.size w ((w.alloc o).alloc o') := ((Below.refl w.heap.size w).alloc (Nat.le_refl _) o).alloc (by simp) o'
theorem blk2 (w : World) (o : Obj) (cs : Array Value) (t : TypeId) : Blk ((w.alloc o).alloc (.cells cs t)) (w.heap.size + 1) cs t := by
  have := Blk.new (w.alloc o) cs t
  rwa [World.size_alloc] at this
theorem size2 (w : World) (o o' : Obj) : ((w.alloc o).alloc o').heap.size = w.heap.size + 2 := by rw [World.size_alloc, World.size_alloc]

structure Rv (w : World) (st : List Fr) (S : ByteArray) (g n cap : Nat) : Prop where
  s : S = ltS st.reverse
  n : n = st.length
  p : Pw w g cap st.reverse
theorem Rv.below {w w' : World} {st : List Fr} {S : ByteArray} {g n cap : Nat} (h : Rv w st S g n cap) (hb : Below w.heap.size w w') : Rv w' st S g n cap := ⟨h.s, h.n, h.p.below hb⟩
theorem Rv.frm {p : Nat → Prop} {w w' : World} {st : List Fr} {S : ByteArray} {g n cap : Nat} (h : Rv w st S g n cap) (hf : Frm p w w') (hp : ¬ p g) : Rv w' st S g n cap := ⟨h.s, h.n, h.p.frm hf hp⟩
theorem Rv.lt {w : World} {st : List Fr} {S : ByteArray} {g n cap : Nat} (h : Rv w st S g n cap) : g < w.heap.size := h.p.lt
theorem Rv.size {w : World} {st : List Fr} {S : ByteArray} {g n cap : Nat} (h : Rv w st S g n cap) : S.size = st.length := by rw [h.s, ltS_size, List.length_reverse]
theorem Rv.top {w : World} {m f : Nat} {r : List Fr} {S : ByteArray} {g n cap : Nat} (h : Rv w ((m, f) :: r) S g n cap) : bt S r.length = ltB m := by
  rw [h.s]
  exact ltS_bt (x := (m, f)) (by simp)
theorem Rv.next {w : World} {m f m2 f2 : Nat} {r : List Fr} {S : ByteArray} {g n cap : Nat} (h : Rv w ((m, f) :: (m2, f2) :: r) S g n cap) : bt S r.length = ltB m2 := by
  rw [h.s]
  exact ltS_bt (x := (m2, f2)) (by simp)
end Go.Proofs.YtdjcidackkogjaaGreatDoor

/- The document's own machine as a value: a stack's letters, its places, and what push, pop, turn and mark make of them. Condition: stacks of at most a hundred thousand frames. -/
import Derived.Test.YtiklnlkakhghdaaGreatDoorMdX
import Derived.Test.YtiklnlkakhghdaaGreatDoorMdZ
namespace Go.Proofs.YtiklnlkakhghdaaGreatDoor
open Go.RowKit
set_option linter.unusedVariables false

theorem bcell {W w1 : World} (hb : Below W.heap.size W w1) : (∀ b o, b < W.heap.size → w1.cell? ⟨b, o, none⟩ = W.cell? ⟨b, o, none⟩) ∧ (∀ b o, b < W.heap.size → w1.frozen? ⟨b, o, none⟩ = W.frozen? ⟨b, o, none⟩) :=
  ⟨fun b o h => hb.cell (p := ⟨b, o, none⟩) h, fun b o h => hb.frozen (p := ⟨b, o, none⟩) h⟩
theorem below2 (w : World) (o o' : Obj) : Below w.heap.size w ((w.alloc o).alloc o') := ((Below.refl w.heap.size w).alloc (Nat.le_refl _) o).alloc (by simp) o'
theorem blk2 (w : World) (o : Obj) (cs : Array Value) (t : TypeId) : Blk ((w.alloc o).alloc (.cells cs t)) (w.heap.size + 1) cs t := by
  have := Blk.new (w.alloc o) cs t
  rwa [World.size_alloc] at this
theorem size2 (w : World) (o o' : Obj) : ((w.alloc o).alloc o').heap.size = w.heap.size + 2 := by rw [World.size_alloc, World.size_alloc]

/-- A stack as the document's machine holds it: its letters, and where its places lie. -/
structure Rv (w : World) (st : List Fr) (S : ByteArray) (g n cap : Nat) : Prop where
  s : S = ltS st.reverse
  n : n = st.length
  p : Pw w g cap st.reverse
theorem Rv.below {w w' : World} {st : List Fr} {S : ByteArray} {g n cap : Nat} (h : Rv w st S g n cap) (hb : Below w.heap.size w w') : Rv w' st S g n cap := ⟨h.s, h.n, h.p.below hb⟩
theorem Rv.frm {p : Nat → Prop} {w w' : World} {st : List Fr} {S : ByteArray} {g n cap : Nat} (h : Rv w st S g n cap) (hf : Frm p w w') (hp : ¬ p g) : Rv w' st S g n cap := ⟨h.s, h.n, h.p.frm hf hp⟩
theorem Rv.lt {w : World} {st : List Fr} {S : ByteArray} {g n cap : Nat} (h : Rv w st S g n cap) : g < w.heap.size := h.p.lt
theorem Rv.size {w : World} {st : List Fr} {S : ByteArray} {g n cap : Nat} (h : Rv w st S g n cap) : S.size = st.length := by rw [h.s, ltS_size, List.length_reverse]
theorem Rv.top {w : World} {m f : Nat} {r : List Fr} {S : ByteArray} {g n cap : Nat} (h : Rv w ((m, f) :: r) S g n cap) : bt S r.length = ltB m := by
  rw [h.s]
  exact ltS_bt (x := (m, f)) (by simp)
theorem Rv.next {w : World} {m f m2 f2 : Nat} {r : List Fr} {S : ByteArray} {g n cap : Nat} (h : Rv w ((m, f) :: (m2, f2) :: r) S g n cap) : bt S r.length = ltB m2 := by
  rw [h.s]
  exact ltS_bt (x := (m2, f2)) (by simp)
/-- Such a machine comes back. -/
def RvTo (w : World) (g0 : Nat) (st : List Fr) (fr : Bool) (e : Ending) (w' : World) : Prop :=
  ∃ S g n cap, e = .returned (.agg #[.string S, .slice (some ⟨g, 0, none⟩) n cap, .bool fr]) ∧ Rv w' st S g n cap ∧ Below w.heap.size w w' ∧ (g = g0 ∨ w.heap.size ≤ g)

section
variable (w : World) (st : List Fr) (S : ByteArray) (g n cap : Nat) (fr : Bool)
theorem rv_push (m p : Nat) (c : ByteArray) (hc : c = ⟨#[ltB m]⟩) (hR : Rv w st S g n cap) (hl : st.length ≤ 100000) (h0 : 0 < st.length) :
    Calls Tryz.prog 80 #[.agg #[.string S, .slice (some ⟨g, 0, none⟩) n cap, .bool fr], .string c, .int .i64 (p : Int)] w (RvTo w g ((m, p) :: st) fr) := by
  have h := push_any w st.reverse m p g cap fr c (Lib.hid hc) hR.p (by simpa using hl) (by simpa using h0)
  rw [← hR.s, List.length_reverse, ← hR.n] at h
  refine h.mono ?_
  rintro e w' ⟨⟨g', cap', rfl, hP, hg⟩, hb⟩
  refine ⟨_, g', n + 1, cap', rfl, ⟨by rw [List.reverse_cons], by rw [hR.n]; rfl, by rw [List.reverse_cons]; exact hP⟩, hb, .inr hg⟩
theorem rv_pop (m f : Nat) (hR : Rv w ((m, f) :: st) S g n cap) (hl : st.length ≤ 100000) :
    Calls Tryz.prog 59 #[.agg #[.string S, .slice (some ⟨g, 0, none⟩) n cap, .bool fr]] w (RvTo w g st fr) := by
  have hp := hR.p
  rw [List.reverse_cons] at hp
  have h := pop_any w st.reverse m f g cap fr hp (by simpa using hl)
  rw [← List.reverse_cons, ← hR.s, List.length_reverse] at h
  have e : n = st.length + 1 := hR.n
  rw [← e] at h
  refine h.mono ?_
  rintro e w' ⟨rfl, hb⟩
  exact ⟨_, g, _, cap, rfl, ⟨rfl, rfl, hp.init.below hb⟩, hb, .inl rfl⟩
theorem rv_turn (m f m2 : Nat) (c : ByteArray) (hc : c = ⟨#[ltB m2]⟩) (hR : Rv w ((m, f) :: st) S g n cap) (hl : st.length ≤ 100000) :
    Calls Tryz.prog 58 #[.agg #[.string S, .slice (some ⟨g, 0, none⟩) n cap, .bool fr], .string c] w (RvTo w g ((m2, f) :: st) fr) := by
  have h := refturn_any w st.reverse m f m2 g cap fr c (Lib.hid hc) (by simpa using hl) n
  rw [← List.reverse_cons, ← List.reverse_cons, ← hR.s] at h
  refine h.mono ?_
  rintro e w' ⟨rfl, hb⟩
  refine ⟨_, g, n, cap, rfl, ⟨rfl, hR.n, ?_⟩, hb, .inl rfl⟩
  exact (hR.p.below hb).places (by simp [plS])
theorem rv_mark (f2 : Bool) (hR : Rv w st S g n cap) :
    Calls Tryz.prog 57 #[.agg #[.string S, .slice (some ⟨g, 0, none⟩) n cap, .bool fr], .bool f2] w (RvTo w g st f2) :=
  (mark_any w S g n cap fr f2).mono fun e w' ⟨he, hb⟩ => ⟨S, g, n, cap, he, hR.below hb, hb, .inl rfl⟩
theorem rv_first : Calls Tryz.prog 46 #[] w (RvTo w w.heap.size Ms.start.st true) :=
  (first_any w).mono fun e w' ⟨⟨g, cap, he, hP, hg⟩, hb⟩ => ⟨_, g, 1, cap, he, ⟨rfl, rfl, hP⟩, hb, .inr hg⟩
/-- What lies in the result's block is handed back. -/
theorem rv_done {w w3 : World} {st : List Fr} {S : ByteArray} {g n cap g0 : Nat} {fr : Bool} (hR : Rv w3 st S g n cap) (hb : Below w.heap.size w w3) (B : Nat) (hB : w.heap.size ≤ B) (hg : g ≠ B) (hg0 : g = g0 ∨ w.heap.size ≤ g) (v0 v1 v2 : Value) :
    RvTo w g0 st fr (.returned (.agg #[.string S, .slice (some ⟨g, 0, none⟩) n cap, .bool fr])) (((w3.setCell ⟨B, 0, none⟩ v0).setCell ⟨B, 1, none⟩ v1).setCell ⟨B, 2, none⟩ v2) :=
  ⟨S, g, n, cap, rfl, hR.frm (((Frm.put (Frm.refl _ w3) 0 v0).put 1 v1).put 2 v2) hg, ((hb.setCell (p := ⟨B, 0, none⟩) hB _).setCell (p := ⟨B, 1, none⟩) hB _).setCell (p := ⟨B, 2, none⟩) hB _, hg0⟩
end
end Go.Proofs.YtiklnlkakhghdaaGreatDoor

/- What Step of the document's own layer 9 returns: a theorem a path, then all together. Condition: texts of at most 60,000 bytes.
What Lex of the document's own layer 9 returns. Condition: texts of at most 900 bytes. -/
import Derived.Test.YtdjcidackkogjaaGreatDoorTkQ
import Derived.Test.YtdjcidackkogjaaGreatDoorTkL
import Derived.Test.YtdjcidackkogjaaGreatDoorQl
import Derived.Test.YtdjcidackkogjaaGreatDoorTkB
import Derived.Test.YtdjcidackkogjaaGreatDoorQm
import Derived.Deep.RegionLaw
import Derived.Deep.RegionWith
import Derived.Deep.RegionHeldLaw
import Derived.Deep.CutBlock
import Derived.Deep.CutRange
import Derived.Deep.DeepCutAuto
namespace Go.Proofs.YtdjcidackkogjaaGreatDoor
open Go.RowKit
set_option linter.unusedVariables false
set_option linter.unusedSectionVars false

structure LxR (W : World) (pv : Value) (x : Lx) : Prop where
  src : Src W pv x.pend.length (cellsD x.pend)
  cap : ∃ oa c, pv = .slice oa x.pend.length c ∧ x.pend.length ≤ c
theorem LxR.below {W W' : World} {pv : Value} {x : Lx} (h : LxR W pv x) (hb : Below W.heap.size W W') : LxR W' pv x := ⟨h.src.below hb, h.cap⟩
theorem LxR.same {W : World} {pv : Value} {x y : Lx} (h : LxR W pv x) (hp : y.pend = x.pend) : LxR W pv y := by
  obtain ⟨h1, h2⟩ := h
  rw [← hp] at h1 h2
  exact ⟨h1, h2⟩
structure StB (w : World) (A : Int) (pv : Value) (bd : Bool) (Bx : Nat) (W : World) : Prop where
  kb : Blk W Bx #[.int .i64 A, pv, .bool bd] 50
  kt : Blk W (Bx + 1) #[.int .i64 0, .int .i64 0, .int .i64 0, .bool false] 44
  kr : Blk W (Bx + 1 + 1) #[.int .i64 0, .slice none 0 0, .bool false] 50
  bl : Below w.heap.size w W
  bx : w.heap.size = Bx
theorem StB.new (w : World) (A : Int) (pv : Value) (bd : Bool) : StB w A pv bd w.heap.size (((w.alloc (.cells #[.int .i64 A, pv, .bool bd] 50)).alloc (.cells #[.int .i64 0, .int .i64 0, .int .i64 0, .bool false] 44)).alloc (.cells #[.int .i64 0, .slice none 0 0, .bool false] 50)) :=
  ⟨((Blk.new w _ _).alloc _).alloc _, (blk_a2 w _ _ _).alloc _, blk_a3 w _ _ _ _, below_a3 _ _ _ _, rfl⟩
theorem StB.below {w W W' : World} {A : Int} {pv : Value} {bd : Bool} {Bx : Nat} (h : StB w A pv bd Bx W) (hb : Below W.heap.size W W') : StB w A pv bd Bx W' :=
  ⟨h.kb.below hb, h.kt.below hb, h.kr.below hb, h.bl.trans (hb.mono h.bl.size), h.bx⟩
def StZ (W : World) (Bx : Nat) (k a E : Int) (op : Bool) (A : Int) (pv : Value) (bd : Bool) : World :=
  ((((((W.setCell ⟨Bx + 1, 0, none⟩ (.int .i64 k)).setCell ⟨Bx + 1, 1, none⟩ (.int .i64 a)).setCell ⟨Bx + 1, 2, none⟩ (.int .i64 E)).setCell ⟨Bx + 1, 3, none⟩ (.bool op)).setCell ⟨Bx + 1 + 1, 0, none⟩ (.int .i64 A)).setCell ⟨Bx + 1 + 1, 1, none⟩ pv).setCell ⟨Bx + 1 + 1, 2, none⟩ (.bool bd)
theorem StB.fin {w W : World} {A0 : Int} {pv0 : Value} {bd0 : Bool} {Bx : Nat} (h : StB w A0 pv0 bd0 Bx W) (k a E : Int) (op : Bool) (A : Int) (pv : Value) (bd : Bool) :
    Blk (StZ W Bx k a E op A pv bd) (Bx + 1) #[.int .i64 k, .int .i64 a, .int .i64 E, .bool op] 44 ∧ Blk (StZ W Bx k a E op A pv bd) (Bx + 1 + 1) #[.int .i64 A, pv, .bool bd] 50 ∧
      Frm (fun b => b = Bx + 1 ∨ b = Bx + 1 + 1) W (StZ W Bx k a E op A pv bd) ∧ Below w.heap.size w (StZ W Bx k a E op A pv bd) := by
  have hF : Frm (fun b => b = Bx + 1 ∨ b = Bx + 1 + 1) W (StZ W Bx k a E op A pv bd) :=
    (((((((Frm.refl _ W).setCell 0 (.inl (.inl rfl)) _).setCell 1 (.inl (.inl rfl)) _).setCell 2 (.inl (.inl rfl)) _).setCell 3 (.inl (.inl rfl)) _).setCell 0 (.inl (.inr rfl)) _).setCell 1 (.inl (.inr rfl)) _).setCell 2 (.inl (.inr rfl)) _
  have e6 := (((h.kt.set 0 (.int .i64 k)).set 1 (.int .i64 a)).set 2 (.int .i64 E)).set 3 (.bool op)
  have f6 := ((e6.other 0 (.int .i64 A) (b' := Bx + 1 + 1) (by omega)).other 1 pv (b' := Bx + 1 + 1) (by omega)).other 2 (.bool bd) (b' := Bx + 1 + 1) (by omega)
  have e7 := (((h.kr.other 0 (.int .i64 k) (b' := Bx + 1) (by omega)).other 1 (.int .i64 a) (b' := Bx + 1) (by omega)).other 2 (.int .i64 E) (b' := Bx + 1) (by omega)).other 3 (.bool op) (b' := Bx + 1) (by omega)
  have f7 := ((e7.set 0 (.int .i64 A)).set 1 pv).set 2 (.bool bd)
  exact ⟨f6, f7, hF, h.bl.trans (hF.below h.bl.size (fun b hb => by have := h.bx; omega))⟩
theorem own_none2 (W : World) : (W.alloc (.cells #[] 87)).ownsRow W.heap.size 87 2 (.slice (some ⟨W.heap.size, 0, none⟩) 0 0) 0 [] :=
  ⟨rfl, .inr ⟨W.heap.size, 0, _, rfl, Nat.le_refl _, World.alloc_heap_new W _, Nat.le_refl _, by unfold maxLen; omega, rfl, rfl⟩⟩
theorem cellsD_len2 {l : List Dl} {n : Nat} (h : n = l.length) : (cellsD l).length = n * 2 := by
  rw [h]
  clear h
  induction l with
  | nil => rfl
  | cons a l ih => rw [cellsD_cons]; simp only [List.length_cons, ih]; omega
theorem src_d9 {W : World} {b : Nat} {x : Dl} (h : Blk W b #[.string x.word, .bool x.tabs] 87) : Src W (.slice (some ⟨b, 0, none⟩) 1 1) 1 [.string x.word, .bool x.tabs] := by
  refine .inr ⟨_, 0, 1, rfl, h.lt, fun j u hj => ?_⟩
  rw [Nat.zero_add, h.cell j]
  simpa using hj

theorem LxM.rd {W : World} {pv : Value} {x : Lx} (h : LxM W pv x) : LxR W pv x := ⟨h.src, h.cap⟩
end Go.Proofs.YtdjcidackkogjaaGreatDoor
namespace Go.Proofs.YtdjcidackkogjaaGreatDoor
open Go.RowKit
set_option linter.unusedVariables false
set_option linter.unusedSectionVars false

theorem LxR.len {W : World} {oa : Option Addr} {n c : Nat} {x : Lx} (h : LxR W (.slice oa n c) x) : n = x.pend.length := by
  obtain ⟨oa', c', he, _⟩ := h.cap
  injection he
end Go.Proofs.YtdjcidackkogjaaGreatDoor

/- What Step of the document's own layer 9 returns: a theorem a path, then all together. Condition: texts of at most 60,000 bytes.
What Lex of the document's own layer 9 returns. Condition: texts of at most 900 bytes. -/
import Derived.Test.YtgfkbfojeohlkaaGreatDoorTkR
import Derived.Test.YtgfkbfojeohlkaaGreatDoorTkB
import Derived.Test.YtgfkbfojeohlkaaGreatDoorQm
import Derived.Deep.RegionLaw
import Derived.Deep.RegionWith
import Derived.Deep.RegionHeldLaw
import Derived.Deep.CutBlock
import Derived.Deep.CutRange
import Derived.Deep.DeepCutAuto
namespace Go.Proofs.YtgfkbfojeohlkaaGreatDoor
open Go.RowKit
set_option linter.unusedVariables false
set_option linter.unusedSectionVars false

structure LxR (W : World) (pv : Value) (x : Lx) : Prop where
  src : Src W pv x.pend.length (cellsD x.pend)
  cap : ∃ oa c, pv = .slice oa x.pend.length c ∧ x.pend.length ≤ c
theorem LxR.below {W W' : World} {pv : Value} {x : Lx} (h : LxR W pv x) (hb : Below W.heap.size W W') : LxR W' pv x := ⟨h.src.below hb, h.cap⟩
theorem LxR.same {W : World} {pv : Value} {x y : Lx} (h : LxR W pv x) (hp : y.pend = x.pend) : LxR W pv y := by
  obtain ⟨h1, h2⟩ := h
  rw [← hp] at h1 h2
  exact ⟨h1, h2⟩
def RsP (w : World) (p : Value) (t : Tk) (y : Lx) (e : Ending) (w' : World) : Prop := ∃ oa n c, e = .returned (.tuple #[aggT t, aggL y (.slice oa n c)]) ∧ LxR w' (.slice oa n c) y ∧ Below w.heap.size w w' ∧ ∀ g, (Value.slice oa n c).ownBlock = some g → p.ownBlock = some g ∨ w.heap.size ≤ g
structure StB (w : World) (A : Int) (pv : Value) (bd : Bool) (Bx : Nat) (W : World) : Prop where
  kb : Blk W Bx #[.int .i64 A, pv, .bool bd] 26
  kt : Blk W (Bx + 1) #[.int .i64 0, .int .i64 0, .int .i64 0, .bool false] 33
  kr : Blk W (Bx + 1 + 1) #[.int .i64 0, .slice none 0 0, .bool false] 26
  bl : Below w.heap.size w W
  bx : w.heap.size = Bx
theorem StB.new (w : World) (A : Int) (pv : Value) (bd : Bool) : StB w A pv bd w.heap.size (((w.alloc (.cells #[.int .i64 A, pv, .bool bd] 26)).alloc (.cells #[.int .i64 0, .int .i64 0, .int .i64 0, .bool false] 33)).alloc (.cells #[.int .i64 0, .slice none 0 0, .bool false] 26)) :=
  ⟨((Blk.new w _ _).alloc _).alloc _, (blk_a2 w _ _ _).alloc _, blk_a3 w _ _ _ _, below_a3 _ _ _ _, rfl⟩
theorem StB.below {w W W' : World} {A : Int} {pv : Value} {bd : Bool} {Bx : Nat} (h : StB w A pv bd Bx W) (hb : Below W.heap.size W W') : StB w A pv bd Bx W' :=
  ⟨h.kb.below hb, h.kt.below hb, h.kr.below hb, h.bl.trans (hb.mono h.bl.size), h.bx⟩
def StZ (W : World) (Bx : Nat) (k a E : Int) (op : Bool) (A : Int) (pv : Value) (bd : Bool) : World :=
  ((((((W.setCell ⟨Bx + 1, 0, none⟩ (.int .i64 k)).setCell ⟨Bx + 1, 1, none⟩ (.int .i64 a)).setCell ⟨Bx + 1, 2, none⟩ (.int .i64 E)).setCell ⟨Bx + 1, 3, none⟩ (.bool op)).setCell ⟨Bx + 1 + 1, 0, none⟩ (.int .i64 A)).setCell ⟨Bx + 1 + 1, 1, none⟩ pv).setCell ⟨Bx + 1 + 1, 2, none⟩ (.bool bd)
theorem StB.fin {w W : World} {A0 : Int} {pv0 : Value} {bd0 : Bool} {Bx : Nat} (h : StB w A0 pv0 bd0 Bx W) (k a E : Int) (op : Bool) (A : Int) (pv : Value) (bd : Bool) :
    Blk (StZ W Bx k a E op A pv bd) (Bx + 1) #[.int .i64 k, .int .i64 a, .int .i64 E, .bool op] 33 ∧ Blk (StZ W Bx k a E op A pv bd) (Bx + 1 + 1) #[.int .i64 A, pv, .bool bd] 26 ∧
      Frm (fun b => b = Bx + 1 ∨ b = Bx + 1 + 1) W (StZ W Bx k a E op A pv bd) ∧ Below w.heap.size w (StZ W Bx k a E op A pv bd) := by
  have hF : Frm (fun b => b = Bx + 1 ∨ b = Bx + 1 + 1) W (StZ W Bx k a E op A pv bd) :=
    (((((((Frm.refl _ W).setCell 0 (.inl (.inl rfl)) _).setCell 1 (.inl (.inl rfl)) _).setCell 2 (.inl (.inl rfl)) _).setCell 3 (.inl (.inl rfl)) _).setCell 0 (.inl (.inr rfl)) _).setCell 1 (.inl (.inr rfl)) _).setCell 2 (.inl (.inr rfl)) _
  have e6 := (((h.kt.set 0 (.int .i64 k)).set 1 (.int .i64 a)).set 2 (.int .i64 E)).set 3 (.bool op)
  have f6 := ((e6.other 0 (.int .i64 A) (b' := Bx + 1 + 1) (by omega)).other 1 pv (b' := Bx + 1 + 1) (by omega)).other 2 (.bool bd) (b' := Bx + 1 + 1) (by omega)
  have e7 := (((h.kr.other 0 (.int .i64 k) (b' := Bx + 1) (by omega)).other 1 (.int .i64 a) (b' := Bx + 1) (by omega)).other 2 (.int .i64 E) (b' := Bx + 1) (by omega)).other 3 (.bool op) (b' := Bx + 1) (by omega)
  have f7 := ((e7.set 0 (.int .i64 A)).set 1 pv).set 2 (.bool bd)
  exact ⟨f6, f7, hF, h.bl.trans (hF.below h.bl.size (fun b hb => by have := h.bx; omega))⟩
theorem StB.rsp {w W Wm : World} {A0 : Int} {pv0 : Value} {bd0 : Bool} {Bx : Nat} (h : StB w A0 pv0 bd0 Bx W) {t : Tk} {y : Lx} {oa : Option Addr} {n c : Nat} (hM : LxR W (.slice oa n c) y) (hne : ∀ g, (Value.slice oa n c).ownBlock = some g → g ≠ Bx + 1 ∧ g ≠ Bx + 1 + 1)
    (hd : Drew (StZ W Bx t.kind t.frm t.en t.op y.await (.slice oa n c) y.body) Wm) {e : Ending} (he : e = .returned (.tuple #[aggT t, aggL y (.slice oa n c)])) (hfr : ∀ g, (Value.slice oa n c).ownBlock = some g → pv0.ownBlock = some g ∨ w.heap.size ≤ g) : RsP w pv0 t y e Wm := by
  obtain ⟨q, rfl⟩ := hd
  obtain ⟨_, _, hF, hB⟩ := h.fin t.kind t.frm t.en t.op y.await (.slice oa n c) y.body
  refine ⟨oa, n, c, he, ⟨?_, hM.cap⟩, below_drewN hB _, hfr⟩
  exact (hM.src.frm hF (fun g hg hh => by have := hne g hg; omega)).below (below_drewN (Below.refl _ _) _)
theorem keepS3 {X : World} {B b o : Nat} {v v0 v1 v2 : Value} (hB : B ≠ b) (h : X.cell? ⟨B, 0, none⟩ = some v0 ∧ X.cell? ⟨B, 1, none⟩ = some v1 ∧ X.cell? ⟨B, 2, none⟩ = some v2) :
    (X.setCell ⟨b, o, none⟩ v).cell? ⟨B, 0, none⟩ = some v0 ∧ (X.setCell ⟨b, o, none⟩ v).cell? ⟨B, 1, none⟩ = some v1 ∧ (X.setCell ⟨b, o, none⟩ v).cell? ⟨B, 2, none⟩ = some v2 := by
  have e1 : ∀ j, (X.setCell ⟨b, o, none⟩ v).cell? ⟨B, j, none⟩ = X.cell? ⟨B, j, none⟩ := fun j => World.cell?_of_block (Below.heap_setCell X _ _ B hB)
  simp only [e1]
  exact h
theorem own_none2 (W : World) : (W.alloc (.cells #[] 49)).ownsRow W.heap.size 49 2 (.slice (some ⟨W.heap.size, 0, none⟩) 0 0) 0 [] :=
  ⟨rfl, .inr ⟨W.heap.size, 0, _, rfl, Nat.le_refl _, World.alloc_heap_new W _, Nat.le_refl _, by unfold maxLen; omega, rfl, rfl⟩⟩
theorem cellsD_len2 {l : List Dl} {n : Nat} (h : n = l.length) : (cellsD l).length = n * 2 := by
  rw [h]
  clear h
  induction l with
  | nil => rfl
  | cons a l ih => rw [cellsD_cons]; simp only [List.length_cons, ih]; omega
theorem src_d9 {W : World} {b : Nat} {x : Dl} (h : Blk W b #[.string x.word, .bool x.tabs] 49) : Src W (.slice (some ⟨b, 0, none⟩) 1 1) 1 [.string x.word, .bool x.tabs] := by
  refine .inr ⟨_, 0, 1, rfl, h.lt, fun j u hj => ?_⟩
  rw [Nat.zero_add, h.cell j]
  simpa using hj
theorem src_lt {w : World} {v : Value} {m : Nat} {xs : List Value} (h : Src w v m xs) : ∀ g, v.ownBlock = some g → g < w.heap.size := by
  intro g hg
  rcases h with ⟨rfl, _⟩ | ⟨b, off, c, rfl, h2, _⟩
  · cases hg
  · have : b = g := by simpa [Value.ownBlock] using hg
    omega
section
variable (w : World) (x : Lx) (oa : Option Addr) (n c : Nat) (hM : LxR w (.slice oa n c) x) (s : ByteArray) (a : Nat) (ha : a < s.size) (hs : s.size ≤ 60000)
include hM ha hs
set_option maxRecDepth 100000 in
set_option maxHeartbeats 4000000 in
theorem rst_blank (hbd : x.body = false) (E : Nat) (hE : a < E) (hE2 : E ≤ s.size) (hbl : ∀ W, Calls Tryz.prog 52 #[.string s, .int .i64 (a : Int)] W fun e w' => e = .returned (.int .i64 (E : Int)) ∧ w' = W) :
    Calls Tryz.prog 24 #[.string s, .int .i64 (a : Int), aggL x (.slice oa n c)] w fun e w' => RsP w (.slice oa n c) ⟨1, a, E, false⟩ x e w' := by
  have HBL := Lib.hid hbl
  clear hbl
  have hi : (a : Int) < (E : Int) := by omega
  obtain ⟨A, pd, bd⟩ := x
  dsimp only at hbd
  subst hbd
  unfold aggL
  dsimp only
  have hst := StB.new w (A : Int) (.slice oa n c) false
  have q0 : (0 : Int) ≤ (a : Int) := by omega
  have q1 : (a : Int) < (s.size : Int) := by omega
  have kb0 := hst.kb.cell 2
  have kb1 := hst.kb.cell 1
  have HM := Lib.hid hM
  have HBX : Hid (∀ g, (Value.slice oa n c).ownBlock = some g → g < w.heap.size) := Lib.hid (fun g hg => src_lt hM.src g hg)
  clear hM
  go_enter Tryz.func24, Tryz.ntmps24
  go_wp2_with fail
  obtain ⟨W, hW⟩ : ∃ X, (((w.alloc (.cells #[.int .i64 (A : Int), .slice oa n c, .bool false] 26)).alloc (.cells #[.int .i64 0, .int .i64 0, .int .i64 0, .bool false] 33)).alloc (.cells #[.int .i64 0, .slice none 0 0, .bool false] 26)) = X := ⟨_, rfl⟩
  obtain ⟨Bx, hBx⟩ : ∃ z, w.heap.size = z := ⟨_, rfl⟩
  rw [hW] at hst kb0 kb1 ⊢
  rw [hBx] at hst kb0 kb1 HBX ⊢
  clear hW hBx
  refine (HBL.out _).mono ?_
  rintro e w1 ⟨rfl, rfl⟩
  have a0 := hst.kb.cell 0
  have a1 := hst.kb.cell 1
  have a2 := hst.kb.cell 2
  have t0 := hst.kt.cell 0
  have t1 := hst.kt.cell 1
  have t2 := hst.kt.cell 2
  have t3 := hst.kt.cell 3
  have tf0 := hst.kt.frozen 0
  have tf1 := hst.kt.frozen 1
  have tf2 := hst.kt.frozen 2
  have tf3 := hst.kt.frozen 3
  have r0 := hst.kr.cell 0
  have r1 := hst.kr.cell 1
  have r2 := hst.kr.cell 2
  have rf0 := hst.kr.frozen 0
  have rf1 := hst.kr.frozen 1
  have rf2 := hst.kr.frozen 2
  go_wp2
  go_region
  go_wp2
  obtain ⟨f6, f7, _, _⟩ := hst.fin (1 : Int) (a : Int) (E : Int) false (A : Int) (.slice oa n c) false
  unfold StZ at f6 f7
  have h0 := f6.drew.cell 0
  have h1 := f6.drew.cell 1
  have h2 := f6.drew.cell 2
  have h3 := f6.drew.cell 3
  have i0 := f7.drew.cell 0
  have i1 := f7.drew.cell 1
  have i2 := f7.drew.cell 2
  refine bodyPost_ret (v := .tuple #[.agg #[.int .i64 (1 : Int), .int .i64 (a : Int), .int .i64 (E : Int), .bool false], .agg #[.int .i64 (A : Int), (.slice oa n c), .bool false]]) (by simp [results, Tryz.results24, go_sem, h0, h1, h2, h3, i0, i1, i2]) rfl ?_
  exact hst.rsp (t := ⟨1, a, E, false⟩) (y := ⟨A, pd, false⟩) (HM.out.below hst.bl) (fun g hg => by have := HBX.out g hg; omega) ⟨1, rfl⟩ rfl (fun g hg => .inl hg)
set_option maxRecDepth 100000 in
set_option maxHeartbeats 4000000 in
theorem rst_line (hbd : x.body = false) (hbl : ∀ W, Calls Tryz.prog 52 #[.string s, .int .i64 (a : Int)] W fun e w' => e = .returned (.int .i64 (a : Int)) ∧ w' = W) (hby : by8 s a = 10)  :
    Calls Tryz.prog 24 #[.string s, .int .i64 (a : Int), aggL x (.slice oa n c)] w fun e w' => RsP w (.slice oa n c) ⟨2, a, a + 1, false⟩ ⟨0, x.pend, decide (0 < n)⟩ e w' := by
  have HBL := Lib.hid hbl
  clear hbl
  have hix : ∀ hh : a < s.size, (s[a]'hh).toNat = 10 := fun hh => by rw [← hby]; unfold by8; rw [bt_eq hh]
  clear hby
  have hi : ¬ (a : Int) < (a : Int) := by omega
  have r1 : IntKind.i64.wrap ((a : Int) + 1) = ((a + 1 : Nat) : Int) := by rw [IntWalk.i64_in _ (by omega)]; omega
  obtain ⟨E, hE⟩ : ∃ E, a + 1 = E := ⟨_, rfl⟩
  rw [hE] at r1 ⊢
  clear hE
  obtain ⟨A, pd, bd⟩ := x
  dsimp only at hbd
  subst hbd
  unfold aggL
  dsimp only
  have hst := StB.new w (A : Int) (.slice oa n c) false
  have q0 : (0 : Int) ≤ (a : Int) := by omega
  have q1 : (a : Int) < (s.size : Int) := by omega
  have kb0 := hst.kb.cell 2
  have kb1 := hst.kb.cell 1
  have HM := Lib.hid hM
  have HBX : Hid (∀ g, (Value.slice oa n c).ownBlock = some g → g < w.heap.size) := Lib.hid (fun g hg => src_lt hM.src g hg)
  clear hM
  go_enter Tryz.func24, Tryz.ntmps24
  go_wp2_with fail
  obtain ⟨W, hW⟩ : ∃ X, (((w.alloc (.cells #[.int .i64 (A : Int), .slice oa n c, .bool false] 26)).alloc (.cells #[.int .i64 0, .int .i64 0, .int .i64 0, .bool false] 33)).alloc (.cells #[.int .i64 0, .slice none 0 0, .bool false] 26)) = X := ⟨_, rfl⟩
  obtain ⟨Bx, hBx⟩ : ∃ z, w.heap.size = z := ⟨_, rfl⟩
  rw [hW] at hst kb0 kb1 ⊢
  rw [hBx] at hst kb0 kb1 HBX ⊢
  clear hW hBx
  refine (HBL.out _).mono ?_
  rintro e w1 ⟨rfl, rfl⟩
  have a0 := hst.kb.cell 0
  have a1 := hst.kb.cell 1
  have a2 := hst.kb.cell 2
  have t0 := hst.kt.cell 0
  have t1 := hst.kt.cell 1
  have t2 := hst.kt.cell 2
  have t3 := hst.kt.cell 3
  have tf0 := hst.kt.frozen 0
  have tf1 := hst.kt.frozen 1
  have tf2 := hst.kt.frozen 2
  have tf3 := hst.kt.frozen 3
  have r0 := hst.kr.cell 0
  have r1 := hst.kr.cell 1
  have r2 := hst.kr.cell 2
  have rf0 := hst.kr.frozen 0
  have rf1 := hst.kr.frozen 1
  have rf2 := hst.kr.frozen 2
  go_wp2
  go_region
  go_wp2
  obtain ⟨f6, f7, _, _⟩ := hst.fin (2 : Int) (a : Int) (E : Int) false (0 : Int) (.slice oa n c) (decide (0 < n))
  unfold StZ at f6 f7
  have h0 := f6.drew.cell 0
  have h1 := f6.drew.cell 1
  have h2 := f6.drew.cell 2
  have h3 := f6.drew.cell 3
  have i0 := f7.drew.cell 0
  have i1 := f7.drew.cell 1
  have i2 := f7.drew.cell 2
  refine bodyPost_ret (v := .tuple #[.agg #[.int .i64 (2 : Int), .int .i64 (a : Int), .int .i64 (E : Int), .bool false], .agg #[.int .i64 (0 : Int), (.slice oa n c), .bool (decide (0 < n))]]) (by simp [results, Tryz.results24, go_sem, h0, h1, h2, h3, i0, i1, i2]) rfl ?_
  exact hst.rsp (t := ⟨2, a, E, false⟩) (y := ⟨0, pd, decide (0 < n)⟩) ((HM.out.below hst.bl).same rfl) (fun g hg => by have := HBX.out g hg; omega) ⟨1, rfl⟩ rfl (fun g hg => .inl hg)
set_option maxRecDepth 100000 in
set_option maxHeartbeats 4000000 in
theorem rst_comment (hbd : x.body = false) (hbl : ∀ W, Calls Tryz.prog 52 #[.string s, .int .i64 (a : Int)] W fun e w' => e = .returned (.int .i64 (a : Int)) ∧ w' = W) (hby : by8 s a = 35) (E : Nat) (hE : ∀ b, a ≤ b → b ≤ s.size → (∀ i, a ≤ i → i < b → by8 s i ≠ 10) → (b < s.size → by8 s b = 10) → b = E) :
    Calls Tryz.prog 24 #[.string s, .int .i64 (a : Int), aggL x (.slice oa n c)] w fun e w' => RsP w (.slice oa n c) ⟨3, a, E, false⟩ ⟨0, x.pend, false⟩ e w' := by
  have HBL := Lib.hid hbl
  clear hbl
  have hix : ∀ hh : a < s.size, (s[a]'hh).toNat = 35 := fun hh => by rw [← hby]; unfold by8; rw [bt_eq hh]
  clear hby
  have hi : ¬ (a : Int) < (a : Int) := by omega
  have HE := Lib.hid hE
  clear hE
  obtain ⟨A, pd, bd⟩ := x
  dsimp only at hbd
  subst hbd
  unfold aggL
  dsimp only
  have hst := StB.new w (A : Int) (.slice oa n c) false
  have q0 : (0 : Int) ≤ (a : Int) := by omega
  have q1 : (a : Int) < (s.size : Int) := by omega
  have kb0 := hst.kb.cell 2
  have kb1 := hst.kb.cell 1
  have HM := Lib.hid hM
  have HBX : Hid (∀ g, (Value.slice oa n c).ownBlock = some g → g < w.heap.size) := Lib.hid (fun g hg => src_lt hM.src g hg)
  clear hM
  go_enter Tryz.func24, Tryz.ntmps24
  go_wp2_with fail
  obtain ⟨W, hW⟩ : ∃ X, (((w.alloc (.cells #[.int .i64 (A : Int), .slice oa n c, .bool false] 26)).alloc (.cells #[.int .i64 0, .int .i64 0, .int .i64 0, .bool false] 33)).alloc (.cells #[.int .i64 0, .slice none 0 0, .bool false] 26)) = X := ⟨_, rfl⟩
  obtain ⟨Bx, hBx⟩ : ∃ z, w.heap.size = z := ⟨_, rfl⟩
  rw [hW] at hst kb0 kb1 ⊢
  rw [hBx] at hst kb0 kb1 HBX ⊢
  clear hW hBx
  refine (HBL.out _).mono ?_
  rintro e w1 ⟨rfl, rfl⟩
  have a0 := hst.kb.cell 0
  have a1 := hst.kb.cell 1
  have a2 := hst.kb.cell 2
  have hzB : Bx + 3 ≤ w1.heap.size := by have := hst.kr.lt; omega
  go_upto_block 0 with fail
  have ky := Blk.new w1 #[.int .i64 0, .slice oa n c, .bool false] 26
  have hst2 := hst.below ((Below.refl _ w1).alloc (Nat.le_refl _) (.cells #[.int .i64 0, .slice oa n c, .bool false] 26))
  obtain ⟨W2, hW2⟩ : ∃ X, w1.alloc (.cells #[.int .i64 0, .slice oa n c, .bool false] 26) = X := ⟨_, rfl⟩
  obtain ⟨By, hBy⟩ : ∃ z, w1.heap.size = z := ⟨_, rfl⟩
  rw [hW2] at ky hst2 ⊢
  rw [hBy] at ky hzB ⊢
  clear hW2 hBy hst a0 a1 a2 kb0 kb1
  obtain ⟨hst, hst2⟩ : StB w (A : Int) (.slice oa n c) false Bx W2 ∧ True := ⟨hst2, trivial⟩
  go_cut [12] from 80 to 91 (fun v12 wx => v12 = .int .i64 (E : Int) ∧ wx = W2)
  case first =>
    go_wp2
    go_loopw [12] (fun v wr => ∃ b : Nat, a ≤ b ∧ b ≤ s.size ∧ v = .int .i64 (b : Int) ∧ (∀ i, a ≤ i → i < b → by8 s i ≠ 10) ∧ wr = W2) (fun v _ => s.size - (intOf v).toNat)
    case atStart => exact ⟨a, Nat.le_refl _, by omega, rfl, fun i h1 h2 => by omega, rfl⟩
    case round =>
      obtain ⟨b, hab, hbs, rfl, hin, rfl⟩ := hrel
      have HIN := Lib.hid hin
      clear hin
      have u0 : (0 : Int) ≤ (b : Int) := by omega
      by_cases hlt : b < s.size
      · have u1 : (b : Int) < (s.size : Int) := by omega
        obtain ⟨cc, hcc⟩ : ∃ cc, by8 s b = cc := ⟨_, rfl⟩
        have hixb : ∀ hh : b < s.size, (s[b]'hh).toNat = cc := fun hh => by rw [← hcc]; unfold by8; rw [bt_eq hh]
        have HCC := Lib.hid hcc
        clear hcc
        by_cases h10 : cc = 10
        · have hbE : b = E := HE.out b hab hbs HIN.out (fun _ => by rw [HCC.out]; exact h10)
          have HBE := Lib.hid hbE
          subst h10
          clear hbE
          go_wp2
          go_meet
          case rel => exact ⟨by rw [HBE.out], rfl⟩
        · have t10 : ((cc : Int) != 10) = true := by rw [bne, beq_eq_false_iff_ne.2 (by omega)]; rfl
          have t10' : ((cc : Int) == 10) = false := beq_eq_false_iff_ne.2 (by omega)
          go_wp2
          go_roundw
          case rel =>
            refine ⟨b + 1, by omega, by omega, by go_num, fun i h1 h2 => ?_, by first | rfl | trivial⟩
            by_cases e : i = b
            · rw [e, HCC.out]; exact h10
            · exact HIN.out i h1 (by omega)
          case measure => simp [intOf]; omega
      · have hbE : b = E := HE.out b hab hbs HIN.out (fun h => absurd h hlt)
        have HBE := Lib.hid hbE
        have u1 : ¬ (b : Int) < (s.size : Int) := by omega
        clear hbE hlt
        go_wp2
        go_meet
        case rel => exact ⟨by rw [HBE.out], rfl⟩
  case rest =>
    obtain ⟨hv, hw⟩ := hcut
    subst hv
    subst hw
    have y0 := ky.cell 0
    have y1 := ky.cell 1
    have y2 := ky.cell 2
    have yf0 := ky.frozen 0
    have t0 := hst.kt.cell 0
    have t1 := hst.kt.cell 1
    have t2 := hst.kt.cell 2
    have t3 := hst.kt.cell 3
    have tf0 := hst.kt.frozen 0
    have tf1 := hst.kt.frozen 1
    have tf2 := hst.kt.frozen 2
    have tf3 := hst.kt.frozen 3
    have r0 := hst.kr.cell 0
    have r1 := hst.kr.cell 1
    have r2 := hst.kr.cell 2
    have rf0 := hst.kr.frozen 0
    have rf1 := hst.kr.frozen 1
    have rf2 := hst.kr.frozen 2
    go_wp2
    go_region
    go_wp2
    obtain ⟨f6, f7, _, _⟩ := hst.fin (3 : Int) (a : Int) (E : Int) false (0 : Int) (.slice oa n c) false
    unfold StZ at f6 f7
    have h0 := f6.drew.cell 0
    have h1 := f6.drew.cell 1
    have h2 := f6.drew.cell 2
    have h3 := f6.drew.cell 3
    have i0 := f7.drew.cell 0
    have i1 := f7.drew.cell 1
    have i2 := f7.drew.cell 2
    refine bodyPost_ret (v := .tuple #[.agg #[.int .i64 (3 : Int), .int .i64 (a : Int), .int .i64 (E : Int), .bool false], .agg #[.int .i64 (0 : Int), (.slice oa n c), .bool false]]) (by simp [results, Tryz.results24, go_sem, h0, h1, h2, h3, i0, i1, i2]) rfl ?_
    exact hst.rsp (t := ⟨3, a, E, false⟩) (y := ⟨0, pd, false⟩) ((HM.out.below hst.bl).same rfl) (fun g hg => by have := HBX.out g hg; omega) ⟨1, rfl⟩ rfl (fun g hg => .inl hg)
set_option maxRecDepth 100000 in
set_option maxHeartbeats 4000000 in
theorem rst_four (hbd : x.body = false) (hbl : ∀ W, Calls Tryz.prog 52 #[.string s, .int .i64 (a : Int)] W fun e w' => e = .returned (.int .i64 (a : Int)) ∧ w' = W) (bb : Nat) (hby : by8 s a = bb) (hb10 : bb ≠ 10) (hb35 : bb ≠ 35) (hat : ∀ W, Calls Tryz.prog 53 #[.string s, .int .i64 (a : Int)] W fun e w' => e = .returned (.int .i64 (4 : Int)) ∧ w' = W) (T : ByteArray) (hT : T.size ≤ 3) (htx : ∀ W, Calls Tryz.prog 54 #[.int .i64 (4 : Int)] W fun e w' => e = .returned (.string T) ∧ w' = W) :
    Calls Tryz.prog 24 #[.string s, .int .i64 (a : Int), aggL x (.slice oa n c)] w fun e w' => RsP w (.slice oa n c) ⟨4, a, a + T.size, false⟩ ⟨4, x.pend, false⟩ e w' := by
  have HBL := Lib.hid hbl
  clear hbl
  have hix : ∀ hh : a < s.size, (s[a]'hh).toNat = bb := fun hh => by rw [← hby]; unfold by8; rw [bt_eq hh]
  have tb1 : ((bb : Int) == 10) = false := beq_eq_false_iff_ne.2 (by omega)
  have tb2 : ((bb : Int) == 35) = false := beq_eq_false_iff_ne.2 (by omega)
  clear hby
  have hi : ¬ (a : Int) < (a : Int) := by omega
  have HAT := Lib.hid hat
  have HTX := Lib.hid htx
  obtain ⟨E, hE⟩ : ∃ E, a + T.size = E := ⟨_, rfl⟩
  have r1 : IntKind.i64.wrap ((a : Int) + (T.size : Int)) = (E : Int) := by rw [IntWalk.i64_in _ (by omega)]; omega
  rw [hE]
  clear hat htx hE
  obtain ⟨A, pd, bd⟩ := x
  dsimp only at hbd
  subst hbd
  unfold aggL
  dsimp only
  have hst := StB.new w (A : Int) (.slice oa n c) false
  have q0 : (0 : Int) ≤ (a : Int) := by omega
  have q1 : (a : Int) < (s.size : Int) := by omega
  have kb0 := hst.kb.cell 2
  have kb1 := hst.kb.cell 1
  have HM := Lib.hid hM
  have HBX : Hid (∀ g, (Value.slice oa n c).ownBlock = some g → g < w.heap.size) := Lib.hid (fun g hg => src_lt hM.src g hg)
  clear hM
  go_enter Tryz.func24, Tryz.ntmps24
  go_wp2_with fail
  obtain ⟨W, hW⟩ : ∃ X, (((w.alloc (.cells #[.int .i64 (A : Int), .slice oa n c, .bool false] 26)).alloc (.cells #[.int .i64 0, .int .i64 0, .int .i64 0, .bool false] 33)).alloc (.cells #[.int .i64 0, .slice none 0 0, .bool false] 26)) = X := ⟨_, rfl⟩
  obtain ⟨Bx, hBx⟩ : ∃ z, w.heap.size = z := ⟨_, rfl⟩
  rw [hW] at hst kb0 kb1 ⊢
  rw [hBx] at hst kb0 kb1 HBX ⊢
  clear hW hBx
  refine (HBL.out _).mono ?_
  rintro e w1 ⟨rfl, rfl⟩
  have a0 := hst.kb.cell 0
  have a1 := hst.kb.cell 1
  have a2 := hst.kb.cell 2
  have hzB : Bx + 3 ≤ w1.heap.size := by have := hst.kr.lt; omega
  go_wp2_with fail
  have ky := Blk.new w1 #[.int .i64 0, .slice oa n c, .bool false] 26
  have hst2 := hst.below ((Below.refl _ w1).alloc (Nat.le_refl _) (.cells #[.int .i64 0, .slice oa n c, .bool false] 26))
  obtain ⟨W2, hW2⟩ : ∃ X, w1.alloc (.cells #[.int .i64 0, .slice oa n c, .bool false] 26) = X := ⟨_, rfl⟩
  obtain ⟨By, hBy⟩ : ∃ z, w1.heap.size = z := ⟨_, rfl⟩
  rw [hW2] at ky hst2 ⊢
  rw [hBy] at ky hzB ⊢
  clear hW2 hBy hst a0 a1 a2 kb0 kb1
  obtain ⟨hst, hst2⟩ : StB w (A : Int) (.slice oa n c) false Bx W2 ∧ True := ⟨hst2, trivial⟩
  refine (HAT.out _).mono ?_
  rintro e w2 ⟨rfl, rfl⟩
  have y0 := ky.cell 0
  have y1 := ky.cell 1
  have y2 := ky.cell 2
  have yf0 := ky.frozen 0
  go_upto_region 21 with fail
  have ky2 := ky.set 0 (.int .i64 4)
  have hst3 : StB w (A : Int) (.slice oa n c) false Bx (w2.setCell ⟨By, 0, none⟩ (.int .i64 4)) := ⟨hst.kb.other 0 _ (by omega), hst.kt.other 0 _ (by omega), hst.kr.other 0 _ (by omega), hst.bl.setCell (p := ⟨By, 0, none⟩) (by have := hst.bx; show w.heap.size ≤ By; omega) _, hst.bx⟩
  obtain ⟨W3, hW3⟩ : ∃ X, w2.setCell ⟨By, 0, none⟩ (.int .i64 4) = X := ⟨_, rfl⟩
  rw [hW3] at ky2 hst3 ⊢
  clear hW3 hst ky y0 y1 y2 yf0
  obtain ⟨hst, hst3⟩ : StB w (A : Int) (.slice oa n c) false Bx W3 ∧ True := ⟨hst3, trivial⟩
  have ky : Blk W3 By #[.int .i64 4, .slice oa n c, .bool false] 26 := ky2
  clear ky2
  have y0 := ky.cell 0
  have y1 := ky.cell 1
  have y2 := ky.cell 2
  have yf0 := ky.frozen 0
  have t0 := hst.kt.cell 0
  have t1 := hst.kt.cell 1
  have t2 := hst.kt.cell 2
  have t3 := hst.kt.cell 3
  have tf0 := hst.kt.frozen 0
  have tf1 := hst.kt.frozen 1
  have tf2 := hst.kt.frozen 2
  have tf3 := hst.kt.frozen 3
  have r0 := hst.kr.cell 0
  have r1 := hst.kr.cell 1
  have r2 := hst.kr.cell 2
  have rf0 := hst.kr.frozen 0
  have rf1 := hst.kr.frozen 1
  have rf2 := hst.kr.frozen 2
  go_region_with (go_at_call 54; refine (HTX.out _).mono ?_; rintro e w4 ⟨rfl, rfl⟩)
  all_goals
    go_wp2
    obtain ⟨f6, f7, _, _⟩ := hst.fin (4 : Int) (a : Int) (E : Int) false (4 : Int) (.slice oa n c) false
    unfold StZ at f6 f7
    have h0 := f6.drew.cell 0
    have h1 := f6.drew.cell 1
    have h2 := f6.drew.cell 2
    have h3 := f6.drew.cell 3
    have i0 := f7.drew.cell 0
    have i1 := f7.drew.cell 1
    have i2 := f7.drew.cell 2
    refine bodyPost_ret (v := .tuple #[.agg #[.int .i64 (4 : Int), .int .i64 (a : Int), .int .i64 (E : Int), .bool false], .agg #[.int .i64 (4 : Int), (.slice oa n c), .bool false]]) (by simp [results, Tryz.results24, go_sem, h0, h1, h2, h3, i0, i1, i2]) rfl ?_
    exact hst.rsp (t := ⟨4, a, E, false⟩) (y := ⟨4, pd, false⟩) ((HM.out.below hst.bl).same rfl) (fun g hg => by have := HBX.out g hg; omega) ⟨1, rfl⟩ rfl (fun g hg => .inl hg)
set_option maxRecDepth 100000 in
set_option maxHeartbeats 4000000 in
theorem rst_five (hbd : x.body = false) (hbl : ∀ W, Calls Tryz.prog 52 #[.string s, .int .i64 (a : Int)] W fun e w' => e = .returned (.int .i64 (a : Int)) ∧ w' = W) (bb : Nat) (hby : by8 s a = bb) (hb10 : bb ≠ 10) (hb35 : bb ≠ 35) (hat : ∀ W, Calls Tryz.prog 53 #[.string s, .int .i64 (a : Int)] W fun e w' => e = .returned (.int .i64 (5 : Int)) ∧ w' = W) (T : ByteArray) (hT : T.size ≤ 3) (htx : ∀ W, Calls Tryz.prog 54 #[.int .i64 (5 : Int)] W fun e w' => e = .returned (.string T) ∧ w' = W) :
    Calls Tryz.prog 24 #[.string s, .int .i64 (a : Int), aggL x (.slice oa n c)] w fun e w' => RsP w (.slice oa n c) ⟨4, a, a + T.size, false⟩ ⟨5, x.pend, false⟩ e w' := by
  have HBL := Lib.hid hbl
  clear hbl
  have hix : ∀ hh : a < s.size, (s[a]'hh).toNat = bb := fun hh => by rw [← hby]; unfold by8; rw [bt_eq hh]
  have tb1 : ((bb : Int) == 10) = false := beq_eq_false_iff_ne.2 (by omega)
  have tb2 : ((bb : Int) == 35) = false := beq_eq_false_iff_ne.2 (by omega)
  clear hby
  have hi : ¬ (a : Int) < (a : Int) := by omega
  have HAT := Lib.hid hat
  have HTX := Lib.hid htx
  obtain ⟨E, hE⟩ : ∃ E, a + T.size = E := ⟨_, rfl⟩
  have r1 : IntKind.i64.wrap ((a : Int) + (T.size : Int)) = (E : Int) := by rw [IntWalk.i64_in _ (by omega)]; omega
  rw [hE]
  clear hat htx hE
  obtain ⟨A, pd, bd⟩ := x
  dsimp only at hbd
  subst hbd
  unfold aggL
  dsimp only
  have hst := StB.new w (A : Int) (.slice oa n c) false
  have q0 : (0 : Int) ≤ (a : Int) := by omega
  have q1 : (a : Int) < (s.size : Int) := by omega
  have kb0 := hst.kb.cell 2
  have kb1 := hst.kb.cell 1
  have HM := Lib.hid hM
  have HBX : Hid (∀ g, (Value.slice oa n c).ownBlock = some g → g < w.heap.size) := Lib.hid (fun g hg => src_lt hM.src g hg)
  clear hM
  go_enter Tryz.func24, Tryz.ntmps24
  go_wp2_with fail
  obtain ⟨W, hW⟩ : ∃ X, (((w.alloc (.cells #[.int .i64 (A : Int), .slice oa n c, .bool false] 26)).alloc (.cells #[.int .i64 0, .int .i64 0, .int .i64 0, .bool false] 33)).alloc (.cells #[.int .i64 0, .slice none 0 0, .bool false] 26)) = X := ⟨_, rfl⟩
  obtain ⟨Bx, hBx⟩ : ∃ z, w.heap.size = z := ⟨_, rfl⟩
  rw [hW] at hst kb0 kb1 ⊢
  rw [hBx] at hst kb0 kb1 HBX ⊢
  clear hW hBx
  refine (HBL.out _).mono ?_
  rintro e w1 ⟨rfl, rfl⟩
  have a0 := hst.kb.cell 0
  have a1 := hst.kb.cell 1
  have a2 := hst.kb.cell 2
  have hzB : Bx + 3 ≤ w1.heap.size := by have := hst.kr.lt; omega
  go_wp2_with fail
  have ky := Blk.new w1 #[.int .i64 0, .slice oa n c, .bool false] 26
  have hst2 := hst.below ((Below.refl _ w1).alloc (Nat.le_refl _) (.cells #[.int .i64 0, .slice oa n c, .bool false] 26))
  obtain ⟨W2, hW2⟩ : ∃ X, w1.alloc (.cells #[.int .i64 0, .slice oa n c, .bool false] 26) = X := ⟨_, rfl⟩
  obtain ⟨By, hBy⟩ : ∃ z, w1.heap.size = z := ⟨_, rfl⟩
  rw [hW2] at ky hst2 ⊢
  rw [hBy] at ky hzB ⊢
  clear hW2 hBy hst a0 a1 a2 kb0 kb1
  obtain ⟨hst, hst2⟩ : StB w (A : Int) (.slice oa n c) false Bx W2 ∧ True := ⟨hst2, trivial⟩
  refine (HAT.out _).mono ?_
  rintro e w2 ⟨rfl, rfl⟩
  have y0 := ky.cell 0
  have y1 := ky.cell 1
  have y2 := ky.cell 2
  have yf0 := ky.frozen 0
  go_upto_region 21 with fail
  have ky2 := ky.set 0 (.int .i64 5)
  have hst3 : StB w (A : Int) (.slice oa n c) false Bx (w2.setCell ⟨By, 0, none⟩ (.int .i64 5)) := ⟨hst.kb.other 0 _ (by omega), hst.kt.other 0 _ (by omega), hst.kr.other 0 _ (by omega), hst.bl.setCell (p := ⟨By, 0, none⟩) (by have := hst.bx; show w.heap.size ≤ By; omega) _, hst.bx⟩
  obtain ⟨W3, hW3⟩ : ∃ X, w2.setCell ⟨By, 0, none⟩ (.int .i64 5) = X := ⟨_, rfl⟩
  rw [hW3] at ky2 hst3 ⊢
  clear hW3 hst ky y0 y1 y2 yf0
  obtain ⟨hst, hst3⟩ : StB w (A : Int) (.slice oa n c) false Bx W3 ∧ True := ⟨hst3, trivial⟩
  have ky : Blk W3 By #[.int .i64 5, .slice oa n c, .bool false] 26 := ky2
  clear ky2
  have y0 := ky.cell 0
  have y1 := ky.cell 1
  have y2 := ky.cell 2
  have yf0 := ky.frozen 0
  have t0 := hst.kt.cell 0
  have t1 := hst.kt.cell 1
  have t2 := hst.kt.cell 2
  have t3 := hst.kt.cell 3
  have tf0 := hst.kt.frozen 0
  have tf1 := hst.kt.frozen 1
  have tf2 := hst.kt.frozen 2
  have tf3 := hst.kt.frozen 3
  have r0 := hst.kr.cell 0
  have r1 := hst.kr.cell 1
  have r2 := hst.kr.cell 2
  have rf0 := hst.kr.frozen 0
  have rf1 := hst.kr.frozen 1
  have rf2 := hst.kr.frozen 2
  go_region_with (go_at_call 54; refine (HTX.out _).mono ?_; rintro e w4 ⟨rfl, rfl⟩)
  all_goals
    go_wp2
    obtain ⟨f6, f7, _, _⟩ := hst.fin (4 : Int) (a : Int) (E : Int) false (5 : Int) (.slice oa n c) false
    unfold StZ at f6 f7
    have h0 := f6.drew.cell 0
    have h1 := f6.drew.cell 1
    have h2 := f6.drew.cell 2
    have h3 := f6.drew.cell 3
    have i0 := f7.drew.cell 0
    have i1 := f7.drew.cell 1
    have i2 := f7.drew.cell 2
    refine bodyPost_ret (v := .tuple #[.agg #[.int .i64 (4 : Int), .int .i64 (a : Int), .int .i64 (E : Int), .bool false], .agg #[.int .i64 (5 : Int), (.slice oa n c), .bool false]]) (by simp [results, Tryz.results24, go_sem, h0, h1, h2, h3, i0, i1, i2]) rfl ?_
    exact hst.rsp (t := ⟨4, a, E, false⟩) (y := ⟨5, pd, false⟩) ((HM.out.below hst.bl).same rfl) (fun g hg => by have := HBX.out g hg; omega) ⟨1, rfl⟩ rfl (fun g hg => .inl hg)
set_option maxRecDepth 100000 in
set_option maxHeartbeats 4000000 in
theorem rst_oper (hbd : x.body = false) (hbl : ∀ W, Calls Tryz.prog 52 #[.string s, .int .i64 (a : Int)] W fun e w' => e = .returned (.int .i64 (a : Int)) ∧ w' = W) (bb : Nat) (hby : by8 s a = bb) (hb10 : bb ≠ 10) (hb35 : bb ≠ 35) (o : Nat) (ho0 : 0 < o) (ho4 : o ≠ 4) (ho5 : o ≠ 5) (hat : ∀ W, Calls Tryz.prog 53 #[.string s, .int .i64 (a : Int)] W fun e w' => e = .returned (.int .i64 (o : Int)) ∧ w' = W) (T : ByteArray) (hT : T.size ≤ 3) (htx : ∀ W, Calls Tryz.prog 54 #[.int .i64 (o : Int)] W fun e w' => e = .returned (.string T) ∧ w' = W) :
    Calls Tryz.prog 24 #[.string s, .int .i64 (a : Int), aggL x (.slice oa n c)] w fun e w' => RsP w (.slice oa n c) ⟨4, a, a + T.size, false⟩ ⟨0, x.pend, false⟩ e w' := by
  have HBL := Lib.hid hbl
  clear hbl
  have hix : ∀ hh : a < s.size, (s[a]'hh).toNat = bb := fun hh => by rw [← hby]; unfold by8; rw [bt_eq hh]
  have tb1 : ((bb : Int) == 10) = false := beq_eq_false_iff_ne.2 (by omega)
  have tb2 : ((bb : Int) == 35) = false := beq_eq_false_iff_ne.2 (by omega)
  clear hby
  have hi : ¬ (a : Int) < (a : Int) := by omega
  have HAT := Lib.hid hat
  have HTX := Lib.hid htx
  obtain ⟨E, hE⟩ : ∃ E, a + T.size = E := ⟨_, rfl⟩
  have r1 : IntKind.i64.wrap ((a : Int) + (T.size : Int)) = (E : Int) := by rw [IntWalk.i64_in _ (by omega)]; omega
  rw [hE]
  clear hat htx hE
  have to0 : (0 : Int) < (o : Int) := by omega
  have to4 : ((o : Int) == 4) = false := beq_eq_false_iff_ne.2 (by omega)
  have to5 : ((o : Int) == 5) = false := beq_eq_false_iff_ne.2 (by omega)
  obtain ⟨A, pd, bd⟩ := x
  dsimp only at hbd
  subst hbd
  unfold aggL
  dsimp only
  have hst := StB.new w (A : Int) (.slice oa n c) false
  have q0 : (0 : Int) ≤ (a : Int) := by omega
  have q1 : (a : Int) < (s.size : Int) := by omega
  have kb0 := hst.kb.cell 2
  have kb1 := hst.kb.cell 1
  have HM := Lib.hid hM
  have HBX : Hid (∀ g, (Value.slice oa n c).ownBlock = some g → g < w.heap.size) := Lib.hid (fun g hg => src_lt hM.src g hg)
  clear hM
  go_enter Tryz.func24, Tryz.ntmps24
  go_wp2_with fail
  obtain ⟨W, hW⟩ : ∃ X, (((w.alloc (.cells #[.int .i64 (A : Int), .slice oa n c, .bool false] 26)).alloc (.cells #[.int .i64 0, .int .i64 0, .int .i64 0, .bool false] 33)).alloc (.cells #[.int .i64 0, .slice none 0 0, .bool false] 26)) = X := ⟨_, rfl⟩
  obtain ⟨Bx, hBx⟩ : ∃ z, w.heap.size = z := ⟨_, rfl⟩
  rw [hW] at hst kb0 kb1 ⊢
  rw [hBx] at hst kb0 kb1 HBX ⊢
  clear hW hBx
  refine (HBL.out _).mono ?_
  rintro e w1 ⟨rfl, rfl⟩
  have a0 := hst.kb.cell 0
  have a1 := hst.kb.cell 1
  have a2 := hst.kb.cell 2
  have hzB : Bx + 3 ≤ w1.heap.size := by have := hst.kr.lt; omega
  go_wp2_with fail
  have ky := Blk.new w1 #[.int .i64 0, .slice oa n c, .bool false] 26
  have hst2 := hst.below ((Below.refl _ w1).alloc (Nat.le_refl _) (.cells #[.int .i64 0, .slice oa n c, .bool false] 26))
  obtain ⟨W2, hW2⟩ : ∃ X, w1.alloc (.cells #[.int .i64 0, .slice oa n c, .bool false] 26) = X := ⟨_, rfl⟩
  obtain ⟨By, hBy⟩ : ∃ z, w1.heap.size = z := ⟨_, rfl⟩
  rw [hW2] at ky hst2 ⊢
  rw [hBy] at ky hzB ⊢
  clear hW2 hBy hst a0 a1 a2 kb0 kb1
  obtain ⟨hst, hst2⟩ : StB w (A : Int) (.slice oa n c) false Bx W2 ∧ True := ⟨hst2, trivial⟩
  refine (HAT.out _).mono ?_
  rintro e w2 ⟨rfl, rfl⟩
  have y0 := ky.cell 0
  have y1 := ky.cell 1
  have y2 := ky.cell 2
  have yf0 := ky.frozen 0
  go_upto_region 21 with fail
  have t0 := hst.kt.cell 0
  have t1 := hst.kt.cell 1
  have t2 := hst.kt.cell 2
  have t3 := hst.kt.cell 3
  have tf0 := hst.kt.frozen 0
  have tf1 := hst.kt.frozen 1
  have tf2 := hst.kt.frozen 2
  have tf3 := hst.kt.frozen 3
  have r0 := hst.kr.cell 0
  have r1 := hst.kr.cell 1
  have r2 := hst.kr.cell 2
  have rf0 := hst.kr.frozen 0
  have rf1 := hst.kr.frozen 1
  have rf2 := hst.kr.frozen 2
  go_region_with (go_at_call 54; refine (HTX.out _).mono ?_; rintro e w4 ⟨rfl, rfl⟩)
  all_goals
    go_wp2
    obtain ⟨f6, f7, _, _⟩ := hst.fin (4 : Int) (a : Int) (E : Int) false (0 : Int) (.slice oa n c) false
    unfold StZ at f6 f7
    have h0 := f6.drew.cell 0
    have h1 := f6.drew.cell 1
    have h2 := f6.drew.cell 2
    have h3 := f6.drew.cell 3
    have i0 := f7.drew.cell 0
    have i1 := f7.drew.cell 1
    have i2 := f7.drew.cell 2
    refine bodyPost_ret (v := .tuple #[.agg #[.int .i64 (4 : Int), .int .i64 (a : Int), .int .i64 (E : Int), .bool false], .agg #[.int .i64 (0 : Int), (.slice oa n c), .bool false]]) (by simp [results, Tryz.results24, go_sem, h0, h1, h2, h3, i0, i1, i2]) rfl ?_
    exact hst.rsp (t := ⟨4, a, E, false⟩) (y := ⟨0, pd, false⟩) ((HM.out.below hst.bl).same rfl) (fun g hg => by have := HBX.out g hg; omega) ⟨1, rfl⟩ rfl (fun g hg => .inl hg)
set_option maxRecDepth 100000 in
set_option maxHeartbeats 4000000 in
theorem rst_number (hbd : x.body = false) (hbl : ∀ W, Calls Tryz.prog 52 #[.string s, .int .i64 (a : Int)] W fun e w' => e = .returned (.int .i64 (a : Int)) ∧ w' = W) (bb : Nat) (hby : by8 s a = bb) (hb10 : bb ≠ 10) (hb35 : bb ≠ 35) (hat : ∀ W, Calls Tryz.prog 53 #[.string s, .int .i64 (a : Int)] W fun e w' => e = .returned (.int .i64 (0 : Int)) ∧ w' = W) (R : Nat) (hRa : a ≤ R) (hRs : R ≤ s.size) (hR : ∀ b, a ≤ b → b ≤ s.size → (∀ i, a ≤ i → i < b → cls (by8 s i) = 6) → (b < s.size → cls (by8 s b) ≠ 6) → b = R) (h1 : a < R) (h2 : R < s.size) (b2 : Nat) (hb2 : by8 s R = b2) (h3 : b2 = 60 ∨ b2 = 62) :
    Calls Tryz.prog 24 #[.string s, .int .i64 (a : Int), aggL x (.slice oa n c)] w fun e w' => RsP w (.slice oa n c) ⟨5, a, R, false⟩ ⟨0, x.pend, false⟩ e w' := by
  have HBL := Lib.hid hbl
  clear hbl
  have hix : ∀ hh : a < s.size, (s[a]'hh).toNat = bb := fun hh => by rw [← hby]; unfold by8; rw [bt_eq hh]
  have tb1 : ((bb : Int) == 10) = false := beq_eq_false_iff_ne.2 (by omega)
  have tb2 : ((bb : Int) == 35) = false := beq_eq_false_iff_ne.2 (by omega)
  clear hby
  have hi : ¬ (a : Int) < (a : Int) := by omega
  have HAT := Lib.hid hat
  have HR := Lib.hid hR
  clear hat hR
  have p1 : (a : Int) ≤ (R : Int) := by omega
  have hixR : ∀ hh : R < s.size, (s[R]'hh).toNat = b2 := fun hh => by rw [← hb2]; unfold by8; rw [bt_eq hh]
  clear hb2
  have p2 : (a : Int) < (R : Int) := by omega
  have p3 : (R : Int) < (s.size : Int) := by omega
  have p4 : (0 : Int) ≤ (R : Int) := by omega
  obtain ⟨A, pd, bd⟩ := x
  dsimp only at hbd
  subst hbd
  unfold aggL
  dsimp only
  have hst := StB.new w (A : Int) (.slice oa n c) false
  have q0 : (0 : Int) ≤ (a : Int) := by omega
  have q1 : (a : Int) < (s.size : Int) := by omega
  have kb0 := hst.kb.cell 2
  have kb1 := hst.kb.cell 1
  have HM := Lib.hid hM
  have HBX : Hid (∀ g, (Value.slice oa n c).ownBlock = some g → g < w.heap.size) := Lib.hid (fun g hg => src_lt hM.src g hg)
  clear hM
  go_enter Tryz.func24, Tryz.ntmps24
  go_wp2_with fail
  obtain ⟨W, hW⟩ : ∃ X, (((w.alloc (.cells #[.int .i64 (A : Int), .slice oa n c, .bool false] 26)).alloc (.cells #[.int .i64 0, .int .i64 0, .int .i64 0, .bool false] 33)).alloc (.cells #[.int .i64 0, .slice none 0 0, .bool false] 26)) = X := ⟨_, rfl⟩
  obtain ⟨Bx, hBx⟩ : ∃ z, w.heap.size = z := ⟨_, rfl⟩
  rw [hW] at hst kb0 kb1 ⊢
  rw [hBx] at hst kb0 kb1 HBX ⊢
  clear hW hBx
  refine (HBL.out _).mono ?_
  rintro e w1 ⟨rfl, rfl⟩
  have a0 := hst.kb.cell 0
  have a1 := hst.kb.cell 1
  have a2 := hst.kb.cell 2
  have hzB : Bx + 3 ≤ w1.heap.size := by have := hst.kr.lt; omega
  go_wp2_with fail
  have ky := Blk.new w1 #[.int .i64 0, .slice oa n c, .bool false] 26
  have hst2 := hst.below ((Below.refl _ w1).alloc (Nat.le_refl _) (.cells #[.int .i64 0, .slice oa n c, .bool false] 26))
  obtain ⟨W2, hW2⟩ : ∃ X, w1.alloc (.cells #[.int .i64 0, .slice oa n c, .bool false] 26) = X := ⟨_, rfl⟩
  obtain ⟨By, hBy⟩ : ∃ z, w1.heap.size = z := ⟨_, rfl⟩
  rw [hW2] at ky hst2 ⊢
  rw [hBy] at ky hzB ⊢
  clear hW2 hBy hst a0 a1 a2 kb0 kb1
  obtain ⟨hst, hst2⟩ : StB w (A : Int) (.slice oa n c) false Bx W2 ∧ True := ⟨hst2, trivial⟩
  refine (HAT.out _).mono ?_
  rintro e w2 ⟨rfl, rfl⟩
  go_upto_block 2 with fail
  go_cut [14] from 118 to 130 (fun v14 wx => v14 = .int .i64 (R : Int) ∧ wx = w2)
  case first =>
    go_wp2
    go_loopw [14] (fun v wr => ∃ b : Nat, a ≤ b ∧ b ≤ s.size ∧ v = .int .i64 (b : Int) ∧ (∀ i, a ≤ i → i < b → cls (by8 s i) = 6) ∧ wr = w2) (fun v _ => s.size - (intOf v).toNat)
    case atStart => exact ⟨a, Nat.le_refl _, by omega, rfl, fun i h1 h2 => by omega, rfl⟩
    case round =>
      obtain ⟨b, hab, hbs, rfl, hin, rfl⟩ := hrel
      have HIN := Lib.hid hin
      clear hin
      have u0 : (0 : Int) ≤ (b : Int) := by omega
      by_cases hlt : b < s.size
      · have u1 : (b : Int) < (s.size : Int) := by omega
        obtain ⟨cc, hcc⟩ : ∃ cc, by8 s b = cc := ⟨_, rfl⟩
        have hixb : ∀ hh : b < s.size, (s[b]'hh).toNat = cc := fun hh => by rw [← hcc]; unfold by8; rw [bt_eq hh]
        obtain ⟨k6, hk6⟩ : ∃ k6, cls cc = k6 := ⟨_, rfl⟩
        have hca := fun W => class_any cc W
        rw [hk6] at hca
        have HCA := Lib.hid hca
        have HCC := Lib.hid hcc
        have HK6 := Lib.hid hk6
        clear hcc hk6 hca
        by_cases h6 : k6 = 6
        · have H6 : Hid (cls cc = 6) := Lib.hid (HK6.out.trans h6)
          subst h6
          go_wp2_with fail
          refine (HCA.out _).mono ?_
          rintro e w5 ⟨rfl, rfl⟩
          go_wp2
          go_roundw
          case rel =>
            refine ⟨b + 1, by omega, by omega, by go_num, fun i h1 h2 => ?_, by first | rfl | trivial⟩
            by_cases e : i = b
            · rw [e, HCC.out]; exact H6.out
            · exact HIN.out i h1 (by omega)
          case measure => simp [intOf]; omega
        · have t6 : ((k6 : Int) == 6) = false := beq_eq_false_iff_ne.2 (by omega)
          have hbR : b = R := HR.out b hab hbs HIN.out (fun _ => by rw [HCC.out, HK6.out]; exact h6)
          have HBR := Lib.hid hbR
          clear hbR h6
          go_wp2_with fail
          refine (HCA.out _).mono ?_
          rintro e w5 ⟨rfl, rfl⟩
          go_wp2
          go_meet
          case rel => exact ⟨by rw [HBR.out], by first | rfl | trivial⟩
      · have hbR : b = R := HR.out b hab hbs HIN.out (fun h => absurd h hlt)
        have HBR := Lib.hid hbR
        have u1 : ¬ (b : Int) < (s.size : Int) := by omega
        clear hbR hlt
        go_wp2
        go_meet
        case rel => exact ⟨by rw [HBR.out], by first | rfl | trivial⟩
  case rest =>
    obtain ⟨hv, hw⟩ := hcut
    subst hv
    subst hw
    have y0 := ky.cell 0
    have y1 := ky.cell 1
    have y2 := ky.cell 2
    have yf0 := ky.frozen 0
    have t0 := hst.kt.cell 0
    have t1 := hst.kt.cell 1
    have t2 := hst.kt.cell 2
    have t3 := hst.kt.cell 3
    have tf0 := hst.kt.frozen 0
    have tf1 := hst.kt.frozen 1
    have tf2 := hst.kt.frozen 2
    have tf3 := hst.kt.frozen 3
    have r0 := hst.kr.cell 0
    have r1 := hst.kr.cell 1
    have r2 := hst.kr.cell 2
    have rf0 := hst.kr.frozen 0
    have rf1 := hst.kr.frozen 1
    have rf2 := hst.kr.frozen 2
    rcases h3 with rfl | rfl
    all_goals
      go_wp2
      go_region
      go_wp2
      obtain ⟨f6, f7, _, _⟩ := hst.fin (5 : Int) (a : Int) (R : Int) false (0 : Int) (.slice oa n c) false
      unfold StZ at f6 f7
      have h0 := f6.drew.cell 0
      have h1 := f6.drew.cell 1
      have h2 := f6.drew.cell 2
      have h3 := f6.drew.cell 3
      have i0 := f7.drew.cell 0
      have i1 := f7.drew.cell 1
      have i2 := f7.drew.cell 2
      refine bodyPost_ret (v := .tuple #[.agg #[.int .i64 (5 : Int), .int .i64 (a : Int), .int .i64 (R : Int), .bool false], .agg #[.int .i64 (0 : Int), (.slice oa n c), .bool false]]) (by simp [results, Tryz.results24, go_sem, h0, h1, h2, h3, i0, i1, i2]) rfl ?_
      exact hst.rsp (t := ⟨5, a, R, false⟩) (y := ⟨0, pd, false⟩) ((HM.out.below hst.bl).same rfl) (fun g hg => by have := HBX.out g hg; omega) ⟨1, rfl⟩ rfl (fun g hg => .inl hg)
set_option maxRecDepth 100000 in
set_option maxHeartbeats 4000000 in
theorem rst_word0 (hbd : x.body = false) (hA0 : x.await = 0) (hbl : ∀ W, Calls Tryz.prog 52 #[.string s, .int .i64 (a : Int)] W fun e w' => e = .returned (.int .i64 (a : Int)) ∧ w' = W) (bb : Nat) (hby : by8 s a = bb) (hb10 : bb ≠ 10) (hb35 : bb ≠ 35) (hat : ∀ W, Calls Tryz.prog 53 #[.string s, .int .i64 (a : Int)] W fun e w' => e = .returned (.int .i64 (0 : Int)) ∧ w' = W) (R : Nat) (hRa : a ≤ R) (hRs : R ≤ s.size) (hR : ∀ b, a ≤ b → b ≤ s.size → (∀ i, a ≤ i → i < b → cls (by8 s i) = 6) → (b < s.size → cls (by8 s b) ≠ 6) → b = R) (hnum : a < R → R < s.size → by8 s R ≠ 60 ∧ by8 s R ≠ 62) (E : Nat) (hE1 : a < E) (hE2 : E ≤ s.size) (op : Bool) (hend : ∀ W, Calls Tryz.prog 56 #[.string s, .int .i64 (a : Int)] W fun e w' => e = .returned (.int .i64 (E : Int)) ∧ Below W.heap.size W w') (hshut : ∀ W, Calls Tryz.prog 58 #[.string (s.extract a E)] W fun e w' => e = .returned (.bool (!op)) ∧ Below W.heap.size W w') :
    Calls Tryz.prog 24 #[.string s, .int .i64 (a : Int), aggL x (.slice oa n c)] w fun e w' => RsP w (.slice oa n c) ⟨6, a, E, op⟩ ⟨0, x.pend, false⟩ e w' := by
  have HBL := Lib.hid hbl
  clear hbl
  have hix : ∀ hh : a < s.size, (s[a]'hh).toNat = bb := fun hh => by rw [← hby]; unfold by8; rw [bt_eq hh]
  have tb1 : ((bb : Int) == 10) = false := beq_eq_false_iff_ne.2 (by omega)
  have tb2 : ((bb : Int) == 35) = false := beq_eq_false_iff_ne.2 (by omega)
  clear hby
  have hi : ¬ (a : Int) < (a : Int) := by omega
  have HAT := Lib.hid hat
  have HR := Lib.hid hR
  clear hat hR
  have p1 : (a : Int) ≤ (R : Int) := by omega
  have HEND := Lib.hid hend
  have HNUM := Lib.hid hnum
  have hsh : ∀ W : World, Calls Tryz.prog 58 #[.string (s.extract a E)] W fun e w' => ∃ v, e = .returned v ∧ (v = .bool (!op) ∧ Below W.heap.size W w') := fun W => (hshut W).mono (fun e w' h => ⟨_, h.1, rfl, h.2⟩)
  have HSH := Lib.hid hsh
  have u0 : (a : Int) ≤ (E : Int) := by omega
  have u1 : (E : Int) ≤ (s.size : Int) := by omega
  obtain ⟨X, hX⟩ : ∃ X, s.extract a E = X := ⟨_, rfl⟩
  rw [hX] at HSH
  have HXX := Lib.hid hX
  clear hend hnum hshut hsh
  have HA0 := Lib.hid hA0
  clear hA0
  obtain ⟨A, pd, bd⟩ := x
  dsimp only at hbd
  subst hbd
  unfold aggL
  dsimp only
  have hst := StB.new w (A : Int) (.slice oa n c) false
  have q0 : (0 : Int) ≤ (a : Int) := by omega
  have q1 : (a : Int) < (s.size : Int) := by omega
  have kb0 := hst.kb.cell 2
  have kb1 := hst.kb.cell 1
  have HM := Lib.hid hM
  have HBX : Hid (∀ g, (Value.slice oa n c).ownBlock = some g → g < w.heap.size) := Lib.hid (fun g hg => src_lt hM.src g hg)
  clear hM
  go_enter Tryz.func24, Tryz.ntmps24
  go_wp2_with fail
  obtain ⟨W, hW⟩ : ∃ X, (((w.alloc (.cells #[.int .i64 (A : Int), .slice oa n c, .bool false] 26)).alloc (.cells #[.int .i64 0, .int .i64 0, .int .i64 0, .bool false] 33)).alloc (.cells #[.int .i64 0, .slice none 0 0, .bool false] 26)) = X := ⟨_, rfl⟩
  obtain ⟨Bx, hBx⟩ : ∃ z, w.heap.size = z := ⟨_, rfl⟩
  rw [hW] at hst kb0 kb1 ⊢
  rw [hBx] at hst kb0 kb1 HBX ⊢
  clear hW hBx
  refine (HBL.out _).mono ?_
  rintro e w1 ⟨rfl, rfl⟩
  have a0 := hst.kb.cell 0
  have a1 := hst.kb.cell 1
  have a2 := hst.kb.cell 2
  have hzB : Bx + 3 ≤ w1.heap.size := by have := hst.kr.lt; omega
  go_wp2_with fail
  have ky := Blk.new w1 #[.int .i64 0, .slice oa n c, .bool false] 26
  have hst2 := hst.below ((Below.refl _ w1).alloc (Nat.le_refl _) (.cells #[.int .i64 0, .slice oa n c, .bool false] 26))
  obtain ⟨W2, hW2⟩ : ∃ X, w1.alloc (.cells #[.int .i64 0, .slice oa n c, .bool false] 26) = X := ⟨_, rfl⟩
  obtain ⟨By, hBy⟩ : ∃ z, w1.heap.size = z := ⟨_, rfl⟩
  rw [hW2] at ky hst2 ⊢
  rw [hBy] at ky hzB ⊢
  clear hW2 hBy hst a0 a1 a2 kb0 kb1
  obtain ⟨hst, hst2⟩ : StB w (A : Int) (.slice oa n c) false Bx W2 ∧ True := ⟨hst2, trivial⟩
  refine (HAT.out _).mono ?_
  rintro e w2 ⟨rfl, rfl⟩
  go_upto_block 2 with fail
  go_cut [14] from 118 to 130 (fun v14 wx => v14 = .int .i64 (R : Int) ∧ wx = w2)
  case first =>
    go_wp2
    go_loopw [14] (fun v wr => ∃ b : Nat, a ≤ b ∧ b ≤ s.size ∧ v = .int .i64 (b : Int) ∧ (∀ i, a ≤ i → i < b → cls (by8 s i) = 6) ∧ wr = w2) (fun v _ => s.size - (intOf v).toNat)
    case atStart => exact ⟨a, Nat.le_refl _, by omega, rfl, fun i h1 h2 => by omega, rfl⟩
    case round =>
      obtain ⟨b, hab, hbs, rfl, hin, rfl⟩ := hrel
      have HIN := Lib.hid hin
      clear hin
      have u0 : (0 : Int) ≤ (b : Int) := by omega
      by_cases hlt : b < s.size
      · have u1 : (b : Int) < (s.size : Int) := by omega
        obtain ⟨cc, hcc⟩ : ∃ cc, by8 s b = cc := ⟨_, rfl⟩
        have hixb : ∀ hh : b < s.size, (s[b]'hh).toNat = cc := fun hh => by rw [← hcc]; unfold by8; rw [bt_eq hh]
        obtain ⟨k6, hk6⟩ : ∃ k6, cls cc = k6 := ⟨_, rfl⟩
        have hca := fun W => class_any cc W
        rw [hk6] at hca
        have HCA := Lib.hid hca
        have HCC := Lib.hid hcc
        have HK6 := Lib.hid hk6
        clear hcc hk6 hca
        by_cases h6 : k6 = 6
        · have H6 : Hid (cls cc = 6) := Lib.hid (HK6.out.trans h6)
          subst h6
          go_wp2_with fail
          refine (HCA.out _).mono ?_
          rintro e w5 ⟨rfl, rfl⟩
          go_wp2
          go_roundw
          case rel =>
            refine ⟨b + 1, by omega, by omega, by go_num, fun i h1 h2 => ?_, by first | rfl | trivial⟩
            by_cases e : i = b
            · rw [e, HCC.out]; exact H6.out
            · exact HIN.out i h1 (by omega)
          case measure => simp [intOf]; omega
        · have t6 : ((k6 : Int) == 6) = false := beq_eq_false_iff_ne.2 (by omega)
          have hbR : b = R := HR.out b hab hbs HIN.out (fun _ => by rw [HCC.out, HK6.out]; exact h6)
          have HBR := Lib.hid hbR
          clear hbR h6
          go_wp2_with fail
          refine (HCA.out _).mono ?_
          rintro e w5 ⟨rfl, rfl⟩
          go_wp2
          go_meet
          case rel => exact ⟨by rw [HBR.out], by first | rfl | trivial⟩
      · have hbR : b = R := HR.out b hab hbs HIN.out (fun h => absurd h hlt)
        have HBR := Lib.hid hbR
        have u1 : ¬ (b : Int) < (s.size : Int) := by omega
        clear hbR hlt
        go_wp2
        go_meet
        case rel => exact ⟨by rw [HBR.out], by first | rfl | trivial⟩
  case rest =>
    obtain ⟨hv, hw⟩ := hcut
    subst hv
    subst hw
    go_upto_region 25 with fail
    go_cut [151] from 131 to 151 (fun v151 wx => v151 = .bool false ∧ wx = wc)
    case first =>
      by_cases h1 : a < R
      · have p2 : (a : Int) < (R : Int) := by omega
        by_cases h2 : R < s.size
        · have p3 : (R : Int) < (s.size : Int) := by omega
          have p4 : (0 : Int) ≤ (R : Int) := by omega
          obtain ⟨b2, hb2⟩ : ∃ b2, by8 s R = b2 := ⟨_, rfl⟩
          have hixR : ∀ hh : R < s.size, (s[R]'hh).toNat = b2 := fun hh => by rw [← hb2]; unfold by8; rw [bt_eq hh]
          have hnb := HNUM.out h1 h2
          rw [hb2] at hnb
          have t60 : ((b2 : Int) == 60) = false := beq_eq_false_iff_ne.2 (by omega)
          have t62 : ((b2 : Int) == 62) = false := beq_eq_false_iff_ne.2 (by omega)
          clear hb2 hnb
          go_wp2
          go_meet
          case rel => exact ⟨by first | rfl | simp, by first | rfl | trivial⟩
        · have p3 : ¬ (R : Int) < (s.size : Int) := by omega
          go_wp2
          go_meet
          case rel => exact ⟨by first | rfl | simp, by first | rfl | trivial⟩
      · have p2 : ¬ (a : Int) < (R : Int) := by omega
        go_wp2
        go_meet
        case rel => exact ⟨by first | rfl | simp, by first | rfl | trivial⟩
    case rest =>
      obtain ⟨hv, hw⟩ := hcut
      subst hv
      subst hw
      go_wp2_with fail
      refine (HEND.out _).mono ?_
      rintro e w4 ⟨rfl, hb4⟩
      have hst4 := hst.below hb4
      have ky4 := ky.below hb4
      have a0 : w4.cell? ⟨Bx, 0, none⟩ = some (.int .i64 0) := by have := hst4.kb.cell 0; rw [HA0.out] at this; exact this
      go_upto_region 31 with fail
      have hzB4 : Bx + 3 ≤ By := hzB
      have y0 := ky4.drew.cell 0
      have y1 := ky4.drew.cell 1
      have y2 := ky4.drew.cell 2
      have t0 := hst4.kt.drew.cell 0
      have t1 := hst4.kt.drew.cell 1
      have t2 := hst4.kt.drew.cell 2
      have t3 := hst4.kt.drew.cell 3
      have tf0 := hst4.kt.drew.frozen 0
      have tf1 := hst4.kt.drew.frozen 1
      have tf2 := hst4.kt.drew.frozen 2
      have tf3 := hst4.kt.drew.frozen 3
      have r0 := hst4.kr.drew.cell 0
      have r1 := hst4.kr.drew.cell 1
      have r2 := hst4.kr.drew.cell 2
      have rf0 := hst4.kr.drew.frozen 0
      have rf1 := hst4.kr.drew.frozen 1
      have rf2 := hst4.kr.drew.frozen 2
      go_region_held3 (fun w' => w'.cell? ⟨By, 0, none⟩ = some (.int .i64 0) ∧ w'.cell? ⟨By, 1, none⟩ = some (.slice oa n c) ∧ w'.cell? ⟨By, 2, none⟩ = some (.bool false)) (((repeat (refine keepS3 (by omega) ?_)); first | exact ⟨y0, y1, y2⟩ | exact ⟨ky5.cell 0, ky5.cell 1, ky5.cell 2⟩)) (first
        | (refine step_call (by rfl) Tryz.func58 (by kernel_rfl) (by kernel_rfl) _ _ (by rfl) [.string X] (by rfl) _ (HSH.out _) ?_; intro v w5 hh; obtain ⟨hv, hb5⟩ := hh; subst hv; clear t0 t1 t2 t3 tf0 tf1 tf2 tf3 r0 r1 r2 rf0 rf1 rf2; have ky5 := ky4.drew.below hb5; have kt5 := hst4.kt.drew.below hb5; have kr5 := hst4.kr.drew.below hb5; have u0 := kt5.cell 0; have u1 := kt5.cell 1; have u2 := kt5.cell 2; have u3 := kt5.cell 3; have uf0 := kt5.frozen 0; have uf1 := kt5.frozen 1; have uf2 := kt5.frozen 2; have uf3 := kt5.frozen 3; have v0 := kr5.cell 0; have v1 := kr5.cell 1; have v2 := kr5.cell 2; have vf0 := kr5.frozen 0; have vf1 := kr5.frozen 1; have vf2 := kr5.frozen 2))
      go_wp2
      have hst5 := hst4.below ((Below.refl _ _).drew.trans hb5)
      clear hst
      obtain ⟨hst, _⟩ : StB w (A : Int) (.slice oa n c) false Bx w5 ∧ True := ⟨hst5, trivial⟩
      obtain ⟨f6, f7, _, _⟩ := hst.fin (6 : Int) (a : Int) (E : Int) op (0 : Int) (.slice oa n c) false
      unfold StZ at f6 f7
      have h0 := f6.cell 0
      have h1 := f6.cell 1
      have h2 := f6.cell 2
      have h3 := f6.cell 3
      have i0 := f7.cell 0
      have i1 := f7.cell 1
      have i2 := f7.cell 2
      refine bodyPost_ret (v := .tuple #[.agg #[.int .i64 (6 : Int), .int .i64 (a : Int), .int .i64 (E : Int), .bool op], .agg #[.int .i64 (0 : Int), (.slice oa n c), .bool false]]) (by simp [results, Tryz.results24, go_sem, h0, h1, h2, h3, i0, i1, i2]) rfl ?_
      exact hst.rsp (t := ⟨6, a, E, op⟩) (y := ⟨0, pd, false⟩) ((HM.out.below hst.bl).same rfl) (fun g hg => by have := HBX.out g hg; omega) (Drew.refl _) rfl (fun g hg => .inl hg)
set_option maxRecDepth 100000 in
set_option maxHeartbeats 4000000 in
theorem rst_word (hbd : x.body = false) (hA0 : x.await ≠ 0) (hA1 : x.await ≤ 1000) (hpl : x.pend.length ≤ 900000) (hbl : ∀ W, Calls Tryz.prog 52 #[.string s, .int .i64 (a : Int)] W fun e w' => e = .returned (.int .i64 (a : Int)) ∧ w' = W) (bb : Nat) (hby : by8 s a = bb) (hb10 : bb ≠ 10) (hb35 : bb ≠ 35) (hat : ∀ W, Calls Tryz.prog 53 #[.string s, .int .i64 (a : Int)] W fun e w' => e = .returned (.int .i64 (0 : Int)) ∧ w' = W) (R : Nat) (hRa : a ≤ R) (hRs : R ≤ s.size) (hR : ∀ b, a ≤ b → b ≤ s.size → (∀ i, a ≤ i → i < b → cls (by8 s i) = 6) → (b < s.size → cls (by8 s b) ≠ 6) → b = R) (hnum : a < R → R < s.size → by8 s R ≠ 60 ∧ by8 s R ≠ 62) (E : Nat) (hE1 : a < E) (hE2 : E ≤ s.size) (op : Bool) (hend : ∀ W, Calls Tryz.prog 56 #[.string s, .int .i64 (a : Int)] W fun e w' => e = .returned (.int .i64 (E : Int)) ∧ Below W.heap.size W w') (hshut : ∀ W, Calls Tryz.prog 58 #[.string (s.extract a E)] W fun e w' => e = .returned (.bool (!op)) ∧ Below W.heap.size W w') (BT : ByteArray) (hbare : ∀ W, Calls Tryz.prog 57 #[.string (s.extract a E)] W fun e w' => e = .returned (.string BT) ∧ Below W.heap.size W w') :
    Calls Tryz.prog 24 #[.string s, .int .i64 (a : Int), aggL x (.slice oa n c)] w fun e w' => RsP w (.slice oa n c) ⟨6, a, E, op⟩ ⟨0, x.pend ++ [⟨BT, decide (x.await = 5)⟩], false⟩ e w' := by
  have HBL := Lib.hid hbl
  clear hbl
  have hix : ∀ hh : a < s.size, (s[a]'hh).toNat = bb := fun hh => by rw [← hby]; unfold by8; rw [bt_eq hh]
  have tb1 : ((bb : Int) == 10) = false := beq_eq_false_iff_ne.2 (by omega)
  have tb2 : ((bb : Int) == 35) = false := beq_eq_false_iff_ne.2 (by omega)
  clear hby
  have hi : ¬ (a : Int) < (a : Int) := by omega
  have HAT := Lib.hid hat
  have HR := Lib.hid hR
  clear hat hR
  have p1 : (a : Int) ≤ (R : Int) := by omega
  have HEND := Lib.hid hend
  have HNUM := Lib.hid hnum
  have hsh : ∀ W : World, Calls Tryz.prog 58 #[.string (s.extract a E)] W fun e w' => ∃ v, e = .returned v ∧ (v = .bool (!op) ∧ Below W.heap.size W w') := fun W => (hshut W).mono (fun e w' h => ⟨_, h.1, rfl, h.2⟩)
  have HSH := Lib.hid hsh
  have u0 : (a : Int) ≤ (E : Int) := by omega
  have u1 : (E : Int) ≤ (s.size : Int) := by omega
  obtain ⟨X, hX⟩ : ∃ X, s.extract a E = X := ⟨_, rfl⟩
  have hba : ∀ W : World, Calls Tryz.prog 57 #[.string (s.extract a E)] W fun e w' => ∃ v, e = .returned v ∧ (v = .string BT ∧ Below W.heap.size W w') := fun W => (hbare W).mono (fun e w' h => ⟨_, h.1, rfl, h.2⟩)
  have HBA := Lib.hid hba
  rw [hX] at HSH HBA
  clear hba hbare
  have HXX := Lib.hid hX
  clear hend hnum hshut hsh
  obtain ⟨T5, hT5⟩ : ∃ T5, decide (x.await = 5) = T5 := ⟨_, rfl⟩
  have hdec : ((x.await : Int) == 5) = T5 := by
    rw [← hT5]
    by_cases h5 : x.await = 5
    · rw [h5]; rfl
    · rw [decide_eq_false h5]; exact beq_eq_false_iff_ne.2 (by omega)
  rw [hT5]
  have ha0 : ((x.await : Int) != 0) = true := by rw [bne, beq_eq_false_iff_ne.2 (by omega)]; rfl
  have ha0' : ((x.await : Int) == 0) = false := beq_eq_false_iff_ne.2 (by omega)
  have HPL := Lib.hid hpl
  clear hT5 hA0 hpl
  obtain ⟨A, pd, bd⟩ := x
  dsimp only at hbd
  subst hbd
  unfold aggL
  dsimp only
  have hst := StB.new w (A : Int) (.slice oa n c) false
  have q0 : (0 : Int) ≤ (a : Int) := by omega
  have q1 : (a : Int) < (s.size : Int) := by omega
  have kb0 := hst.kb.cell 2
  have kb1 := hst.kb.cell 1
  have HM := Lib.hid hM
  have HBX : Hid (∀ g, (Value.slice oa n c).ownBlock = some g → g < w.heap.size) := Lib.hid (fun g hg => src_lt hM.src g hg)
  clear hM
  go_enter Tryz.func24, Tryz.ntmps24
  go_wp2_with fail
  obtain ⟨W, hW⟩ : ∃ X, (((w.alloc (.cells #[.int .i64 (A : Int), .slice oa n c, .bool false] 26)).alloc (.cells #[.int .i64 0, .int .i64 0, .int .i64 0, .bool false] 33)).alloc (.cells #[.int .i64 0, .slice none 0 0, .bool false] 26)) = X := ⟨_, rfl⟩
  obtain ⟨Bx, hBx⟩ : ∃ z, w.heap.size = z := ⟨_, rfl⟩
  rw [hW] at hst kb0 kb1 ⊢
  rw [hBx] at hst kb0 kb1 HBX ⊢
  clear hW hBx
  refine (HBL.out _).mono ?_
  rintro e w1 ⟨rfl, rfl⟩
  have a0 := hst.kb.cell 0
  have a1 := hst.kb.cell 1
  have a2 := hst.kb.cell 2
  have hzB : Bx + 3 ≤ w1.heap.size := by have := hst.kr.lt; omega
  go_wp2_with fail
  have ky := Blk.new w1 #[.int .i64 0, .slice oa n c, .bool false] 26
  have hst2 := hst.below ((Below.refl _ w1).alloc (Nat.le_refl _) (.cells #[.int .i64 0, .slice oa n c, .bool false] 26))
  obtain ⟨W2, hW2⟩ : ∃ X, w1.alloc (.cells #[.int .i64 0, .slice oa n c, .bool false] 26) = X := ⟨_, rfl⟩
  obtain ⟨By, hBy⟩ : ∃ z, w1.heap.size = z := ⟨_, rfl⟩
  rw [hW2] at ky hst2 ⊢
  rw [hBy] at ky hzB ⊢
  clear hW2 hBy hst a0 a1 a2 kb0 kb1
  obtain ⟨hst, hst2⟩ : StB w (A : Int) (.slice oa n c) false Bx W2 ∧ True := ⟨hst2, trivial⟩
  refine (HAT.out _).mono ?_
  rintro e w2 ⟨rfl, rfl⟩
  go_upto_block 2 with fail
  go_cut [14] from 118 to 130 (fun v14 wx => v14 = .int .i64 (R : Int) ∧ wx = w2)
  case first =>
    go_wp2
    go_loopw [14] (fun v wr => ∃ b : Nat, a ≤ b ∧ b ≤ s.size ∧ v = .int .i64 (b : Int) ∧ (∀ i, a ≤ i → i < b → cls (by8 s i) = 6) ∧ wr = w2) (fun v _ => s.size - (intOf v).toNat)
    case atStart => exact ⟨a, Nat.le_refl _, by omega, rfl, fun i h1 h2 => by omega, rfl⟩
    case round =>
      obtain ⟨b, hab, hbs, rfl, hin, rfl⟩ := hrel
      have HIN := Lib.hid hin
      clear hin
      have u0 : (0 : Int) ≤ (b : Int) := by omega
      by_cases hlt : b < s.size
      · have u1 : (b : Int) < (s.size : Int) := by omega
        obtain ⟨cc, hcc⟩ : ∃ cc, by8 s b = cc := ⟨_, rfl⟩
        have hixb : ∀ hh : b < s.size, (s[b]'hh).toNat = cc := fun hh => by rw [← hcc]; unfold by8; rw [bt_eq hh]
        obtain ⟨k6, hk6⟩ : ∃ k6, cls cc = k6 := ⟨_, rfl⟩
        have hca := fun W => class_any cc W
        rw [hk6] at hca
        have HCA := Lib.hid hca
        have HCC := Lib.hid hcc
        have HK6 := Lib.hid hk6
        clear hcc hk6 hca
        by_cases h6 : k6 = 6
        · have H6 : Hid (cls cc = 6) := Lib.hid (HK6.out.trans h6)
          subst h6
          go_wp2_with fail
          refine (HCA.out _).mono ?_
          rintro e w5 ⟨rfl, rfl⟩
          go_wp2
          go_roundw
          case rel =>
            refine ⟨b + 1, by omega, by omega, by go_num, fun i h1 h2 => ?_, by first | rfl | trivial⟩
            by_cases e : i = b
            · rw [e, HCC.out]; exact H6.out
            · exact HIN.out i h1 (by omega)
          case measure => simp [intOf]; omega
        · have t6 : ((k6 : Int) == 6) = false := beq_eq_false_iff_ne.2 (by omega)
          have hbR : b = R := HR.out b hab hbs HIN.out (fun _ => by rw [HCC.out, HK6.out]; exact h6)
          have HBR := Lib.hid hbR
          clear hbR h6
          go_wp2_with fail
          refine (HCA.out _).mono ?_
          rintro e w5 ⟨rfl, rfl⟩
          go_wp2
          go_meet
          case rel => exact ⟨by rw [HBR.out], by first | rfl | trivial⟩
      · have hbR : b = R := HR.out b hab hbs HIN.out (fun h => absurd h hlt)
        have HBR := Lib.hid hbR
        have u1 : ¬ (b : Int) < (s.size : Int) := by omega
        clear hbR hlt
        go_wp2
        go_meet
        case rel => exact ⟨by rw [HBR.out], by first | rfl | trivial⟩
  case rest =>
    obtain ⟨hv, hw⟩ := hcut
    subst hv
    subst hw
    go_upto_region 25 with fail
    go_cut [151] from 131 to 151 (fun v151 wx => v151 = .bool false ∧ wx = wc)
    case first =>
      by_cases h1 : a < R
      · have p2 : (a : Int) < (R : Int) := by omega
        by_cases h2 : R < s.size
        · have p3 : (R : Int) < (s.size : Int) := by omega
          have p4 : (0 : Int) ≤ (R : Int) := by omega
          obtain ⟨b2, hb2⟩ : ∃ b2, by8 s R = b2 := ⟨_, rfl⟩
          have hixR : ∀ hh : R < s.size, (s[R]'hh).toNat = b2 := fun hh => by rw [← hb2]; unfold by8; rw [bt_eq hh]
          have hnb := HNUM.out h1 h2
          rw [hb2] at hnb
          have t60 : ((b2 : Int) == 60) = false := beq_eq_false_iff_ne.2 (by omega)
          have t62 : ((b2 : Int) == 62) = false := beq_eq_false_iff_ne.2 (by omega)
          clear hb2 hnb
          go_wp2
          go_meet
          case rel => exact ⟨by first | rfl | simp, by first | rfl | trivial⟩
        · have p3 : ¬ (R : Int) < (s.size : Int) := by omega
          go_wp2
          go_meet
          case rel => exact ⟨by first | rfl | simp, by first | rfl | trivial⟩
      · have p2 : ¬ (a : Int) < (R : Int) := by omega
        go_wp2
        go_meet
        case rel => exact ⟨by first | rfl | simp, by first | rfl | trivial⟩
    case rest =>
      obtain ⟨hv, hw⟩ := hcut
      subst hv
      subst hw
      go_wp2_with fail
      refine (HEND.out _).mono ?_
      rintro e w4 ⟨rfl, hb4⟩
      have hst4 := hst.below hb4
      have ky4 := ky.below hb4
      have a0 := hst4.kb.cell 0
      go_upto_region 30 with fail
      have hn9 : n = pd.length := by
        obtain ⟨oa', c', he, _⟩ := HM.out.cap
        injection he
      have hsrc : Src w4 (.slice oa n c) n (cellsD pd) := by rw [hn9]; rw [hn9] at HM; exact (HM.out.below hst4.bl).src
      have HN9 := Lib.hid hn9
      have hnl : n ≤ 900000 := by have := HPL.out; omega
      have HSRC := Lib.hid hsrc
      clear hn9 hsrc a0
      have hzB4 : Bx + 3 ≤ By := hzB
      have hBy4 : By < w4.heap.size := ky4.lt
      have HST4 := Lib.hid hst4
      have e0 : w4.drew.cell? ⟨Bx, 0, none⟩ = some (.int .i64 (A : Int)) := hst4.kb.cell 0
      have e1 : w4.drew.cell? ⟨Bx, 1, none⟩ = some (.slice oa n c) := hst4.kb.cell 1
      have z1 : ((w4.alloc (.cells #[] 49)).drew).cell? ⟨Bx, 0, none⟩ = some (.int .i64 (A : Int)) ∧ ((w4.alloc (.cells #[] 49)).drew).cell? ⟨Bx, 1, none⟩ = some (.slice oa n c) := ⟨((hst4.kb.alloc _).drew).cell 0, ((hst4.kb.alloc _).drew).cell 1⟩
      go_region_held_law (fun w' => w'.cell? ⟨Bx, 0, none⟩ = some (.int .i64 (A : Int)) ∧ w'.cell? ⟨Bx, 1, none⟩ = some (.slice oa n c)) (first | exact ⟨e0, e1⟩ | exact z1 | exact ⟨kb8.cell 0, kb8.cell 1⟩ | exact ⟨kb9.cell 0, kb9.cell 1⟩ | exact kb9a _ | exact ⟨kb10.cell 0, kb10.cell 1⟩ | exact kb11) (first
        | (refine step_app_gen (by rfl) _ _ 24 49 2 24 _ (by rfl) Tryz.underlying24 infoDl rfl (by omega) (by omega) w4.heap.size (.slice (some ⟨w4.heap.size, 0, none⟩) 0 0) 0 [] (by rfl) (own_below (own_none2 w4) ((Below.refl _ _).drew)) _ n (cellsD pd) (by rfl) (HSRC.out.below (((Below.refl _ _).alloc (Nat.le_refl _) _).drew)) (cellsD_len2 HN9.out) (cellsD_one pd) (by omega) (by show w4.heap.size ≤ (w4.alloc _).heap.size; rw [World.size_alloc]; exact Nat.le_succ _) n (Nat.zero_add n) ?_; intro oa8 c8 w8 hown8 hgr8 hg8; have kb8 := (hst4.kb.alloc (.cells #[] 49)).drew.grown hgr8 (fun e => by have : Bx = w4.heap.size := (by injection e); omega); have ky8 := (ky4.alloc (.cells #[] 49)).drew.grown hgr8 (fun e => by have : By = w4.heap.size := (by injection e); omega); have hb8 : Below w4.heap.size w4 w8 := (((Below.refl w4.heap.size w4).alloc (Nat.le_refl _) _).drew).grown hgr8 (by show w4.heap.size ≤ (w4.alloc _).heap.size; rw [World.size_alloc]; exact Nat.le_succ _) (fun k hk => by have : w4.heap.size = k := (by injection hk); omega))
        | (refine step_call (by rfl) Tryz.func57 (by kernel_rfl) (by kernel_rfl) _ _ (by rfl) [.string X] (by rfl) _ (HBA.out _) ?_; intro v w9 hh; obtain ⟨hv9, hb9⟩ := hh; subst hv9; have kb9 := kb8.below hb9; have ky9 := ky8.below hb9; have hown9 := own_below hown8 hb9; have kb9a : ∀ o, (w9.alloc o).cell? ⟨Bx, 0, none⟩ = some (.int .i64 (A : Int)) ∧ (w9.alloc o).cell? ⟨Bx, 1, none⟩ = some (.slice oa n c) := fun o => ⟨(kb9.alloc o).cell 0, (kb9.alloc o).cell 1⟩; have hb49 : Below w4.heap.size w4 w9 := hb8.trans (hb9.mono hb8.size))
        | (refine step_app_gen (by rfl) _ _ 24 49 2 24 _ (by rfl) Tryz.underlying24 infoDl rfl (by omega) (by omega) w4.heap.size (.slice oa8 n c8) n ([] ++ cellsD pd) (by rfl) (own_below hown9 ((Below.refl _ _).alloc (Nat.le_refl _) _)) _ 1 [.string BT, .bool T5] (by rfl) (src_d9 (x := ⟨BT, T5⟩) (Blk.new w9 _ _)) rfl (cellsD_one [⟨BT, T5⟩]) (by omega) (by rw [World.size_alloc]; have := hb49.size; omega) (n + 1) rfl ?_; intro oa7 c7 w7 hown7 hgr7 hg7; have ky10 := (ky9.alloc (.cells #[.string BT, .bool T5] 49)).grown hgr7 (fun e => by have := own_ge hown9 _ e.symm; omega); have y1 := ky10.cell 1; have yf1 := ky10.frozen 1; have kb10 := (kb9.alloc (.cells #[.string BT, .bool T5] 49)).grown hgr7 (fun e => by have := own_ge hown9 _ e.symm; have := hst4.kb.lt; omega); have kb11 : (w7.setCell ⟨By, 1, none⟩ (.slice oa7 (n + 1) c7)).cell? ⟨Bx, 0, none⟩ = some (.int .i64 (A : Int)) ∧ (w7.setCell ⟨By, 1, none⟩ (.slice oa7 (n + 1) c7)).cell? ⟨Bx, 1, none⟩ = some (.slice oa n c) := ⟨(kb10.other 1 _ (by omega)).cell 0, (kb10.other 1 _ (by omega)).cell 1⟩))
      have hb7 : Below w4.heap.size w4 w7 := (hb49.alloc hb49.size _).grown hgr7 (by rw [World.size_alloc]; have := hb49.size; omega) (fun k hk => own_ge hown9 k hk)
      have hst7 := HST4.out.below hb7
      have ky6 := ky10.set 1 (.slice oa7 (n + 1) c7)
      have hF6 : Frm (fun b => b = By) w7 (w7.setCell ⟨By, 1, none⟩ (.slice oa7 (n + 1) c7)) := Frm.setCell (p := fun b => b = By) (Frm.refl _ w7) 1 (.inl rfl) _
      have hst6 : StB w (A : Int) (.slice oa n c) false Bx (w7.setCell ⟨By, 1, none⟩ (.slice oa7 (n + 1) c7)) := ⟨hst7.kb.other 1 _ (by omega), hst7.kt.other 1 _ (by omega), hst7.kr.other 1 _ (by omega), hst7.bl.setCell (p := ⟨By, 1, none⟩) (by have := hst.bx; show w.heap.size ≤ By; omega) _, hst.bx⟩
      have hge7 := own_ge hown7
      have hown6 := own_frm hF6 hown7 (fun g hg hh => by have := hge7 g hg; omega)
      obtain ⟨g9, cap9, he9, hge9, hnc9, _, hlt9⟩ := owns_nil hown7 (by omega)
      have hc7 : n + 1 ≤ c7 := by
        injection he9 with _ _ e3
        omega
      clear he9 hge9 hnc9 hlt9
      obtain ⟨W6, hW6⟩ : ∃ Y, w7.setCell ⟨By, 1, none⟩ (.slice oa7 (n + 1) c7) = Y := ⟨_, rfl⟩
      rw [hW6] at ky6 hst6 hown6 ⊢
      have ky6' : Blk W6 By #[.int .i64 0, .slice oa7 (n + 1) c7, .bool false] 26 := ky6
      have hlen : (pd ++ [(⟨BT, T5⟩ : Dl)]).length = n + 1 := by rw [List.length_append, ← HN9.out]; rfl
      have hce : cellsD (pd ++ [(⟨BT, T5⟩ : Dl)]) = [] ++ cellsD pd ++ [.string BT, .bool T5] := by rw [cellsD_append]; rfl
      have hM6 : LxR W6 (.slice oa7 (n + 1) c7) ⟨0, pd ++ [⟨BT, T5⟩], false⟩ := by
        refine ⟨?_, ⟨oa7, c7, ?_, ?_⟩⟩
        · show Src W6 _ (pd ++ [(⟨BT, T5⟩ : Dl)]).length (cellsD (pd ++ [(⟨BT, T5⟩ : Dl)]))
          rw [hlen, hce]
          exact Src.of_own hown6
        · show _ = Value.slice oa7 (pd ++ [(⟨BT, T5⟩ : Dl)]).length c7
          rw [hlen]
        · show (pd ++ [(⟨BT, T5⟩ : Dl)]).length ≤ c7
          rw [hlen]; exact hc7
      have HM6 := Lib.hid hM6
      have HGE7 := Lib.hid hge7
      clear hlen hce hM6 hge7 hown6 hown7 hown8 hown9 hW6 ky6 hst7 kb11 kb10 kb9 kb8 ky8 ky9 ky10 kb9a y1 yf1 hgr7 hgr8 hg7 hg8 hF6 e0 e1 z1 hb7 hb49 hb8 hb9
      have hzB : Bx + 3 ≤ By := hzB4
      go_upto_region 31 with fail
      have hzB4 : Bx + 3 ≤ By := hzB
      have y0 := ky6'.drew.cell 0
      have y1 := ky6'.drew.cell 1
      have y2 := ky6'.drew.cell 2
      have t0 := hst6.kt.drew.cell 0
      have t1 := hst6.kt.drew.cell 1
      have t2 := hst6.kt.drew.cell 2
      have t3 := hst6.kt.drew.cell 3
      have tf0 := hst6.kt.drew.frozen 0
      have tf1 := hst6.kt.drew.frozen 1
      have tf2 := hst6.kt.drew.frozen 2
      have tf3 := hst6.kt.drew.frozen 3
      have r0 := hst6.kr.drew.cell 0
      have r1 := hst6.kr.drew.cell 1
      have r2 := hst6.kr.drew.cell 2
      have rf0 := hst6.kr.drew.frozen 0
      have rf1 := hst6.kr.drew.frozen 1
      have rf2 := hst6.kr.drew.frozen 2
      go_region_held3 (fun w' => w'.cell? ⟨By, 0, none⟩ = some (.int .i64 0) ∧ w'.cell? ⟨By, 1, none⟩ = some (.slice oa7 (n + 1) c7) ∧ w'.cell? ⟨By, 2, none⟩ = some (.bool false)) (((repeat (refine keepS3 (by omega) ?_)); first | exact ⟨y0, y1, y2⟩ | exact ⟨ky5.cell 0, ky5.cell 1, ky5.cell 2⟩)) (first
        | (refine step_call (by rfl) Tryz.func58 (by kernel_rfl) (by kernel_rfl) _ _ (by rfl) [.string X] (by rfl) _ (HSH.out _) ?_; intro v w5 hh; obtain ⟨hv, hb5⟩ := hh; subst hv; clear t0 t1 t2 t3 tf0 tf1 tf2 tf3 r0 r1 r2 rf0 rf1 rf2; have ky5 := ky6'.drew.below hb5; have kt5 := hst6.kt.drew.below hb5; have kr5 := hst6.kr.drew.below hb5; have u0 := kt5.cell 0; have u1 := kt5.cell 1; have u2 := kt5.cell 2; have u3 := kt5.cell 3; have uf0 := kt5.frozen 0; have uf1 := kt5.frozen 1; have uf2 := kt5.frozen 2; have uf3 := kt5.frozen 3; have v0 := kr5.cell 0; have v1 := kr5.cell 1; have v2 := kr5.cell 2; have vf0 := kr5.frozen 0; have vf1 := kr5.frozen 1; have vf2 := kr5.frozen 2))
      go_wp2
      have hst5 := hst6.below ((Below.refl _ _).drew.trans hb5)
      clear hst
      obtain ⟨hst, _⟩ : StB w (A : Int) (.slice oa n c) false Bx w5 ∧ True := ⟨hst5, trivial⟩
      obtain ⟨f6, f7, _, _⟩ := hst.fin (6 : Int) (a : Int) (E : Int) op (0 : Int) (.slice oa7 (n + 1) c7) false
      unfold StZ at f6 f7
      have h0 := f6.cell 0
      have h1 := f6.cell 1
      have h2 := f6.cell 2
      have h3 := f6.cell 3
      have i0 := f7.cell 0
      have i1 := f7.cell 1
      have i2 := f7.cell 2
      refine bodyPost_ret (v := .tuple #[.agg #[.int .i64 (6 : Int), .int .i64 (a : Int), .int .i64 (E : Int), .bool op], .agg #[.int .i64 (0 : Int), (.slice oa7 (n + 1) c7), .bool false]]) (by simp [results, Tryz.results24, go_sem, h0, h1, h2, h3, i0, i1, i2]) rfl ?_
      exact hst.rsp (t := ⟨6, a, E, op⟩) (y := ⟨0, pd ++ [⟨BT, T5⟩], false⟩) (HM6.out.below ((Below.refl _ _).drew.trans hb5)) (fun g hg => by have := HGE7.out g hg; omega) (Drew.refl _) rfl (fun g hg => .inr (by have := HGE7.out g hg; have := hst.bx; omega))
set_option maxRecDepth 100000 in
set_option maxHeartbeats 4000000 in
theorem rst_open (hbd : x.body = true) (d : Dl) (ds : List Dl) (hp : x.pend = d :: ds) (E : Nat) (hE : E ≤ s.size) (hhr : ∀ W, Calls Tryz.prog 29 #[.string s, .int .i64 (a : Int), .agg #[.string d.word, .bool d.tabs]] W fun e w' => e = .returned (.tuple #[.int .i64 (E : Int), .int .i64 0]) ∧ Below W.heap.size W w') :
    Calls Tryz.prog 24 #[.string s, .int .i64 (a : Int), aggL x (.slice oa n c)] w fun e w' => RsP w (.slice oa n c) ⟨7, a, E, true⟩ x e w' := by
  obtain ⟨b, off, hoa, hbl, d0, d1, hn1, hnc⟩ : ∃ b off, oa = some ⟨b, off, none⟩ ∧ b < w.heap.size ∧ w.cell? ⟨b, off, none⟩ = some (.string d.word) ∧ w.cell? ⟨b, off + 1, none⟩ = some (.bool d.tabs) ∧ n = ds.length + 1 ∧ n ≤ c := by
    obtain ⟨oa', c', he, hc'⟩ := hM.cap
    rw [hp] at he hc'
    injection he with e1 e2 e3
    rcases hM.src with ⟨_, h, _⟩ | ⟨b, off, c2, h1, h2, h3⟩
    · rw [hp] at h; cases h
    · injection h1 with h4
      refine ⟨b, off, h4, h2, ?_, ?_, e2, by rw [e3, e2]; exact hc'⟩
      · have := h3 0 (.string d.word) (by rw [hp, cellsD_cons]; rfl)
        rwa [Nat.add_zero] at this
      · exact h3 1 (.bool d.tabs) (by rw [hp, cellsD_cons]; rfl)
  subst hoa
  have HHR := Lib.hid hhr
  have i1 : (0 : Int) < (n : Int) := by omega
  have HN1 := Lib.hid hn1
  have HPP := Lib.hid hp
  clear hhr hn1 hp
  obtain ⟨A, pd, bd⟩ := x
  dsimp only at hbd
  subst hbd
  unfold aggL
  dsimp only
  have hst := StB.new w (A : Int) (.slice (some ⟨b, off, none⟩) n c) true
  have q0 : (0 : Int) ≤ (a : Int) := by omega
  have q1 : (a : Int) < (s.size : Int) := by omega
  have kb0 := hst.kb.cell 2
  have kb1 := hst.kb.cell 1
  have HM := Lib.hid hM
  have HBX : Hid (∀ g, (Value.slice (some ⟨b, off, none⟩) n c).ownBlock = some g → g < w.heap.size) := Lib.hid (fun g hg => src_lt hM.src g hg)
  clear hM
  go_enter Tryz.func24, Tryz.ntmps24
  have hkeep : ∀ W, Below w.heap.size w W → W.cell? ⟨b, off, none⟩ = some (.string d.word) ∧ W.cell? ⟨b, off + 1, none⟩ = some (.bool d.tabs) := fun W hW => ⟨(hW.cell (p := ⟨b, off, none⟩) hbl).trans d0, (hW.cell (p := ⟨b, off + 1, none⟩) hbl).trans d1⟩
  have e0 := (hkeep _ hst.bl).1
  have e1 := (hkeep _ hst.bl).2
  go_wp2_with fail
  obtain ⟨W, hW⟩ : ∃ X, (((w.alloc (.cells #[.int .i64 (A : Int), .slice (some ⟨b, off, none⟩) n c, .bool true] 26)).alloc (.cells #[.int .i64 0, .int .i64 0, .int .i64 0, .bool false] 33)).alloc (.cells #[.int .i64 0, .slice none 0 0, .bool false] 26)) = X := ⟨_, rfl⟩
  obtain ⟨Bx, hBx⟩ : ∃ z, w.heap.size = z := ⟨_, rfl⟩
  rw [hW] at hst kb0 kb1 e0 e1 ⊢
  rw [hBx] at hst kb0 kb1 HBX ⊢
  clear hW hBx
  refine (HHR.out _).mono ?_
  rintro e w1 ⟨rfl, hb1⟩
  obtain ⟨hst0, _⟩ : StB w (A : Int) (.slice (some ⟨b, off, none⟩) n c) true Bx W ∧ True := ⟨hst, trivial⟩
  clear hst
  have hst := hst0.below hb1
  clear hst0 e0 e1 d0 d1 hkeep kb0 kb1
  have a0 := hst.kb.cell 0
  have a1 := hst.kb.cell 1
  have a2 := hst.kb.cell 2
  have t0 := hst.kt.cell 0
  have t1 := hst.kt.cell 1
  have t2 := hst.kt.cell 2
  have t3 := hst.kt.cell 3
  have tf0 := hst.kt.frozen 0
  have tf1 := hst.kt.frozen 1
  have tf2 := hst.kt.frozen 2
  have tf3 := hst.kt.frozen 3
  have r0 := hst.kr.cell 0
  have r1 := hst.kr.cell 1
  have r2 := hst.kr.cell 2
  have rf0 := hst.kr.frozen 0
  have rf1 := hst.kr.frozen 1
  have rf2 := hst.kr.frozen 2
  go_wp2
  go_region
  go_wp2
  obtain ⟨f6, f7, _, _⟩ := hst.fin (7 : Int) (a : Int) (E : Int) true (A : Int) (.slice (some ⟨b, off, none⟩) n c) true
  unfold StZ at f6 f7
  have h0 := f6.drew.cell 0
  have h1 := f6.drew.cell 1
  have h2 := f6.drew.cell 2
  have h3 := f6.drew.cell 3
  have i0 := f7.drew.cell 0
  have i1 := f7.drew.cell 1
  have i2 := f7.drew.cell 2
  refine bodyPost_ret (v := .tuple #[.agg #[.int .i64 (7 : Int), .int .i64 (a : Int), .int .i64 (E : Int), .bool true], .agg #[.int .i64 (A : Int), (.slice (some ⟨b, off, none⟩) n c), .bool true]]) (by simp [results, Tryz.results24, go_sem, h0, h1, h2, h3, i0, i1, i2]) rfl ?_
  exact hst.rsp (t := ⟨7, a, E, true⟩) (y := ⟨A, pd, true⟩) (HM.out.below hst.bl) (fun g hg => by have := HBX.out g hg; omega) ⟨1, rfl⟩ rfl (fun g hg => .inl hg)
set_option maxRecDepth 100000 in
set_option maxHeartbeats 4000000 in
theorem rst_shut1 (hbd : x.body = true) (d : Dl) (ds : List Dl) (hp : x.pend = d :: ds) (E : Nat) (hE : E ≤ s.size) (hhr : ∀ W, Calls Tryz.prog 29 #[.string s, .int .i64 (a : Int), .agg #[.string d.word, .bool d.tabs]] W fun e w' => e = .returned (.tuple #[.int .i64 (E : Int), .int .i64 1]) ∧ Below W.heap.size W w') (hc1 : c = 1) :
    Calls Tryz.prog 24 #[.string s, .int .i64 (a : Int), aggL x (.slice oa n c)] w fun e w' => RsP w (.slice oa n c) ⟨7, a, E, false⟩ ⟨x.await, ds, decide (1 < n)⟩ e w' := by
  obtain ⟨b, off, hoa, hbl, d0, d1, hn1, hnc⟩ : ∃ b off, oa = some ⟨b, off, none⟩ ∧ b < w.heap.size ∧ w.cell? ⟨b, off, none⟩ = some (.string d.word) ∧ w.cell? ⟨b, off + 1, none⟩ = some (.bool d.tabs) ∧ n = ds.length + 1 ∧ n ≤ c := by
    obtain ⟨oa', c', he, hc'⟩ := hM.cap
    rw [hp] at he hc'
    injection he with e1 e2 e3
    rcases hM.src with ⟨_, h, _⟩ | ⟨b, off, c2, h1, h2, h3⟩
    · rw [hp] at h; cases h
    · injection h1 with h4
      refine ⟨b, off, h4, h2, ?_, ?_, e2, by rw [e3, e2]; exact hc'⟩
      · have := h3 0 (.string d.word) (by rw [hp, cellsD_cons]; rfl)
        rwa [Nat.add_zero] at this
      · exact h3 1 (.bool d.tabs) (by rw [hp, cellsD_cons]; rfl)
  subst hoa
  have HHR := Lib.hid hhr
  have i1 : (0 : Int) < (n : Int) := by omega
  have HN1 := Lib.hid hn1
  have HPP := Lib.hid hp
  clear hhr hn1 hp
  have hn1 : n = 1 := by have := HN1.out; omega
  subst hn1
  subst hc1
  obtain ⟨A, pd, bd⟩ := x
  dsimp only at hbd
  subst hbd
  unfold aggL
  dsimp only
  have hst := StB.new w (A : Int) (.slice (some ⟨b, off, none⟩) 1 1) true
  have q0 : (0 : Int) ≤ (a : Int) := by omega
  have q1 : (a : Int) < (s.size : Int) := by omega
  have kb0 := hst.kb.cell 2
  have kb1 := hst.kb.cell 1
  have HM := Lib.hid hM
  have HBX : Hid (∀ g, (Value.slice (some ⟨b, off, none⟩) 1 1).ownBlock = some g → g < w.heap.size) := Lib.hid (fun g hg => src_lt hM.src g hg)
  clear hM
  go_enter Tryz.func24, Tryz.ntmps24
  have hkeep : ∀ W, Below w.heap.size w W → W.cell? ⟨b, off, none⟩ = some (.string d.word) ∧ W.cell? ⟨b, off + 1, none⟩ = some (.bool d.tabs) := fun W hW => ⟨(hW.cell (p := ⟨b, off, none⟩) hbl).trans d0, (hW.cell (p := ⟨b, off + 1, none⟩) hbl).trans d1⟩
  have e0 := (hkeep _ hst.bl).1
  have e1 := (hkeep _ hst.bl).2
  go_wp2_with fail
  obtain ⟨W, hW⟩ : ∃ X, (((w.alloc (.cells #[.int .i64 (A : Int), .slice (some ⟨b, off, none⟩) 1 1, .bool true] 26)).alloc (.cells #[.int .i64 0, .int .i64 0, .int .i64 0, .bool false] 33)).alloc (.cells #[.int .i64 0, .slice none 0 0, .bool false] 26)) = X := ⟨_, rfl⟩
  obtain ⟨Bx, hBx⟩ : ∃ z, w.heap.size = z := ⟨_, rfl⟩
  rw [hW] at hst kb0 kb1 e0 e1 ⊢
  rw [hBx] at hst kb0 kb1 HBX ⊢
  clear hW hBx
  refine (HHR.out _).mono ?_
  rintro e w1 ⟨rfl, hb1⟩
  obtain ⟨hst0, _⟩ : StB w (A : Int) (.slice (some ⟨b, off, none⟩) 1 1) true Bx W ∧ True := ⟨hst, trivial⟩
  clear hst
  have hst := hst0.below hb1
  clear hst0 e0 e1 d0 d1 hkeep kb0 kb1
  have a0 := hst.kb.cell 0
  have a1 := hst.kb.cell 1
  have a2 := hst.kb.cell 2
  have t0 := hst.kt.cell 0
  have t1 := hst.kt.cell 1
  have t2 := hst.kt.cell 2
  have t3 := hst.kt.cell 3
  have tf0 := hst.kt.frozen 0
  have tf1 := hst.kt.frozen 1
  have tf2 := hst.kt.frozen 2
  have tf3 := hst.kt.frozen 3
  have r0 := hst.kr.cell 0
  have r1 := hst.kr.cell 1
  have r2 := hst.kr.cell 2
  have rf0 := hst.kr.frozen 0
  have rf1 := hst.kr.frozen 1
  have rf2 := hst.kr.frozen 2
  go_wp2
  go_region
  go_wp2
  have hsr := (HM.out.src.below hst.bl)
  have hpd : pd = d :: ds := HPP.out
  have hl1 := HN1.out
  have hL : LxR w1 (.slice (some ⟨b, off, none⟩) 0 0) ⟨A, ds, false⟩ := by
    have hds : ds = [] := List.eq_nil_of_length_eq_zero (by omega)
    subst hds
    rcases hsr with ⟨h, _⟩ | ⟨b2, off2, c2, h1, h2, h3⟩
    · cases h
    · injection h1 with h4
      injection h4 with h5
      injection h5 with h6 h7
      subst h6 h7
      exact ⟨.inr ⟨b, off, 0, rfl, h2, fun j u hj => by cases hj⟩, ⟨_, 0, rfl, Nat.le_refl _⟩⟩
  obtain ⟨f6, f7, _, _⟩ := hst.fin (7 : Int) (a : Int) (E : Int) false (A : Int) (.slice (some ⟨b, off, none⟩) 0 0) false
  unfold StZ at f6 f7
  have h0 := f6.drew.cell 0
  have h1 := f6.drew.cell 1
  have h2 := f6.drew.cell 2
  have h3 := f6.drew.cell 3
  have i0 := f7.drew.cell 0
  have i1 := f7.drew.cell 1
  have i2 := f7.drew.cell 2
  refine bodyPost_ret (v := .tuple #[.agg #[.int .i64 (7 : Int), .int .i64 (a : Int), .int .i64 (E : Int), .bool false], .agg #[.int .i64 (A : Int), (.slice (some ⟨b, off, none⟩) 0 0), .bool false]]) (by simp [results, Tryz.results24, go_sem, h0, h1, h2, h3, i0, i1, i2]) rfl ?_
  exact hst.rsp (t := ⟨7, a, E, false⟩) (y := ⟨A, ds, false⟩) hL (fun g hg => by have := HBX.out g hg; omega) ⟨1, rfl⟩ rfl (fun g hg => .inl hg)
set_option maxRecDepth 100000 in
set_option maxHeartbeats 4000000 in
theorem rst_shut2 (hbd : x.body = true) (d : Dl) (ds : List Dl) (hp : x.pend = d :: ds) (E : Nat) (hE : E ≤ s.size) (hhr : ∀ W, Calls Tryz.prog 29 #[.string s, .int .i64 (a : Int), .agg #[.string d.word, .bool d.tabs]] W fun e w' => e = .returned (.tuple #[.int .i64 (E : Int), .int .i64 1]) ∧ Below W.heap.size W w') (hc1 : c ≠ 1) :
    Calls Tryz.prog 24 #[.string s, .int .i64 (a : Int), aggL x (.slice oa n c)] w fun e w' => RsP w (.slice oa n c) ⟨7, a, E, false⟩ ⟨x.await, ds, decide (1 < n)⟩ e w' := by
  obtain ⟨b, off, hoa, hbl, d0, d1, hn1, hnc⟩ : ∃ b off, oa = some ⟨b, off, none⟩ ∧ b < w.heap.size ∧ w.cell? ⟨b, off, none⟩ = some (.string d.word) ∧ w.cell? ⟨b, off + 1, none⟩ = some (.bool d.tabs) ∧ n = ds.length + 1 ∧ n ≤ c := by
    obtain ⟨oa', c', he, hc'⟩ := hM.cap
    rw [hp] at he hc'
    injection he with e1 e2 e3
    rcases hM.src with ⟨_, h, _⟩ | ⟨b, off, c2, h1, h2, h3⟩
    · rw [hp] at h; cases h
    · injection h1 with h4
      refine ⟨b, off, h4, h2, ?_, ?_, e2, by rw [e3, e2]; exact hc'⟩
      · have := h3 0 (.string d.word) (by rw [hp, cellsD_cons]; rfl)
        rwa [Nat.add_zero] at this
      · exact h3 1 (.bool d.tabs) (by rw [hp, cellsD_cons]; rfl)
  subst hoa
  have HHR := Lib.hid hhr
  have i1 : (0 : Int) < (n : Int) := by omega
  have HN1 := Lib.hid hn1
  have HPP := Lib.hid hp
  clear hhr hn1 hp
  obtain ⟨N, hN⟩ : ∃ N, decide ((1 : Int) < (n : Int)) = N := ⟨_, rfl⟩
  have hNN : decide (1 < n) = N := by rw [← hN]; exact decide_eq_decide.2 (by omega)
  rw [hNN]
  have HN := Lib.hid hN
  clear hNN hN
  obtain ⟨A, pd, bd⟩ := x
  dsimp only at hbd
  subst hbd
  unfold aggL
  dsimp only
  have hst := StB.new w (A : Int) (.slice (some ⟨b, off, none⟩) n c) true
  have q0 : (0 : Int) ≤ (a : Int) := by omega
  have q1 : (a : Int) < (s.size : Int) := by omega
  have kb0 := hst.kb.cell 2
  have kb1 := hst.kb.cell 1
  have HM := Lib.hid hM
  have HBX : Hid (∀ g, (Value.slice (some ⟨b, off, none⟩) n c).ownBlock = some g → g < w.heap.size) := Lib.hid (fun g hg => src_lt hM.src g hg)
  clear hM
  go_enter Tryz.func24, Tryz.ntmps24
  have hkeep : ∀ W, Below w.heap.size w W → W.cell? ⟨b, off, none⟩ = some (.string d.word) ∧ W.cell? ⟨b, off + 1, none⟩ = some (.bool d.tabs) := fun W hW => ⟨(hW.cell (p := ⟨b, off, none⟩) hbl).trans d0, (hW.cell (p := ⟨b, off + 1, none⟩) hbl).trans d1⟩
  have e0 := (hkeep _ hst.bl).1
  have e1 := (hkeep _ hst.bl).2
  go_wp2_with fail
  obtain ⟨W, hW⟩ : ∃ X, (((w.alloc (.cells #[.int .i64 (A : Int), .slice (some ⟨b, off, none⟩) n c, .bool true] 26)).alloc (.cells #[.int .i64 0, .int .i64 0, .int .i64 0, .bool false] 33)).alloc (.cells #[.int .i64 0, .slice none 0 0, .bool false] 26)) = X := ⟨_, rfl⟩
  obtain ⟨Bx, hBx⟩ : ∃ z, w.heap.size = z := ⟨_, rfl⟩
  rw [hW] at hst kb0 kb1 e0 e1 ⊢
  rw [hBx] at hst kb0 kb1 HBX ⊢
  clear hW hBx
  refine (HHR.out _).mono ?_
  rintro e w1 ⟨rfl, hb1⟩
  obtain ⟨hst0, _⟩ : StB w (A : Int) (.slice (some ⟨b, off, none⟩) n c) true Bx W ∧ True := ⟨hst, trivial⟩
  clear hst
  have hst := hst0.below hb1
  clear hst0 e0 e1 d0 d1 hkeep kb0 kb1
  have a0 := hst.kb.cell 0
  have a1 := hst.kb.cell 1
  have a2 := hst.kb.cell 2
  have t0 := hst.kt.cell 0
  have t1 := hst.kt.cell 1
  have t2 := hst.kt.cell 2
  have t3 := hst.kt.cell 3
  have tf0 := hst.kt.frozen 0
  have tf1 := hst.kt.frozen 1
  have tf2 := hst.kt.frozen 2
  have tf3 := hst.kt.frozen 3
  have r0 := hst.kr.cell 0
  have r1 := hst.kr.cell 1
  have r2 := hst.kr.cell 2
  have rf0 := hst.kr.frozen 0
  have rf1 := hst.kr.frozen 1
  have rf2 := hst.kr.frozen 2
  have i2 : (1 : Int) ≤ (n : Int) := by omega
  have i3 : (n : Int) ≤ (c : Int) := by omega
  have i4 : (1 : Int) ≤ (c : Int) := by omega
  have i5 : ¬ c = 1 := hc1
  go_wp2
  go_region
  go_wp2
  rw [HN.out]
  have hsr := (HM.out.src.below hst.bl)
  have hpd : pd = d :: ds := HPP.out
  have hl1 := HN1.out
  have hL : LxR w1 (.slice (some ⟨b, off + 2, none⟩) (n - 1) (c - 1)) ⟨A, ds, N⟩ := by
    have hz : ds.length = n - 1 := by omega
    refine ⟨?_, ⟨_, c - 1, by rw [show (⟨A, ds, N⟩ : Lx).pend.length = n - 1 from hz], by rw [show (⟨A, ds, N⟩ : Lx).pend.length = n - 1 from hz]; omega⟩⟩
    show Src w1 _ ds.length (cellsD ds)
    rw [hz]
    rcases hsr with ⟨h, _⟩ | ⟨b2, off2, c2, h1, h2, h3⟩
    · cases h
    · injection h1 with h4
      injection h4 with h5
      injection h5 with h6 h7
      subst h6 h7
      refine .inr ⟨b, off + 2, c - 1, rfl, h2, fun j u hj => ?_⟩
      have := h3 (j + 2) u (by show (cellsD pd)[j + 2]? = _; rw [hpd, cellsD_cons]; simpa using hj)
      rw [show off + 2 + j = off + (j + 2) by omega]
      exact this
  obtain ⟨f6, f7, _, _⟩ := hst.fin (7 : Int) (a : Int) (E : Int) false (A : Int) (.slice (some ⟨b, off + 2, none⟩) (n - 1) (c - 1)) N
  unfold StZ at f6 f7
  have h0 := f6.drew.cell 0
  have h1 := f6.drew.cell 1
  have h2 := f6.drew.cell 2
  have h3 := f6.drew.cell 3
  have i0 := f7.drew.cell 0
  have i1 := f7.drew.cell 1
  have i2 := f7.drew.cell 2
  refine bodyPost_ret (v := .tuple #[.agg #[.int .i64 (7 : Int), .int .i64 (a : Int), .int .i64 (E : Int), .bool false], .agg #[.int .i64 (A : Int), (.slice (some ⟨b, off + 2, none⟩) (n - 1) (c - 1)), .bool N]]) (by simp [results, Tryz.results24, go_sem, h0, h1, h2, h3, i0, i1, i2]) rfl ?_
  exact hst.rsp (t := ⟨7, a, E, false⟩) (y := ⟨A, ds, N⟩) hL (fun g hg => by have := HBX.out g hg; omega) ⟨1, rfl⟩ rfl (fun g hg => .inl hg)
end

theorem wdE_is {s : ByteArray} {a : Nat} (ha : a ≤ s.size) : IsEnd s a 0 (wdE s a) := ⟨(wdE_le ha).1, (wdE_le ha).2, fun i h1 h2 => wdE_in h1 h2, fun h => wdE_at ha h⟩
theorem LxM.rd {W : World} {pv : Value} {x : Lx} (h : LxM W pv x) : LxR W pv x := ⟨h.src, h.cap⟩
section
variable (w : World) (x : Lx) (oa : Option Addr) (n c : Nat) (hM : LxR w (.slice oa n c) x) (s : ByteArray) (a : Nat) (ha : a < s.size) (hs : s.size ≤ 60000)
include hM ha hs
theorem rstep_any (hpe : x.body = true → x.pend ≠ []) (hA1 : x.await ≤ 1000) (hpl : x.pend.length ≤ 900000) :
    Calls Tryz.prog 24 #[.string s, .int .i64 (a : Int), aggL x (.slice oa n c)] w fun e w' => RsP w (.slice oa n c) (tkN s a x) (nxN s a x) e w' := by
  have hnl : n = x.pend.length := by
    obtain ⟨oa', c', he, _⟩ := hM.cap
    injection he
  by_cases hb : x.body = true
  · obtain ⟨d, ds, hp⟩ : ∃ d ds, x.pend = d :: ds := by
      cases h : x.pend with
      | nil => exact absurd h (hpe hb)
      | cons d ds => exact ⟨d, ds, rfl⟩
    have hhr := fun W => rhere_any W s a d (Nat.le_of_lt ha) (by omega)
    have hle := dA_le s d (s.size - a) a (Nat.le_refl _) (Nat.le_of_lt ha)
    have ht : tkN s a x = ⟨7, a, (dA s d a).1, !(dA s d a).2⟩ := by
      unfold tkN
      rw [if_pos hb, hp, docN_A s d (Nat.le_of_lt ha)]
      show (⟨7, a, a + ((dA s d a).1 - a), _⟩ : Tk) = _
      rw [show a + ((dA s d a).1 - a) = (dA s d a).1 by omega]
    have hn : n = ds.length + 1 := by rw [hnl, hp]; rfl
    cases hB : (dA s d a).2 with
    | true =>
      rw [hB] at hhr
      have hx : nxN s a x = ⟨x.await, ds, decide (1 < n)⟩ := by
        unfold nxN
        rw [ht, hB]
        show lxN x 7 false _ = _
        unfold lxN
        rw [if_pos rfl, if_neg (by decide), hp, hb]
        show (⟨x.await, ds, !ds.isEmpty && true⟩ : Lx) = _
        rw [Bool.and_true, hn]
        cases ds <;> simp
      rw [ht, hx, hB]
      by_cases hc : c = 1
      · exact rst_shut1 w x oa n c hM s a ha hs hb d ds hp _ hle.2 hhr hc
      · exact rst_shut2 w x oa n c hM s a ha hs hb d ds hp _ hle.2 hhr hc
    | false =>
      rw [hB] at hhr
      have hx : nxN s a x = x := by
        unfold nxN
        rw [ht, hB]
        show lxN x 7 true _ = _
        unfold lxN
        rw [if_pos rfl, if_pos rfl]
      rw [ht, hx, hB]
      exact rst_open w x oa n c hM s a ha hs hb d ds hp _ hle.2 hhr
  · have hb' : x.body = false := by simpa using hb
    have hEok := meE_ok ha
    have hbl := fun W => rblank_any W s a (Nat.le_of_lt ha) (by omega)
    have ht : tkN s a x = ⟨meK s a, a, meE s a, decide (meK s a = 6) && opnW (s.extract a (meE s a))⟩ := by
      unfold tkN
      rw [if_neg hb]
    have hx : nxN s a x = lxN x (meK s a) (decide (meK s a = 6) && opnW (s.extract a (meE s a))) (s.extract a (meE s a)) := by
      unfold nxN
      rw [ht]
    have hk : meK s a = if bstep s a ≠ 0 then 1 else if by8 s a = 10 then 2 else if by8 s a = 35 then 3 else if opN s a ≠ 0 then 4 else if numN s a ≠ 0 then 5 else 6 := rfl
    have he : meE s a = if bstep s a ≠ 0 then blE s a else if by8 s a = 10 then a + 1 else if by8 s a = 35 then nlE s a else if opN s a ≠ 0 then a + (txt (opN s a)).size else if numN s a ≠ 0 then a + numN s a else wdE s a := rfl
    by_cases c1 : bstep s a ≠ 0
    · rw [if_pos c1] at hk he
      rw [ht, hx, hk, he]
      have hg := blE_gt (Nat.le_of_lt ha) c1
      have hl := blE_le (s := s) (a := a) (Nat.le_of_lt ha)
      exact rst_blank w x oa n c hM s a ha hs hb' _ hg hl.2 hbl
    rw [if_neg c1] at hk he
    have hz : blE s a = a := blE_zero (by omega)
    rw [hz] at hbl
    by_cases c2 : by8 s a = 10
    · rw [if_pos c2] at hk he
      rw [ht, hx, hk, he]
      have hy : lxN x 2 (decide (2 = 6) && opnW (s.extract a (a + 1))) (s.extract a (a + 1)) = ⟨0, x.pend, decide (0 < n)⟩ := by
        unfold lxN
        rw [if_neg (by decide), if_neg (by decide), if_pos rfl, hnl]
        cases x.pend <;> simp
      rw [hy]
      exact rst_line w x oa n c hM s a ha hs hb' hbl c2
    rw [if_neg c2] at hk he
    by_cases c3 : by8 s a = 35
    · rw [if_pos c3] at hk he
      rw [ht, hx, hk, he]
      have hy : lxN x 3 (decide (3 = 6) && opnW (s.extract a (nlE s a))) (s.extract a (nlE s a)) = ⟨0, x.pend, false⟩ := by
        unfold lxN
        rw [if_neg (by decide), if_neg (by decide), if_neg (by decide), if_neg (by decide), if_neg (fun h => by have := h.1; omega), hb']
      rw [hy]
      exact rst_comment w x oa n c hM s a ha hs hb' hbl c3 _ (fun b h1 h2 h3 h4 => (nlE_eq h1 h2 h3 h4).symm)
    rw [if_neg c3] at hk he
    have hat := fun W => refat_any s a W (by omega) (Nat.le_of_lt ha)
    by_cases c4 : opN s a ≠ 0
    · rw [if_pos c4] at hk he
      rw [ht, hx, hk, he]
      have hot := op_ext c4
      have hoz := (txt_size_in (opN_mem c4)).2
      have hy : lxN x 4 (decide (4 = 6) && opnW (s.extract a (a + (txt (opN s a)).size))) (s.extract a (a + (txt (opN s a)).size)) = ⟨if opN s a = 4 ∨ opN s a = 5 then opN s a else 0, x.pend, false⟩ := by
        unfold lxN
        rw [if_neg (by decide), if_neg (by decide), if_neg (by decide), if_pos rfl, hot, hb']
      rw [hy]
      have htx := fun W => reftext_eq (opN s a) _ rfl W
      generalize opN s a = o at hat htx hoz c4 ⊢
      by_cases o4 : o = 4
      · subst o4
        exact rst_four w x oa n c hM s a ha hs hb' hbl _ rfl c2 c3 hat _ hoz htx
      · by_cases o5 : o = 5
        · subst o5
          exact rst_five w x oa n c hM s a ha hs hb' hbl _ rfl c2 c3 hat _ hoz htx
        · rw [if_neg (by omega)]
          exact rst_oper w x oa n c hM s a ha hs hb' hbl _ rfl c2 c3 o (by omega) o4 o5 hat _ hoz htx
    rw [if_neg c4] at hk he
    have c40 : opN s a = 0 := by omega
    rw [c40] at hat
    have hrl := rowN_le s a 6
    have hR : ∀ b, a ≤ b → b ≤ s.size → (∀ i, a ≤ i → i < b → cls (by8 s i) = 6) → (b < s.size → cls (by8 s b) ≠ 6) → b = a + rowN s a 6 := fun b h1 h2 h3 h4 => by
      have : rowN s a 6 = b - a := lead_eq _ (by omega) (fun i hi => by
        have e : cl s (a + i) = 6 := h3 (a + i) (by omega) (by omega)
        simpa using e) (fun hi => by
        have e := h4 (by omega)
        rw [show a + (b - a) = b by omega]
        have e' : cl s b ≠ 6 := e
        simpa using e')
      omega
    have hnd : numN s a = if a + rowN s a 6 < s.size ∧ (by8 s (a + rowN s a 6) = 60 ∨ by8 s (a + rowN s a 6) = 62) then rowN s a 6 else 0 := rfl
    by_cases c5 : numN s a ≠ 0
    · rw [if_pos c5] at hk he
      rw [ht, hx, hk, he]
      have hc : a + rowN s a 6 < s.size ∧ (by8 s (a + rowN s a 6) = 60 ∨ by8 s (a + rowN s a 6) = 62) := by
        by_cases g : a + rowN s a 6 < s.size ∧ (by8 s (a + rowN s a 6) = 60 ∨ by8 s (a + rowN s a 6) = 62)
        · exact g
        · rw [if_neg g] at hnd; exact absurd hnd c5
      rw [if_pos hc] at hnd
      have hy : lxN x 5 (decide (5 = 6) && opnW (s.extract a (a + numN s a))) (s.extract a (a + numN s a)) = ⟨0, x.pend, false⟩ := by
        unfold lxN
        rw [if_neg (by decide), if_neg (by decide), if_neg (by decide), if_neg (by decide), if_neg (fun h => by have := h.1; omega), hb']
      rw [hy, hnd]
      exact rst_number w x oa n c hM s a ha hs hb' hbl _ rfl c2 c3 hat _ (by omega) (by omega) hR (by omega) hc.1 _ rfl hc.2
    rw [if_neg c5] at hk he
    rw [ht, hx, hk, he]
    rw [he] at hEok
    have hnum : a < a + rowN s a 6 → a + rowN s a 6 < s.size → by8 s (a + rowN s a 6) ≠ 60 ∧ by8 s (a + rowN s a 6) ≠ 62 := fun h1 h2 => by
      by_cases g : a + rowN s a 6 < s.size ∧ (by8 s (a + rowN s a 6) = 60 ∨ by8 s (a + rowN s a 6) = 62)
      · rw [if_pos g] at hnd; omega
      · exact ⟨fun e => g ⟨h2, .inl e⟩, fun e => g ⟨h2, .inr e⟩⟩
    have hend : ∀ W, Calls Tryz.prog 56 #[.string s, .int .i64 (a : Int)] W fun e w' => e = .returned (.int .i64 ((wdE s a : Nat) : Int)) ∧ Below W.heap.size W w' := fun W => (refend_any W s a (Nat.le_of_lt ha) (by omega)).mono (fun e w' h => by
      obtain ⟨⟨m, h1, h2⟩, h3⟩ := h
      rw [h2.one (wdE_is (Nat.le_of_lt ha))] at h1
      exact ⟨h1, h3⟩)
    have hxz : (s.extract a (wdE s a)).size ≤ 60000 := by rw [ByteArray.size_extract]; omega
    have hsh := fun W => rshut_any W (s.extract a (wdE s a)) (by omega)
    have hop : (decide (6 = 6) && opnW (s.extract a (wdE s a))) = opnW (s.extract a (wdE s a)) := by simp
    rw [hop]
    by_cases hA0 : x.await = 0
    · have hy : lxN x 6 (opnW (s.extract a (wdE s a))) (s.extract a (wdE s a)) = ⟨0, x.pend, false⟩ := by
        unfold lxN
        rw [if_neg (by decide), if_neg (by decide), if_neg (by decide), if_neg (by decide), if_neg (fun h => h.2 hA0), hb']
      rw [hy]
      exact rst_word0 w x oa n c hM s a ha hs hb' hA0 hbl _ rfl c2 c3 hat _ (by omega) (by omega) hR hnum _ hEok.1 hEok.2 _ hend hsh
    · have hy : lxN x 6 (opnW (s.extract a (wdE s a))) (s.extract a (wdE s a)) = ⟨0, x.pend ++ [⟨bareL (PCs (s.extract a (wdE s a))), decide (x.await = 5)⟩], false⟩ := by
        unfold lxN
        rw [if_neg (by decide), if_neg (by decide), if_neg (by decide), if_neg (by decide), if_pos ⟨rfl, hA0⟩, hb']
      rw [hy]
      exact rst_word w x oa n c hM s a ha hs hb' hA0 hA1 hpl hbl _ rfl c2 c3 hat _ (by omega) (by omega) hR hnum _ hEok.1 hEok.2 _ hend hsh _ (fun W => refbare_any W _ hxz)
end
end Go.Proofs.YtgfkbfojeohlkaaGreatDoor
namespace Go.Proofs.YtgfkbfojeohlkaaGreatDoor
open Go.RowKit
set_option linter.unusedVariables false
set_option linter.unusedSectionVars false

theorem lxN_body {x : Lx} {k : Nat} {op : Bool} {t : ByteArray} (h : x.body = true → x.pend ≠ []) : (lxN x k op t).body = true → (lxN x k op t).pend ≠ [] := by
  unfold lxN
  by_cases k7 : k = 7
  · rw [if_pos k7]
    by_cases ho : op = true
    · rw [if_pos ho]; exact h
    · rw [if_neg ho]
      intro hb e
      have hb' : (!x.pend.tail.isEmpty && x.body) = true := hb
      have e' : x.pend.tail = [] := e
      rw [e'] at hb'
      simp at hb'
  rw [if_neg k7]
  by_cases k1 : k = 1
  · rw [if_pos k1]; exact h
  rw [if_neg k1]
  by_cases k2 : k = 2
  · rw [if_pos k2]
    intro hb e
    have hb' : (!x.pend.isEmpty) = true := hb
    have e' : x.pend = [] := e
    rw [e'] at hb'
    simp at hb'
  rw [if_neg k2]
  by_cases k4 : k = 4
  · rw [if_pos k4]; exact h
  rw [if_neg k4]
  by_cases k6 : k = 6 ∧ x.await ≠ 0
  · rw [if_pos k6]
    intro _ e
    exact absurd (List.append_eq_nil_iff.1 e).2 (by simp)
  · rw [if_neg k6]; exact h
theorem nxN_body {s : ByteArray} {a : Nat} {x : Lx} (h : x.body = true → x.pend ≠ []) : (nxN s a x).body = true → (nxN s a x).pend ≠ [] := lxN_body h
def RlI (s : ByteArray) (w : World) (B3 B5 z : Nat) (v4 v6 : Value) (wr : World) : Prop :=
  ∃ (a : Nat) (x : Lx) (pre : List (Tk × Lx)) (oa : Option Addr) (n c : Nat), v6 = .int .i64 (a : Int) ∧ a ≤ s.size ∧ TKs s = pre ++ tksF s (s.size - a) a x ∧ wr.ownsRow z 33 4 v4 pre.length (cellsT (pre.map Prod.fst)) ∧
    Blk wr B5 #[.int .i64 (x.await : Int), .slice oa n c, .bool x.body] 26 ∧ Blk wr B3 #[.int .i64 0, .slice none 0 0, .bool false] 26 ∧ LxR wr (.slice oa n c) x ∧ (x.body = true → x.pend ≠ []) ∧ x.await ≤ 1000 ∧ x.pend.length ≤ a ∧ lstX pre = x ∧ Below w.heap.size w wr ∧ z ≤ wr.heap.size ∧ pre.length ≤ a ∧
    (∀ g, (Value.slice oa n c).ownBlock = some g → v4.ownBlock ≠ some g ∧ z ≤ g)
section
variable (w : World)
set_option maxRecDepth 100000 in
set_option maxHeartbeats 8000000 in
theorem reflex_any (s : ByteArray) (hs : s.size ≤ 900) :
    Calls Tryz.prog 19 #[.string s] w fun e w' => ∃ v oa n c, e = .returned (.tuple #[v, aggL (lstX (TKs s)) (.slice oa n c)]) ∧ w'.ownsRow w.heap.size 33 4 v (TKs s).length (cellsT ((TKs s).map Prod.fst)) ∧ LxR w' (.slice oa n c) (lstX (TKs s)) ∧ Below w.heap.size w w' := by
  have k3 := (Blk.new w #[.int .i64 0, .slice none 0 0, .bool false] 26).alloc (.cells #[.int .i64 0, .slice none 0 0, .bool false] 26)
  have k5 := blk_a2 w (.cells #[.int .i64 0, .slice none 0 0, .bool false] 26) #[.int .i64 0, .slice none 0 0, .bool false] 26
  have hB := below_a2' w (.cells #[.int .i64 0, .slice none 0 0, .bool false] 26) (.cells #[.int .i64 0, .slice none 0 0, .bool false] 26)
  go_enter Tryz.func19, Tryz.ntmps19
  go_wp2
  obtain ⟨W0, hW0⟩ : ∃ X, (w.alloc (.cells #[.int .i64 0, .slice none 0 0, .bool false] 26)).alloc (.cells #[.int .i64 0, .slice none 0 0, .bool false] 26) = X := ⟨_, rfl⟩
  have hz0 : W0.heap.size = w.heap.size + 2 := by rw [← hW0]; simp
  obtain ⟨B3, hB3⟩ : ∃ x, w.heap.size = x := ⟨_, rfl⟩
  rw [hW0] at k3 k5 hB ⊢
  rw [hB3] at k3 k5 hz0 ⊢
  have HB3 := Lib.hid hB3
  have HB := Lib.hid hB
  clear hW0 hB3 hB
  go_loopw [4, 6] (fun v4 v6 wr => RlI s w B3 (B3 + 1) (B3 + 2) v4 v6 wr) (fun _ v _ => s.size - (intOf v).toNat)
  case atStart => exact ⟨0, Lx.zero, [], none, 0, 0, rfl, Nat.zero_le _, rfl, World.ownsRow_nil _ _ _ _, k5, k3, ⟨.inl ⟨rfl, rfl, rfl⟩, ⟨none, 0, rfl, Nat.le_refl _⟩⟩, (fun h => by cases h), Nat.zero_le _, Nat.zero_le _, rfl, HB.out, by omega, Nat.zero_le _, fun g h => by cases h⟩
  case round =>
    obtain ⟨a, x, pre, oa, n, c, rfl, has, hL, hown, h5, h3, hM, hbd, haw, hpl, hlst, hBw, hzw, hprl, hg⟩ := hrel
    clear k3 k5
    obtain ⟨ov, cv, rfl⟩ := own_slice hown
    have a0 := h5.cell 0
    have a1 := h5.cell 1
    have a2 := h5.cell 2
    by_cases hlt : a < s.size
    · have q1 : (a : Int) < (s.size : Int) := by omega
      have hst := rstep_any wr x oa n c hM s a hlt (by omega) hbd haw (by omega)
      have hlx := tksF_next x hlt
      rw [hlx] at hL
      have hok := tkN_ok x hlt
      have hnk := nxN_ok x hlt hpl haw
      have hnb := nxN_body (s := s) (a := a) hbd
      generalize tkN s a x = t at hst hL hok hnk
      generalize nxN s a x = y at hst hL hnk hnb
      unfold aggL at hst
      obtain ⟨zp, hzp⟩ : ∃ zp, pre.length = zp := ⟨_, rfl⟩
      rw [hzp] at hprl hown hg ⊢
      have HZP := Lib.hid hzp
      have HST := Lib.hid hst
      have HL := Lib.hid hL
      have HH := Lib.hid (And.intro hnk (And.intro hnb hg))
      have hol := own_lt hown
      have hog := own_ge hown
      have HOL := Lib.hid hol
      have HOG := Lib.hid hog
      have HO := Lib.hid hown
      have HBW := Lib.hid hBw
      have h5l := h5.lt
      have h3l := h3.lt
      clear hst hL hlx hnk hnb hg hM hbd hlst hown hol hog hBw hzp
      go_wp2_with fail
      refine (HST.out).mono ?_
      rintro e w1 ⟨oa1, n1, c1, rfl, hM1, hb1, hfr1⟩
      unfold aggT aggL
      obtain ⟨tk, tf, te, top⟩ := t
      obtain ⟨hk1, hk2, hk3⟩ := hok
      dsimp only at hk1 hk2 hk3
      subst hk1
      have h51 := h5.below hb1
      have h31 := h3.below hb1
      have ho1 := own_below HO.out hb1
      have hs1 := hb1.size
      have HM1 := Lib.hid hM1
      have HFR := Lib.hid hfr1
      have HB1 := Lib.hid hb1
      clear hM1 hfr1 hb1 h5 h3 a0 a1 a2
      go_upto_region 6 with fail
      have hB2 := below_a2' w1 (.cells #[.int .i64 (tk : Int), .int .i64 (tf : Int), .int .i64 (te : Int), .bool top] 33) (.cells #[.int .i64 (y.await : Int), .slice oa1 n1 c1, .bool y.body] 26)
      have kt2 : Blk ((w1.alloc (.cells #[.int .i64 (tk : Int), .int .i64 (tf : Int), .int .i64 (te : Int), .bool top] 33)).alloc (.cells #[.int .i64 (y.await : Int), .slice oa1 n1 c1, .bool y.body] 26)) w1.heap.size _ _ := (Blk.new w1 #[.int .i64 (tk : Int), .int .i64 (tf : Int), .int .i64 (te : Int), .bool top] 33).alloc _
      have ky2 := blk_a2 w1 (.cells #[.int .i64 (tk : Int), .int .i64 (tf : Int), .int .i64 (te : Int), .bool top] 33) #[.int .i64 (y.await : Int), .slice oa1 n1 c1, .bool y.body] 26
      obtain ⟨W2, hW2⟩ : ∃ X, (w1.alloc (.cells #[.int .i64 (tk : Int), .int .i64 (tf : Int), .int .i64 (te : Int), .bool top] 33)).alloc (.cells #[.int .i64 (y.await : Int), .slice oa1 n1 c1, .bool y.body] 26) = X := ⟨_, rfl⟩
      have hz2 : W2.heap.size = w1.heap.size + 2 := by rw [← hW2]; simp
      rw [hW2] at hB2 kt2 ky2 ⊢
      have h52 := h51.below hB2
      have h32 := h31.below hB2
      have ho2 := own_below ho1 hB2
      have hs2 := hB2.size
      obtain ⟨z1, hz1⟩ : ∃ z, w1.heap.size = z := ⟨_, rfl⟩
      have HZ1 := Lib.hid hz1
      have HB2 := Lib.hid hB2
      have HO2 := Lib.hid ho2
      have HY2 := Lib.hid ky2
      have HT2 := Lib.hid kt2
      have H52 := Lib.hid h52
      have H32 := Lib.hid h32
      rw [hz1] at HY2 HT2 hz2 hs1 ⊢
      have hz2' : z1 + 2 ≤ W2.heap.size ∧ W2.heap.size ≤ z1 + 2 := by omega
      clear hz2
      clear hW2 hz1 hB2 ho1 ho2 ky2 kt2 h51 h31 h52 h32 hs2
      have kt0 := HT2.out.cell 0
      have kt1 := HT2.out.cell 1
      have kt2' := HT2.out.cell 2
      have kt3 := HT2.out.cell 3
      go_wp2_with (at_builtin; refine wpl_app_gen rfl _ _ 23 33 4 32 _ rfl Tryz.underlying23 infoTk rfl (by omega) (by omega) (B3 + 2) (.slice ov zp cv) zp (cellsT (pre.map Prod.fst)) rfl (HO2.out.alloc _) _ 1 (cellT ⟨tk, tf, te, top⟩) rfl (src_t (x := ⟨tk, tf, te, top⟩) (Blk.new W2 _ _)) rfl (cellT_one _) (by omega) (by rw [World.size_alloc]; omega) (zp + 1) rfl ?_; intro oa8 c8 W8 hown8 hgr8 hg8; have h58 := (H52.out.alloc (.cells #[.int .i64 (tk : Int), .int .i64 (tf : Int), .int .i64 (te : Int), .bool top] 33)).grown hgr8 (fun e => by have := HOG.out _ e.symm; omega); have ky8 := (HY2.out.alloc (.cells #[.int .i64 (tk : Int), .int .i64 (tf : Int), .int .i64 (te : Int), .bool top] 33)).grown hgr8 (fun e => by have := HOL.out _ e.symm; omega); have kt8 := (HT2.out.alloc (.cells #[.int .i64 (tk : Int), .int .i64 (tf : Int), .int .i64 (te : Int), .bool top] 33)).grown hgr8 (fun e => by have := HOL.out _ e.symm; omega); have s0 := ky8.cell 0; have s1 := ky8.cell 1; have s2 := ky8.cell 2; have e0 := h58.cell 0; have e1 := h58.cell 1; have e2 := h58.cell 2; have f0 := h58.frozen 0; have f1 := h58.frozen 1; have f2 := h58.frozen 2; have t2 := ((kt8.other 0 (.int .i64 (y.await : Int)) (b' := B3 + 1) (by omega)).other 1 (.slice oa1 n1 c1) (b' := B3 + 1) (by omega)).other 2 (.bool y.body) (b' := B3 + 1) (by omega); have t2c := t2.cell 2)
      go_roundw
      case rel =>
        have hgrB : Below w1.heap.size w1 W8 → True := fun _ => trivial
        have h38 := (H32.out.alloc (.cells #[.int .i64 (tk : Int), .int .i64 (tf : Int), .int .i64 (te : Int), .bool top] 33)).grown hgr8 (fun e => by have := HOG.out _ e.symm; omega)
        have hF9 : Frm (fun b => b = B3 + 1) W8 (((W8.setCell ⟨B3 + 1, 0, none⟩ (.int .i64 (y.await : Int))).setCell ⟨B3 + 1, 1, none⟩ (.slice oa1 n1 c1)).setCell ⟨B3 + 1, 2, none⟩ (.bool y.body)) :=
          Frm.setCell (p := fun b => b = B3 + 1) (Frm.setCell (p := fun b => b = B3 + 1) (Frm.setCell (p := fun b => b = B3 + 1) (Frm.refl _ W8) 0 (.inl rfl) _) 1 (.inl rfl) _) 2 (.inl rfl) _
        have h59 := ((h58.set 0 (.int .i64 (y.await : Int))).set 1 (.slice oa1 n1 c1)).set 2 (.bool y.body)
        obtain ⟨hnk, hnb, hg⟩ := HH.out
        have hog8 := own_ge hown8
        have hwr2 : Below w.heap.size w W2 := (HBW.out.trans (HB1.out.mono HBW.out.size)).trans (HB2.out.mono (Nat.le_trans HBW.out.size HB1.out.size))
        have hw8 : Below w.heap.size w W8 := (hwr2.alloc hwr2.size _).grown hgr8 (by rw [World.size_alloc]; have := hwr2.size; omega) (fun k hk => by have := HOG.out k hk; have := HB3.out; omega)
        have hg1 : ∀ g, (Value.slice oa1 n1 c1).ownBlock = some g → (Value.slice ov zp cv).ownBlock ≠ some g ∧ B3 + 2 ≤ g ∧ g < w1.heap.size := fun g hgo => by
          have hlt1 := src_lt HM1.out.src g hgo
          rcases HFR.out g hgo with q | q
          · have := hg g q
            exact ⟨this.1, this.2, hlt1⟩
          · exact ⟨fun e => by have := HOL.out g e; omega, by omega, hlt1⟩
        have hs8 : W2.heap.size ≤ W8.heap.size := by have := hgr8.size; rw [World.size_alloc] at this; omega
        have hz1 := HZ1.out
        refine ⟨te, y, pre ++ [(⟨tk, tf, te, top⟩, y)], oa1, n1, c1, rfl, hk3, ?_, ?_, h59, h38.frm hF9 (by omega), ?_, hnb, hnk.2, hnk.1, lstX_snoc _ _, hw8.trans (hF9.below hw8.size (fun b hb => by have := HB3.out; omega)), ?_, ?_, fun g hgo => ?_⟩
        · rw [HL.out, List.append_assoc]; rfl
        · have hlen : (pre ++ [((⟨tk, tf, te, top⟩ : Tk), y)]).length = zp + 1 := by rw [List.length_append, HZP.out]; rfl
          rw [hlen, List.map_append, cellsT_append]
          have := own_frm hF9 hown8 (fun g hgo e => by have := hog8 g hgo; omega)
          simpa [cellsT] using this
        · refine ⟨?_, HM1.out.cap⟩
          have h1 := (HM1.out.src.below HB2.out).below ((Below.refl _ W2).alloc (Nat.le_refl _) (.cells #[.int .i64 (tk : Int), .int .i64 (tf : Int), .int .i64 (te : Int), .bool top] 33))
          have hFg : Frm (fun b => (Value.slice ov zp cv).ownBlock = some b) (W2.alloc (.cells #[.int .i64 (tk : Int), .int .i64 (tf : Int), .int .i64 (te : Int), .bool top] 33)) W8 := (Frm.refl _ _).grown hgr8 (fun k hk => .inl hk)
          exact (h1.frm hFg (fun g hgo e => (hg1 g hgo).1 e)).frm hF9 (fun g hgo e => by have := (hg1 g hgo).2.1; omega)
        · have := hF9.size; omega
        · rw [List.length_append, HZP.out]
          show zp + 1 ≤ te
          omega
        · refine ⟨fun e => ?_, (hg1 g hgo).2.1⟩
          rcases hg8 with q | q
          · exact (hg1 g hgo).1 (q ▸ e)
          · rw [q, World.size_alloc] at e
            injection e with e
            have := (hg1 g hgo).2.2
            omega
      case measure => simp [intOf]; omega
    · have q1 : ¬ (a : Int) < (s.size : Int) := by omega
      rw [tksF_end x hlt, List.append_nil] at hL
      have HTL := Lib.hid hL
      have r0 := h3.cell 0
      have r1 := h3.cell 1
      have r2 := h3.cell 2
      have rf0 := h3.frozen 0
      have rf1 := h3.frozen 1
      have rf2 := h3.frozen 2
      have k9 := ((h3.set 0 (.int .i64 (x.await : Int))).set 1 (.slice oa n c)).set 2 (.bool x.body)
      have hF9 : Frm (fun b => b = B3) wr (((wr.setCell ⟨B3, 0, none⟩ (.int .i64 (x.await : Int))).setCell ⟨B3, 1, none⟩ (.slice oa n c)).setCell ⟨B3, 2, none⟩ (.bool x.body)) :=
        Frm.setCell (p := fun b => b = B3) (Frm.setCell (p := fun b => b = B3) (Frm.setCell (p := fun b => b = B3) (Frm.refl _ wr) 0 (.inl rfl) _) 1 (.inl rfl) _) 2 (.inl rfl) _
      have HF := Lib.hid hF9
      have HK := Lib.hid k9
      have HO := Lib.hid hown
      have HX := Lib.hid hlst
      have HG := Lib.hid hg
      have HM := Lib.hid hM
      have HBW := Lib.hid hBw
      obtain ⟨zp, hzp⟩ : ∃ zp, pre.length = zp := ⟨_, rfl⟩
      rw [hzp] at HO ⊢
      have HZP := Lib.hid hzp
      clear hF9 k9 hown hlst hg hM hBw hL hbd hzp hprl
      go_wp2
      go_region
      go_wp2
      have c0 := HK.out.drew.cell 0
      have c1 := HK.out.drew.cell 1
      have c2 := HK.out.drew.cell 2
      refine bodyPost_ret (v := .tuple #[.slice ov zp cv, .agg #[.int .i64 (x.await : Int), .slice oa n c, .bool x.body]]) (by simp [results, Tryz.results19, go_sem, c0, c1, c2]) rfl ?_
      have hTK : TKs s = pre := HTL.out
      rw [hTK, HX.out]
      have hge := own_ge HO.out
      refine ⟨_, oa, n, c, rfl, ?_, ⟨?_, HM.out.cap⟩, ?_⟩
      · rw [HZP.out]
        exact own_lower (own_below (own_frm HF.out HO.out (fun g hg e => by have := hge g hg; omega)) ((Below.refl _ _).drew)) (by have := HB3.out; omega)
      · exact (HM.out.src.frm HF.out (fun g hg e => by have := (HG.out g hg).2; omega)).below ((Below.refl _ _).drew)
      · exact (HBW.out.trans (HF.out.below HBW.out.size (fun b hb => by have := HB3.out; omega))).drew
end
theorem LxR.len {W : World} {oa : Option Addr} {n c : Nat} {x : Lx} (h : LxR W (.slice oa n c) x) : n = x.pend.length := by
  obtain ⟨oa', c', he, _⟩ := h.cap
  injection he
end Go.Proofs.YtgfkbfojeohlkaaGreatDoor

/- The statement TokenSame's walk: two lexings are the same just if all of them is. Condition: the program's table of operators lies as start-up lays it; the arguments are read as rows of delimiters. -/
import Derived.Test.YtgfkbfojeohlkaaGreatDoorTkV
import Derived.Deep.RegionWith
import Derived.Deep.RegionHeldLaw
import Derived.Test.YtgfkbfojeohlkaaGreatDoorPtK
namespace Go.Proofs.YtgfkbfojeohlkaaGreatDoor
open Go.RowKit
set_option linter.unusedVariables false
set_option linter.unusedSectionVars false

theorem step_callW {ops : Array Oper} {o : Oper} {a : Act} {w : World} {K : Act → World → Prop} {Q : Exit → Act → World → Prop} {E : Prop} (hw : Region.wanted o (yielded ops a.tmps) = true) {f : FuncId} {fn : Func} (hf : Tryz.prog.funcs[f]? = some fn) (hname : (fn.name == "runtime.NumGoroutine") = false) (hb : fn.body.isSome = true) (args : List Operand) (tys : Array TypeId)
    (ho : o.op = .call { callee := .value (.func f), args := args.toArray, argTypes := tys }) (vs : List Value) (hv : args.map a.eval = vs) (R : Value → World → Prop)
    (hc : Calls Tryz.prog f vs.toArray w fun e w' => ∃ v, e = .returned v ∧ R v w') (h : ∀ v w', R v w' → K (a.put o.dst v) w') :
    if Region.wanted o (yielded ops a.tmps) = true then Oper.wp Tryz.prog o a w K Q else E := by
  rw [if_pos hw]
  have e1 : a.eval (.func f) = .func (.func f) #[] #[] := rfl
  unfold Oper.wp execOp
  simp only [ho, resolve, List.map_toArray, hv, e1, Deferred.ofValue, invoke, Sem.run_bind, Sem.run_pure, Result.andThen_ok, Array.empty_append, Array.append_empty, call_enter hf hname hb]
  rw [Oper.upon_enter]
  refine hc.mono ?_
  rintro e w' ⟨v, rfl, hr⟩
  exact h v w' hr
section
variable (w : World) (hT : Tx w) (a b : List Dl) (oa ob : Option Addr) (n m c e : Nat) (A1 A2 : Int) (b1 b2 : Bool)
include hT
set_option maxRecDepth 100000 in
set_option maxHeartbeats 8000000 in
theorem tokenSame_in (ha : RdD w oa n a) (hb : RdD w ob m b) (hn : n ≤ 20) (hm : m ≤ 20) :
    Calls Tryz.prog 10 #[.agg #[.int .i64 A1, .slice oa n c, .bool b1], .agg #[.int .i64 A2, .slice ob m e, .bool b2]] w fun e w' => e = .returned (.bool true) ∧ Below w.heap.size w w' := by
  have hB := below_a2' w (.cells #[.int .i64 A1, .slice oa n c, .bool b1] 26) (.cells #[.int .i64 A2, .slice ob m e, .bool b2] 26)
  have k1 := (Blk.new w #[.int .i64 A1, .slice oa n c, .bool b1] 26).alloc (.cells #[.int .i64 A2, .slice ob m e, .bool b2] 26)
  have k2 := blk_a2 w (.cells #[.int .i64 A1, .slice oa n c, .bool b1] 26) #[.int .i64 A2, .slice ob m e, .bool b2] 26
  have HAW := Lib.hid (awake9_any _ (hT.b hB))
  have hS1 := fun W (hW : Below w.heap.size w W) => tsame_any W a b oa ob n m c e (ha.below hW) (hb.below hW) (by omega) (by omega) A1 A2 b1 b2
  have hS2 := fun W (hW : Below w.heap.size w W) => rsame_any W a b oa ob n m c e (ha.below hW) (hb.below hW) (by omega) (by omega) A1 A2 b1 b2
  have hS3 := fun W (hW : Below w.heap.size w W) => tsame_any W a a oa oa n n c c (ha.below hW) (ha.below hW) (by omega) (by omega) A1 A1 b1 b1
  have hr : sameX A1 A1 a a b1 b1 = true := by
    unfold sameX
    rw [sameD_refl]
    simp
  rw [hr] at hS3
  generalize sameX A1 A2 a b b1 b2 = S at hS1 hS2
  have HS1 := Lib.hid (fun W hW => (hS1 W hW).mono (fun e w' (h : e = .returned (.bool S) ∧ Below W.heap.size W w') => (⟨_, h.1, rfl, h.2⟩ : ∃ v, e = .returned v ∧ (v = .bool S ∧ Below W.heap.size W w'))))
  have HS2 := Lib.hid (fun W hW => (hS2 W hW).mono (fun e w' (h : e = .returned (.bool S) ∧ Below W.heap.size W w') => (⟨_, h.1, rfl, h.2⟩ : ∃ v, e = .returned v ∧ (v = .bool S ∧ Below W.heap.size W w'))))
  have HS3 := Lib.hid (fun W hW => (hS3 W hW).mono (fun e w' (h : e = .returned (.bool true) ∧ Below W.heap.size W w') => (⟨_, h.1, rfl, h.2⟩ : ∃ v, e = .returned v ∧ (v = .bool true ∧ Below W.heap.size W w'))))
  have i1 : ¬ (20 : Int) < (n : Int) := by omega
  have i2 : ¬ (20 : Int) < (m : Int) := by omega
  clear hS1 hS2 hS3 hr ha hb hT
  go_enter Tryz.func10, Tryz.ntmps10
  go_wp2_with fail
  refine (HAW.out).mono ?_
  rintro e1 w1 ⟨rfl, hb1⟩
  have g1 := k1.below hb1
  have g2 := k2.below hb1
  have HB1 := Lib.hid (hB.trans (hb1.mono hB.size))
  have x0 := g1.cell 0
  have x1 := g1.cell 1
  have x2 := g1.cell 2
  have y0 := g2.cell 0
  have y1 := g2.cell 1
  have y2 := g2.cell 2
  clear hb1 hB k1 k2
  go_upto_region 5 with fail
  have gd1 := g1.drew
  have gd2 := g2.drew
  clear x0 x1 x2 y0 y1 y2
  have x0 := gd1.cell 0
  have x1 := gd1.cell 1
  have x2 := gd1.cell 2
  have y0 := gd2.cell 0
  have y1 := gd2.cell 1
  have y2 := gd2.cell 2
  have e0 : (w1.drew).cell? ⟨w.heap.size, 0, none⟩ = some (.int .i64 A1) ∧ (w1.drew).cell? ⟨w.heap.size, 1, none⟩ = some (.slice oa n c) ∧ (w1.drew).cell? ⟨w.heap.size, 2, none⟩ = some (.bool b1) ∧ (w1.drew).cell? ⟨w.heap.size + 1, 0, none⟩ = some (.int .i64 A2) ∧ (w1.drew).cell? ⟨w.heap.size + 1, 1, none⟩ = some (.slice ob m e) ∧ (w1.drew).cell? ⟨w.heap.size + 1, 2, none⟩ = some (.bool b2) := ⟨x0, x1, x2, y0, y1, y2⟩
  have hkeep : ∀ W, Below w1.heap.size w1.drew W → W.cell? ⟨w.heap.size, 0, none⟩ = some (.int .i64 A1) ∧ W.cell? ⟨w.heap.size, 1, none⟩ = some (.slice oa n c) ∧ W.cell? ⟨w.heap.size, 2, none⟩ = some (.bool b1) ∧ W.cell? ⟨w.heap.size + 1, 0, none⟩ = some (.int .i64 A2) ∧ W.cell? ⟨w.heap.size + 1, 1, none⟩ = some (.slice ob m e) ∧ W.cell? ⟨w.heap.size + 1, 2, none⟩ = some (.bool b2) := fun W hW => ⟨(gd1.below hW).cell 0, (gd1.below hW).cell 1, (gd1.below hW).cell 2, (gd2.below hW).cell 0, (gd2.below hW).cell 1, (gd2.below hW).cell 2⟩
  have HK := Lib.hid hkeep
  clear hkeep
  cases S
  all_goals
    go_region_held_law (fun w' => w'.cell? ⟨w.heap.size, 0, none⟩ = some (.int .i64 A1) ∧ w'.cell? ⟨w.heap.size, 1, none⟩ = some (.slice oa n c) ∧ w'.cell? ⟨w.heap.size, 2, none⟩ = some (.bool b1) ∧ w'.cell? ⟨w.heap.size + 1, 0, none⟩ = some (.int .i64 A2) ∧ w'.cell? ⟨w.heap.size + 1, 1, none⟩ = some (.slice ob m e) ∧ w'.cell? ⟨w.heap.size + 1, 2, none⟩ = some (.bool b2)) (first | exact e0 | exact s4 | exact s5 | exact s6) (first
      | (refine step_call (by rfl) Tryz.func30 (by kernel_rfl) (by kernel_rfl) _ _ (by rfl) [.agg #[.int .i64 A1, .slice oa n c, .bool b1], .agg #[.int .i64 A2, .slice ob m e, .bool b2]] (by rfl) _ (HS1.out _ HB1.out.drew) ?_; intro v w4 hh; obtain ⟨hv4, hb4⟩ := hh; subst hv4; have s4 := HK.out w4 hb4)
      | (refine step_call (by rfl) Tryz.func21 (by kernel_rfl) (by kernel_rfl) _ _ (by rfl) [.agg #[.int .i64 A1, .slice oa n c, .bool b1], .agg #[.int .i64 A2, .slice ob m e, .bool b2]] (by rfl) _ (HS2.out _ (HB1.out.drew.trans (hb4.mono HB1.out.size))) ?_; intro v w5 hh; obtain ⟨hv5, hb5⟩ := hh; subst hv5; have s5 := HK.out w5 (hb4.trans (hb5.mono hb4.size)))
      | (refine step_callW (by rfl) Tryz.func30 (by kernel_rfl) (by kernel_rfl) _ _ (by rfl) [.agg #[.int .i64 A1, .slice oa n c, .bool b1], .agg #[.int .i64 A1, .slice oa n c, .bool b1]] (by rfl) _ (HS3.out _ ((HB1.out.drew.trans (hb4.mono HB1.out.size)).trans (hb5.mono (Nat.le_trans HB1.out.size hb4.size)))) ?_; intro v w6 hh; obtain ⟨hv6, hb6⟩ := hh; subst hv6; have s6 := HK.out w6 ((hb4.trans (hb5.mono hb4.size)).trans (hb6.mono (Nat.le_trans hb4.size hb5.size)))))
    go_wp2
    go_ret
    refine ⟨by first | rfl | simp, ?_⟩
    have h4 := HB1.out.drew.trans (hb4.mono HB1.out.size)
    have h5 := h4.trans (hb5.mono h4.size)
    exact h5.trans (hb6.mono h5.size)
set_option maxRecDepth 100000 in
set_option maxHeartbeats 4000000 in
theorem tokenSame_law (ha : n ≤ 20 → ∃ a, RdD w oa n a) (hb : m ≤ 20 → ∃ b, RdD w ob m b) :
    Calls Tryz.prog 10 #[.agg #[.int .i64 A1, .slice oa n c, .bool b1], .agg #[.int .i64 A2, .slice ob m e, .bool b2]] w fun e w' => e = .returned (.bool true) ∧ Below w.heap.size w w' := by
  by_cases hn : n ≤ 20
  · by_cases hm : m ≤ 20
    · obtain ⟨a, ha⟩ := ha hn
      obtain ⟨b, hb⟩ := hb hm
      exact tokenSame_in w hT a b oa ob n m c e A1 A2 b1 b2 ha hb hn hm
    · have hB := below_a2' w (.cells #[.int .i64 A1, .slice oa n c, .bool b1] 26) (.cells #[.int .i64 A2, .slice ob m e, .bool b2] 26)
      have k1 := (Blk.new w #[.int .i64 A1, .slice oa n c, .bool b1] 26).alloc (.cells #[.int .i64 A2, .slice ob m e, .bool b2] 26)
      have k2 := blk_a2 w (.cells #[.int .i64 A1, .slice oa n c, .bool b1] 26) #[.int .i64 A2, .slice ob m e, .bool b2] 26
      have HAW := Lib.hid (awake9_any _ (hT.b hB))
      have i1 : ¬ (20 : Int) < (n : Int) := by omega
      have i2 : (20 : Int) < (m : Int) := by omega
      clear hT ha hb
      go_enter Tryz.func10, Tryz.ntmps10
      go_wp2_with fail
      refine (HAW.out).mono ?_
      rintro e1 w1 ⟨rfl, hb1⟩
      have x1 := (k1.below hb1).cell 1
      have y1 := (k2.below hb1).cell 1
      go_wp2
      go_ret
      exact ⟨rfl, hB.trans (hb1.mono hB.size)⟩
  · have hB := below_a2' w (.cells #[.int .i64 A1, .slice oa n c, .bool b1] 26) (.cells #[.int .i64 A2, .slice ob m e, .bool b2] 26)
    have k1 := (Blk.new w #[.int .i64 A1, .slice oa n c, .bool b1] 26).alloc (.cells #[.int .i64 A2, .slice ob m e, .bool b2] 26)
    have HAW := Lib.hid (awake9_any _ (hT.b hB))
    have i1 : (20 : Int) < (n : Int) := by omega
    clear hT ha hb
    go_enter Tryz.func10, Tryz.ntmps10
    go_wp2_with fail
    refine (HAW.out).mono ?_
    rintro e1 w1 ⟨rfl, hb1⟩
    have x1 := (k1.below hb1).cell 1
    go_wp2
    go_ret
    exact ⟨rfl, hB.trans (hb1.mono hB.size)⟩
end
end Go.Proofs.YtgfkbfojeohlkaaGreatDoor

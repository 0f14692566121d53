/- What rows and Rows of layer 7 (parts) return: the rows of bytes of one part, in their order, as a new slice. Condition: texts of at most 60,000 bytes. -/
import Derived.Deep.AppendLies
import Derived.Maps.AppendAt
import Derived.Test.YtholjhdjlhkocaaPtZ
namespace Go.Proofs.Ytholjhdjlhkocaa
open Go.RowKit Go.Shelf
set_option linter.unusedVariables false
attribute [local go_sem] Oper.semAt_some

def PRn.cells (x : PRn) : List Value := [.int .i64 x.c, .int .i64 (x.f : Int), .int .i64 (x.t : Int)]
def prcells (l : List PRn) : List Value := l.flatMap PRn.cells
theorem prcells_append (a b : List PRn) : prcells (a ++ b) = prcells a ++ prcells b := by simp [prcells]
theorem part_row {w : World} {base n : Nat} {v : Value} {xs : List Value} (h : w.ownsRow base 28 3 v n xs) {b : Nat} {cs : Array Value} {fr : Nat × Nat} (hb : w.heap[b]? = some (Obj.cells cs 45 fr)) : some b ≠ v.ownBlock := by
  intro e
  rcases h.2 with ⟨h1, _⟩ | ⟨g, cap, cur, h1, _, h3, _⟩
  · rw [h1] at e; cases e
  · rw [h1] at e
    have e' : b = g := by simpa [Value.ownBlock] using e
    subst e'
    rw [hb] at h3
    injection h3 with h3
    injection h3 with _ h2 _
    exact absurd h2 (by decide)
theorem prows_in (F : Fence) (n : Nat) (h5 : F.fn 34) (hro : F.round = none) (s : ByteArray) (w : World) :
    CallsIn F n Try.prog 34 #[.string s] w fun e w' => e = .returned (.func (.func 58) #[] #[.pointer (some ⟨w.heap.size, 0, none⟩)]) ∧ w' = w.alloc (.cells #[.string s] 9) := by
  refine callsIn_of_wp Try.func34 rfl h5 ?_ hro
  simp only [Try.ntmps34, List.size_toArray, List.length_cons, List.length_nil, Nat.reduceAdd, Nat.reduceSub, Array.replicate_succ, Array.replicate_zero, List.push_toArray, List.append_toArray, List.nil_append, List.cons_append]
  gi_wp2
  go_ret
  exact ⟨rfl, rfl⟩

theorem prows_stops (n : Nat) (hn : 1 ≤ n) (Bn : Nat) (s : ByteArray) (hs : s.size ≤ 60000) (w : World) (hc : Blk w Bn #[.string s] 9) :
    SeqStopsK Fence.wide n Try.prog 58 #[.pointer (some ⟨Bn, 0, none⟩)] (fun x : PRn => #[Value.agg #[.int .i64 x.c, .int .i64 (x.f : Int), .int .i64 (x.t : Int)]]) (KpP Bn) (fun ys => PTil s ys s.size) (fun pre => True) s.size w := fun l J Jx W hW hJA _ hY h0 =>
  rows1_in n hn l Bn s hs J Jx (fun pre X Y hj hg => hJA pre X Y none hj hg (fun r e => by cases e)) hY W (hc.below hW) h0

theorem infoPR : (Try.prog.info? 28).map (fun i => (i.zero, i.size, i.bytes)) = some (some (.agg #[.int .i64 0, .int .i64 0, .int .i64 0]), 3, 24) := by kernel_rfl

set_option maxRecDepth 100000 in
set_option maxHeartbeats 4000000 in
theorem prowsAll_in (n : Nat) (hn : 3 ≤ n) (s : ByteArray) (hs : s.size ≤ 60000) (w : World) :
    CallsIn Fence.wide n Try.prog 13 #[.string s] w fun e W' => ∃ v l, e = .returned v ∧ PTil s l s.size ∧ W'.ownsRow w.heap.size 28 3 v l.length (prcells l) ∧ Below w.heap.size w W' := by
  have h1 : 1 ≤ n := by omega
  have h39 : Fence.wide.fn 34 := trivial
  have h44 : Fence.wide.fn 58 := trivial
  have hro : Fence.wide.round = none := rfl
  obtain ⟨i0, hi, hz0, hz1, hz2⟩ := info_parts infoPR
  refine callsIn_of_wp_marks Try.func13 rfl trivial ?_ hro
  simp only [Try.ntmps13, List.size_toArray, List.length_cons, List.length_nil, Nat.reduceAdd, Nat.reduceSub, Array.replicate_succ, Array.replicate_zero, List.push_toArray, List.append_toArray, List.nil_append, List.cons_append]
  gi_wp2_with (gi_at_call 34; refine (prows_in Fence.wide (n - 1) h39 hro _ _).mono ?_; rintro e w' ⟨rfl, rfl⟩)
  have bO := Boxed.new w 25 (.slice none 0 0)
  have hB0 : Below w.heap.size w (w.alloc (.cells #[.slice none 0 0] 25)) := (Below.refl _ w).alloc (Nat.le_refl _) _
  have hB1 : Below w.heap.size w ((w.alloc (.cells #[.slice none 0 0] 25)).alloc (.cells #[.string s] 9)) := hB0.alloc (by simp) _
  have bO1 := bO.alloc (.cells #[.string s] 9)
  have bS := Boxed.new (w.alloc (.cells #[.slice none 0 0] 25)) 9 (.string s)
  have kS := Blk.new (w.alloc (.cells #[.slice none 0 0] 25)) #[.string s] 9
  rw [World.size_alloc] at bS kS
  obtain ⟨W0, hW0⟩ : ∃ W0, (w.alloc (.cells #[.slice none 0 0] 25)).alloc (.cells #[.string s] 9) = W0 := ⟨_, rfl⟩
  have hsz : W0.heap.size = w.heap.size + 2 := by rw [← hW0]; simp
  rw [hW0] at bO1 bS kS hB1 ⊢
  clear bO hB0 hW0
  have Hsz := Lib.hid hsz
  have hsl : w.heap.size + 1 < W0.heap.size := by omega
  clear hsz
  refine wpIn_rangeFunc_ownH hro h1 (gf := 58) (lb := #[.pointer (some ⟨w.heap.size + 1, 0, none⟩)]) rfl h44 (enters_of Try.func58 (by kernel_rfl) rfl)
    (prows_stops (n - 1) (by omega) (w.heap.size + 1) s hs W0 kS) kpP_t (kpP_b hsl) (Below.refl _ _) (fun _ => rfl)
    (fun pre W => (∃ v, Boxed W w.heap.size 25 v ∧ W.ownsRow w.heap.size 28 3 v pre.length (prcells pre) ∧ True) ∧ Boxed W (w.heap.size + 1) 9 (.string s) ∧ Below w.heap.size w W)
    (fun _ _ _ => False)
    (OwnFrom.and (Own.from (holdsRow_own w.heap.size w.heap.size 25 28 3 (fun (pre : List PRn) => pre.length) (fun pre => prcells pre) (fun pre v => True)) _) (OwnFrom.and (Own.from (boxed_own (w.heap.size + 1) 9 (fun _ => .string s)) _) (ownFrom_below (Nat.le_refl _) (by omega))))
    (fun _ _ _ _ _ hs _ _ => hs)
    ⟨⟨_, bO1, World.ownsRow_nil _ _ _ _, trivial⟩, bS, hB1⟩
    (fun x a' W => ∃ Bx, w.heap.size + 1 < Bx ∧ W.heap[Bx]? = some (.cells #[.int .i64 x.c, .int .i64 (x.f : Int), .int .i64 (x.t : Int)] 28 (0, 0)) ∧ a' = { tmps := #[.string s, undef, .slice none 0 0, .pointer (some ⟨w.heap.size, 0, none⟩), .pointer (some ⟨Bx, 0, none⟩), .string s, .func (.func 58) #[] #[.pointer (some ⟨w.heap.size + 1, 0, none⟩)], .agg #[.int .i64 x.c, .int .i64 (x.f : Int), .int .i64 (x.t : Int)], undef, undef, undef, undef, undef], defers := [] })
    (fun x a' _ X Y row hs hg hr => by
      obtain ⟨Bx, h1, h2, h3⟩ := hs
      refine ⟨Bx, h1, (hg.block Bx (Array.getElem?_eq_some_iff.1 h2).1 (fun e => ?_)).trans h2, h3⟩
      obtain ⟨o, ho, hoc⟩ := (hr Bx e.symm).2
      rw [h2] at ho; cases ho; cases hoc)
    ?assign ?body ?done ?stop
  case assign =>
    rintro l pre x W K ⟨⟨v, hv, hrow, hnil⟩, hS, hB⟩ hK
    gi_wp2
    refine hK _ _ ((KeepsOthers.alloc _ _).from _) (kpP_below hS.lt ((Below.refl _ W).alloc (Nat.le_refl _) _)) ⟨⟨v, hv.alloc _, hrow.alloc _, trivial⟩, hS.alloc _, hB.alloc hB.size _⟩ ⟨W.heap.size, hS.lt, World.alloc_heap_new W _, rfl⟩
  case body =>
    rintro l pre x a' W hl ⟨r, hr⟩ ⟨⟨v, hv, hrow, hnil⟩, hS, hB⟩ ⟨Bx, hBx, bX, rfl⟩ hlt
    have hc := hv.cell
    have x0 := cell_of_row W Bx 0 _ _ _ bX
    have x1 := cell_of_row W Bx 1 _ _ _ bX
    have x2 := cell_of_row W Bx 2 _ _ _ bX
    simp at x0 x1 x2
    gi_wp2_with (gi_at_builtin; refine wpListIn_append_own _ rfl _ _ 25 rfl w.heap.size 28 i0 _ 3 24 Try.underlying25 hi hz0 hz1 hz2 rfl (by decide) _ _ _ rfl (hrow.alloc _) ⟨W.heap.size, 0, none⟩ 1 1 x.cells rfl rfl (World.news_of_block (cs := #[.int .i64 x.c, .int .i64 (x.f : Int), .int .i64 (x.t : Int)]) (t := 28) (fr := (0, 0)) (World.alloc_heap_new W _)) (by simp [PRn.cells, Value.oneCell']) (by unfold maxLen; omega) (by omega) (by have := hB.size; simp; omega) ?_; intro v' w1 hown' hgrow _; obtain ⟨g', cap', rfl⟩ := ownsRow_succ hown'; obtain ⟨hv1, hv2, hr2, hk2, hb2⟩ := hv.appended (by decide) hrow hB.size (Nat.le_refl _) hown' hgrow; have hc1 := hv1.cell; have hf1 := hv1.frozen)
    have hS2 := ((hS.alloc (.cells #[.int .i64 x.c, .int .i64 (x.f : Int), .int .i64 (x.t : Int)] 28)).kept hgrow (hS.not_row (by decide) hrow)).other (B' := w.heap.size) (by omega) (.slice (some ⟨g', 0, none⟩) (pre.length + 1) cap')
    refine ⟨hk2.from _, ⟨Eq.trans hS2 (Eq.symm hS), fun b cs fr hb => ?_⟩, ⟨_, hv2, by rw [prcells_append]; simpa [prcells] using hr2, trivial⟩, hS2, hB.trans hb2⟩
    have hbl := (Array.getElem?_eq_some_iff.1 hb).1
    have hne : b ≠ w.heap.size := fun e => by
      subst e
      have := hv
      unfold Boxed at this
      rw [hb] at this
      injection this with this
      injection this with _ h2 _
      exact absurd h2 (by decide)
    refine (Below.heap_setCell _ _ _ b hne).trans ((hgrow.block b (by rw [World.size_alloc]; omega) ?_).trans (Below.heap_alloc W _ b hbl))
    exact part_row hrow hb
  case done =>
    rintro D ys W hD hT ⟨⟨v, hv, hrow, hnil⟩, hS, hB⟩ hK
    have hc := hv.cell
    gi_wp2
    refine ⟨by simp, .inl ⟨_, _, rfl, run_takeDeferred hK, ?_⟩⟩
    exact ⟨_, results_tmp rfl _ _ _, v, ys, rfl, hT, ownsRow_putObj hrow _ hK rfl, hB.trans (belowK_b (w := w) (Nat.le_refl _) W D _ _ (by omega) hK rfl rfl)⟩
  case stop =>
    rintro D c pre W _ _ h _
    exact h.elim
theorem prows_any (s : ByteArray) (hs : s.size ≤ 60000) (w : World) :
    Calls Try.prog 13 #[.string s] w fun e W' => ∃ v l, e = .returned v ∧ PTil s l s.size ∧ W'.ownsRow w.heap.size 28 3 v l.length (prcells l) ∧ Below w.heap.size w W' :=
  (callsIn_wide (n := 3)).1 (prowsAll_in 3 (Nat.le_refl _) s hs w)
end Go.Proofs.Ytholjhdjlhkocaa

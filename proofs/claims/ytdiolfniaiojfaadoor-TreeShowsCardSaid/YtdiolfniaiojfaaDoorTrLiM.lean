/- The statement TreeShows of layer 11 (tree), as a card: whatever the row of nodes, the law returns true and its argument reads as before. Condition: none of the input; the library's tables of bits and of powers of ten are tied to their own texts. -/
import Derived.Test.YtdiolfniaiojfaaDoorTrLi
import Derived.Test.YtdiolfniaiojfaaDoorTrTl
import Derived.Lib.SmallJoins
import Derived.ChangeOld
import Derived.ShutString
import Derived.Below
import Derived.ChangeSlices
import Derived.Deep.Slices
namespace Go.Proofs.YtdiolfniaiojfaaDoor.treeShowsP
open Go.ChangeShapes Go.WideShapes Go.ChangeAt Go.RowKit Go.Joins
open Go.ChangeMaps (open_string shut_string)
open Go.Deep (open_slice)
set_option linter.unusedVariables false
set_option maxRecDepth 100000

theorem own : ownKnob Tryd.prog.godebug = none := by kernel_rfl
theorem laidOut : laidOutB Tryd.prog = true := pf_laid
section
variable {H : Type} {enc : TypeId × Value → H} {w : World} {base : Nat} {spare : Nat → Bool} {held : Bool}
/-- One node read as data: its four cells. -/
theorem node_cells {n : Nat} {cs : List Value} {x : DataW H × List MemPlace} (h : DataW.trod enc Tryd.prog w base spare held n 27 cs = some x) :
    ∃ p : Nd, cs = [.int .i64 p.k, .int .i64 p.f, .int .i64 p.t, .int .i64 p.u] ∧ (Lit.int .i64 p.f).wf = true ∧ (Lit.int .i64 p.t).wf = true := by
  obtain ⟨xs, k, _, hx, hlen, hxl, hg⟩ := DataW.trod_struct Tryd.underlying27 h
  rw [show Tryd.prog.cellsOf 27 = 4 from by kernel_rfl] at hlen
  match cs, hlen with
  | [c0, c1, c2, c3], _ =>
    match xs, hxl with
    | [y0, y1, y2, y3], _ =>
      have e0 : DataW.trod enc Tryd.prog w base spare held k 3 (([c0, c1, c2, c3].drop 0).take (Tryd.prog.cellsOf 3)) = some y0 := hg 0 _ rfl
      have e1 : DataW.trod enc Tryd.prog w base spare held k 3 (([c0, c1, c2, c3].drop 1).take (Tryd.prog.cellsOf 3)) = some y1 := hg 1 _ rfl
      have e2 : DataW.trod enc Tryd.prog w base spare held k 3 (([c0, c1, c2, c3].drop 2).take (Tryd.prog.cellsOf 3)) = some y2 := hg 2 _ rfl
      have e3 : DataW.trod enc Tryd.prog w base spare held k 3 (([c0, c1, c2, c3].drop 3).take (Tryd.prog.cellsOf 3)) = some y3 := hg 3 _ rfl
      rw [show Tryd.prog.cellsOf 3 = 1 from by kernel_rfl] at e0 e1 e2 e3
      simp at e0 e1 e2 e3
      obtain ⟨a, x0, z0, _⟩ := DataW.trod_int Tryd.underlying3 e0
      obtain ⟨d, x1, z1, m1⟩ := DataW.trod_int Tryd.underlying3 e1
      obtain ⟨t, x2, z2, m2⟩ := DataW.trod_int Tryd.underlying3 e2
      obtain ⟨u, x3, z3, _⟩ := DataW.trod_int Tryd.underlying3 e3
      simp at x0 x1 x2 x3
      subst x0 x1 x2 x3
      exact ⟨⟨a, d, t, u⟩, rfl, m1, m2⟩
/-- What is read of a row of nodes: its cells. -/
theorem open_nodes {fuel : Nat} {a0 : Option Addr} {len cap : Nat} {x : DataW H × List MemPlace}
    (h : DataW.trod enc Tryd.prog w 0 (fun _ => true) true fuel 22 [.slice a0 len cap] = some x) : ∃ nv, NRow w a0 len nv ∧ len ≤ cap ∧ cap ≤ maxLen ∧ (len = 0 → a0 = none ∧ cap = 0 ∨ ∃ b off, a0 = some ⟨b, off, none⟩ ∧ b < w.heap.size ∨ cap = 0) ∧ ∀ i, i < len → (Lit.int .i64 (nv i).f).wf = true ∧ (Lit.int .i64 (nv i).t).wf = true := by
  rcases Go.Deep.open_slice Tryd.underlying22 h with ⟨hcs, _⟩ | ⟨a, l, c, m, n, D, Pl, hcs, hb, hl, hm, hmm, hx, hi⟩
  · simp only [List.cons.injEq, Value.slice.injEq, and_true] at hcs
    obtain ⟨rfl, rfl, rfl⟩ := hcs
    exact ⟨fun _ => ⟨0, 0, 0, 0⟩, fun i hi => by omega, Nat.le_refl _, by unfold maxLen; omega, fun _ => .inl ⟨rfl, rfl⟩, fun i hi => by omega⟩
  · simp only [List.cons.injEq, Value.slice.injEq, and_true] at hcs
    obtain ⟨rfl, rfl, rfl⟩ := hcs
    rw [if_pos rfl] at hmm
    subst hmm
    rw [show Tryd.prog.cellsOf 27 = 4 from by kernel_rfl] at hi hx
    rcases Nat.eq_zero_or_pos m with h0 | hpos
    · exact ⟨fun _ => ⟨0, 0, 0, 0⟩, fun i hi => by omega, hl, hm, fun _ => .inr ⟨0, 0, .inr h0⟩, fun i hi => by omega⟩
    obtain ⟨ab, aoff, spot⟩ := a
    have hspot : spot = none := by
      obtain ⟨cs', hc0, ht0⟩ := hi 0 (by omega)
      obtain ⟨p, rfl, _⟩ := node_cells ht0
      obtain ⟨_, _, hcell⟩ := World.cells?_some hc0
      have g := hcell 0 (by omega)
      simpa [Addr.add] using World.cell?_spot (v := .int .i64 p.k) (by simpa [Addr.add] using g)
    subst hspot
    have hblk : ab < w.heap.size := by
      obtain ⟨cs', hc0, _⟩ := hi 0 (by omega)
      exact World.cells?_block hc0 (by omega)
    have hex : ∀ i, ∃ p : Nd, i < m → (w.cell? ⟨ab, aoff + i * 4, none⟩ = some (.int .i64 p.k) ∧ w.cell? ⟨ab, aoff + i * 4 + 1, none⟩ = some (.int .i64 p.f) ∧ w.cell? ⟨ab, aoff + i * 4 + 2, none⟩ = some (.int .i64 p.t) ∧ w.cell? ⟨ab, aoff + i * 4 + 3, none⟩ = some (.int .i64 p.u)) ∧ (Lit.int .i64 p.f).wf = true ∧ (Lit.int .i64 p.t).wf = true := by
      intro i
      by_cases hlt : i < m
      · obtain ⟨cs', hc0, ht0⟩ := hi i (by omega)
        obtain ⟨p, rfl, w1, w2⟩ := node_cells ht0
        obtain ⟨_, _, hcell⟩ := World.cells?_some hc0
        have g0 := hcell 0 (by omega)
        have g1 := hcell 1 (by omega)
        have g2 := hcell 2 (by omega)
        have g3 := hcell 3 (by omega)
        rw [Go.Deep.add_add] at g0 g1 g2 g3
        have hadd : ∀ k, (⟨ab, aoff, none⟩ : Addr).add k = ⟨ab, aoff + k, none⟩ := by
          intro k
          unfold Addr.add
          split
          · rename_i hk; subst hk; rfl
          · rfl
        rw [hadd] at g0 g1 g2 g3
        exact ⟨p, fun _ => ⟨⟨by simpa using g0, by rw [Nat.add_assoc]; simpa using g1, by rw [Nat.add_assoc]; simpa using g2, by rw [Nat.add_assoc]; simpa using g3⟩, w1, w2⟩⟩
      · exact ⟨⟨0, 0, 0, 0⟩, fun h => absurd h hlt⟩
    obtain ⟨F, hF⟩ := Classical.axiomOfChoice hex
    exact ⟨F, fun i hi2 => ⟨ab, aoff, rfl, hblk, (hF i (by omega)).1⟩, hl, hm, fun _ => .inr ⟨ab, aoff, .inl ⟨rfl, hblk⟩⟩, fun i hi2 => (hF i (by omega)).2⟩
end

theorem contract (H : Type) (enc : TypeId × Value → H) (W : World) (base : Nat) (args : Array Value) (ds gs : List (DataW H)) (before : List MemPlace)
    (hval0 : ∀ (j : Nat) t v, Tryd.f3.params[j]? = some t → args[j]? = some v → Value.okWide Tryd.prog W .any base t v)
    (hW : DataW.Whole enc Tryd.prog Tryd.f3.params.toList Rows.treeShowsSpec.vars false W args.toList ds gs before) (hL : laidMetH Tryd.prog Rows.treeShowsRow.laid W) :
    Calls Tryd.prog 3 args W fun e W' => ∃ v, e = .returned v ∧ Rows.treeShowsSpec.post enc Tryd.prog Tryd.f3 false true false false W args v W' := by
  have hT : Tb W := tb_of_laid hL
  have hval : ∀ (j : Nat) t v, Tryd.f3.params[j]? = some t → args[j]? = some v → Value.okWide Tryd.prog W .any base t v := hval0
  have hW' := hW
  obtain ⟨p, q, hA0, hV, rfl, hfz, hnd⟩ := hW
  have hA : DataW.TrodAll enc Tryd.prog W 0 (fun _ => true) true Tryd.f3.params.toList args.toList ds p := hA0
  rw [Tryd.params3] at hA hval
  obtain ⟨v0, vs0, d0, ds0, p0, q0, hargs, rfl, rfl, h0, r0⟩ := trodAll_cons hA
  obtain ⟨rfl, rfl, rfl⟩ := trodAll_nil r0
  obtain rfl : args = #[v0] := by cases args; simp_all
  obtain ⟨rfl, rfl⟩ := trodVars_none hV
  have k0 := h0
  have lt0 : ∀ x ∈ p0, x.block < W.heap.size := by obtain ⟨m, hm⟩ := k0; exact DataW.trod_lt m _ _ _ hm
  obtain ⟨a0, len0, cap0, rfl⟩ := okWide_slice Tryd.underlying22 (hval 0 22 v0 rfl rfl)
  obtain ⟨nv0, hrow0, hlc0, hcm0, hem0, hwf0⟩ : ∃ nv, NRow W a0 len0 nv ∧ len0 ≤ cap0 ∧ cap0 ≤ maxLen ∧ (len0 = 0 → a0 = none ∧ cap0 = 0 ∨ ∃ b off, a0 = some ⟨b, off, none⟩ ∧ b < W.heap.size ∨ cap0 = 0) ∧ ∀ i, i < len0 → (Lit.int .i64 (nv i).f).wf = true ∧ (Lit.int .i64 (nv i).t).wf = true := by
    obtain ⟨fuel, hf⟩ := h0
    exact open_nodes (x := (d0, p0)) (by simpa [Value.cells] using hf)
  refine (treeShows_law W a0 len0 cap0 nv0 hrow0 (fun i hi => by have := (bounds_i64 (hwf0 i hi).2).2; omega) hT).mono fun e W' ⟨he, bel⟩ => ?_
  subst he
  exact ⟨_, rfl, _, _, _, [], _, [], hW', trodAll_mk1 (shut_bool Tryd.underlying4 _), (trodAll_cons_mk (Below.trod laidOut (by kernel_rfl) (of_decide_eq_true (by kernel_rfl)) k0 bel lt0) trodAll_mk0), rfl, bel.frame _, fun h => by cases h⟩

theorem laid_met (os : Os) : laidMet Tryd.prog Rows.treeShowsRow.laid ((laidWorld os).forCall (fun _ _ => 0) ⟨#[], #[.slice none 0 0], []⟩).memory :=
  laidMet_laidAll _ (by kernel_rfl) (by kernel_rfl)
theorem reads (os : Os) {H : Type} (enc : TypeId × Value → H) : ∃ places, DataW.whole enc Tryd.prog ((laidWorld os).forCall (fun _ _ => 0) ⟨#[], #[.slice none 0 0], []⟩).memory Tryd.f3.params.toList Rows.treeShowsSpec.vars false (#[.slice none 0 0] : Array Value).toList 8 = some ([.nil], [], places) :=
  ⟨[], by kernel_rfl⟩

set_option maxRecDepth 100000 in
theorem lifted (os : Os) (started : os.Started) (H : Type) (enc : TypeId × Value → H) (F : Stop.Interp) :
    ReturnsInHanded {} Tryd.checked os 3 .any ((OpenSpec.ofChange Rows.treeShowsSpec).preRow enc Tryd.prog Tryd.f3 Rows.treeShowsRow.domain false Rows.treeShowsRow.laid) (((OpenSpec.ofChange Rows.treeShowsSpec).at F).post enc Tryd.prog Tryd.f3 false true false false) := by
  obtain ⟨places, hx⟩ := reads os enc
  refine returnsInHanded_of_row (C := Tryd.checked) (s := OpenSpec.ofChange Rows.treeShowsSpec) own started (by kernel_rfl) Tryd.func3
    (witness_row_at (enc := enc) (C := Tryd.checked) false (laidWorld os) #[.slice none 0 0] (laidWorld_os os) (by kernel_rfl) (by kernel_rfl) (by kernel_rfl)
      (OpenSpec.preRow_of_cond 8 hx (by kernel_rfl) (fun k hk => by cases hk) (by kernel_rfl) (laid_met os))) ?_
  intro W base args ds gs before hval hW _ _ _ hL _ _
  exact contract H enc W base args ds gs before hval hW hL

set_option maxHeartbeats 4000000 in
theorem closed : joinedFacts Tryd.prog 3 Tryd.f3 (OpenSpec.ofChange Rows.treeShowsSpec).bare Rows.treeShowsRow = true := by
  unfold joinedFacts
  repeat' (with_reducible refine Bool.and_eq_true_iff.2 ⟨?_, ?_⟩)
  · kernel_rfl
  · exact pf_laid
  · exact pf_maps
  · kernel_rfl
  · kernel_rfl
  · kernel_rfl
  · kernel_rfl
  · kernel_rfl
  · kernel_rfl
  · as_aux_lemma => kernel_rfl
  · as_aux_lemma => kernel_rfl
  · as_aux_lemma => kernel_rfl
  · as_aux_lemma => kernel_rfl
  · kernel_rfl
  · kernel_rfl
  · kernel_rfl
  · kernel_rfl
  · kernel_rfl
  · kernel_rfl
  · kernel_rfl
  · kernel_rfl
  · kernel_rfl
  · exact pf_keys
  · kernel_rfl
  · exact pf_heard
  · exact pf_enter
  · exact pf_lifts
  · exact pf_make
  · kernel_rfl
  · kernel_rfl
  · kernel_rfl
  · kernel_rfl

theorem said : Rows.TreeShowsSaid :=
  OpenClaim.holds_of_cond 3 Tryd.f3 rfl rfl rfl rfl rfl rfl rfl ⟨rfl, rfl, rfl, rfl, rfl⟩ rfl rfl rfl rfl rfl (by kernel_rfl) Tryd.func3 closed
    (of_decide_eq_true (by kernel_rfl)) (by unfold Func.isWrapper; first | (rw [if_pos (by decide +kernel)]; kernel_rfl) | (rw [if_neg (by decide +kernel)]; exact ⟨rfl, rfl⟩))
    (fun os started H enc _ F => by rw [OpenClaim.pre_eq_preRow]; exact lifted os started H enc F)

theorem plain (f : FuncId) (fn : Func) (hf : Tryd.pinned.checked.prog.funcNamed "quillwort/quillwortlaw11.TreeShows" = some f) (hfn : Tryd.pinned.checked.prog.funcs[f]? = some fn) :
    false = Tryd.pinned.checked.prog.looks [] ∧ ∀ (j : Nat) t, fn.params[j]? = some t → Tryd.pinned.checked.prog.wantsStandIn t = false := by
  obtain rfl : f = 3 := Option.some.inj ((show Tryd.prog.funcNamed "quillwort/quillwortlaw11.TreeShows" = some 3 by kernel_rfl).symm.trans hf) |>.symm
  obtain rfl : fn = Tryd.f3 := (Option.some.inj (Tryd.func3.symm.trans hfn)).symm
  refine ⟨by kernel_rfl, fun j t ht => ?_⟩
  rw [Tryd.params3] at ht
  have hm : t ∈ [22] := by simpa using Array.mem_of_getElem? ht
  have hall : ([22].all fun u => !Tryd.prog.wantsStandIn u) = true := by kernel_rfl
  exact (show Tryd.prog.wantsStandIn t = false by simpa using List.all_eq_true.1 hall t hm)

theorem card : Rows.TreeShowsCardSaid :=
  Claim7.holds_tied_plain_at .later [] _ _ _ _ said (fun _ h => by cases h) (by kernel_rfl) (fun _ h => by cases h) treeShows_row_tie rfl ⟨rfl, rfl⟩ (by kernel_rfl) rfl plain (by kernel_rfl)
end Go.Proofs.YtdiolfniaiojfaaDoor.treeShowsP
namespace Go.Proofs.YtdiolfniaiojfaaDoor
/-- The statement. -/
theorem treeShows_holds : Rows.TreeShowsCardSaid := treeShowsP.card
end Go.Proofs.YtdiolfniaiojfaaDoor

/- The statement TreeAfter of layer 11 (tree): whatever the nodes, the law returns true and its arguments read as before. No condition. -/
import Derived.Test.YtmjckjbdkffkoaaTrLg
import Derived.Deep.Slices
import Derived.WalkKit
import Derived.ProofKit
import Derived.OpenShut
import Derived.ShutString
import Derived.ChangeOld
import Derived.Below
import Derived.Lib.SmallJoins
namespace Go.Proofs.Ytmjckjbdkffkoaa.treeAfterP
open Go.ChangeShapes Go.WideShapes Go.ChangeAt Go.RowKit Go.Joins
open Go.ChangeMaps (open_string shut_string)
open Go.Deep (open_slice)
set_option linter.unusedVariables false

theorem own : ownKnob Try.prog.godebug = none := by kernel_rfl
theorem laidOut : laidOutB Try.prog = true := by kernel_rfl

section
variable {H : Type} {enc : TypeId × Value → H} {w : World} {base : Nat} {spare : Nat → Bool} {held : Bool}
/-- One node read as data: its four cells. -/
theorem node_cells {n : Nat} {cs : List Value} {x : DataW H × List MemPlace} (h : DataW.trod enc Try.prog w base spare held n 29 cs = some x) :
    ∃ p : Nd, cs = [.int .i64 p.k, .int .i64 p.f, .int .i64 p.t, .int .i64 p.u] ∧ (Lit.int .i64 p.f).wf = true ∧ (Lit.int .i64 p.t).wf = true := by
  obtain ⟨xs, k, _, hx, hlen, hxl, hg⟩ := DataW.trod_struct Try.underlying29 h
  rw [show Try.prog.cellsOf 29 = 4 from by kernel_rfl] at hlen
  match cs, hlen with
  | [c0, c1, c2, c3], _ =>
    match xs, hxl with
    | [y0, y1, y2, y3], _ =>
      have e0 : DataW.trod enc Try.prog w base spare held k 3 (([c0, c1, c2, c3].drop 0).take (Try.prog.cellsOf 3)) = some y0 := hg 0 _ rfl
      have e1 : DataW.trod enc Try.prog w base spare held k 3 (([c0, c1, c2, c3].drop 1).take (Try.prog.cellsOf 3)) = some y1 := hg 1 _ rfl
      have e2 : DataW.trod enc Try.prog w base spare held k 3 (([c0, c1, c2, c3].drop 2).take (Try.prog.cellsOf 3)) = some y2 := hg 2 _ rfl
      have e3 : DataW.trod enc Try.prog w base spare held k 3 (([c0, c1, c2, c3].drop 3).take (Try.prog.cellsOf 3)) = some y3 := hg 3 _ rfl
      rw [show Try.prog.cellsOf 3 = 1 from by kernel_rfl] at e0 e1 e2 e3
      simp at e0 e1 e2 e3
      obtain ⟨a, x0, z0, _⟩ := DataW.trod_int Try.underlying3 e0
      obtain ⟨d, x1, z1, m1⟩ := DataW.trod_int Try.underlying3 e1
      obtain ⟨t, x2, z2, m2⟩ := DataW.trod_int Try.underlying3 e2
      obtain ⟨u, x3, z3, _⟩ := DataW.trod_int Try.underlying3 e3
      simp at x0 x1 x2 x3
      subst x0 x1 x2 x3
      exact ⟨⟨a, d, t, u⟩, rfl, m1, m2⟩
/-- What is read of a row of nodes: its cells. -/
theorem open_nodes {fuel : Nat} {a0 : Option Addr} {len cap : Nat} {x : DataW H × List MemPlace}
    (h : DataW.trod enc Try.prog w 0 (fun _ => true) true fuel 22 [.slice a0 len cap] = some x) : ∃ nv, NRow w a0 len nv ∧ len ≤ cap ∧ cap ≤ maxLen ∧ (len = 0 → a0 = none ∧ cap = 0 ∨ ∃ b off, a0 = some ⟨b, off, none⟩ ∧ b < w.heap.size ∨ cap = 0) ∧ ∀ i, i < len → (Lit.int .i64 (nv i).f).wf = true ∧ (Lit.int .i64 (nv i).t).wf = true := by
  rcases Go.Deep.open_slice Try.underlying22 h with ⟨hcs, _⟩ | ⟨a, l, c, m, n, D, Pl, hcs, hb, hl, hm, hmm, hx, hi⟩
  · simp only [List.cons.injEq, Value.slice.injEq, and_true] at hcs
    obtain ⟨rfl, rfl, rfl⟩ := hcs
    exact ⟨fun _ => ⟨0, 0, 0, 0⟩, fun i hi => by omega, Nat.le_refl _, by unfold maxLen; omega, fun _ => .inl ⟨rfl, rfl⟩, fun i hi => by omega⟩
  · simp only [List.cons.injEq, Value.slice.injEq, and_true] at hcs
    obtain ⟨rfl, rfl, rfl⟩ := hcs
    rw [if_pos rfl] at hmm
    subst hmm
    rw [show Try.prog.cellsOf 29 = 4 from by kernel_rfl] at hi hx
    rcases Nat.eq_zero_or_pos m with h0 | hpos
    · exact ⟨fun _ => ⟨0, 0, 0, 0⟩, fun i hi => by omega, hl, hm, fun _ => .inr ⟨0, 0, .inr h0⟩, fun i hi => by omega⟩
    obtain ⟨ab, aoff, spot⟩ := a
    have hspot : spot = none := by
      obtain ⟨cs', hc0, ht0⟩ := hi 0 (by omega)
      obtain ⟨p, rfl, _⟩ := node_cells ht0
      obtain ⟨_, _, hcell⟩ := World.cells?_some hc0
      have g := hcell 0 (by omega)
      simpa [Addr.add] using World.cell?_spot (v := .int .i64 p.k) (by simpa [Addr.add] using g)
    subst hspot
    have hblk : ab < w.heap.size := by
      obtain ⟨cs', hc0, _⟩ := hi 0 (by omega)
      exact World.cells?_block hc0 (by omega)
    have hex : ∀ i, ∃ p : Nd, i < m → (w.cell? ⟨ab, aoff + i * 4, none⟩ = some (.int .i64 p.k) ∧ w.cell? ⟨ab, aoff + i * 4 + 1, none⟩ = some (.int .i64 p.f) ∧ w.cell? ⟨ab, aoff + i * 4 + 2, none⟩ = some (.int .i64 p.t) ∧ w.cell? ⟨ab, aoff + i * 4 + 3, none⟩ = some (.int .i64 p.u)) ∧ (Lit.int .i64 p.f).wf = true ∧ (Lit.int .i64 p.t).wf = true := by
      intro i
      by_cases hlt : i < m
      · obtain ⟨cs', hc0, ht0⟩ := hi i (by omega)
        obtain ⟨p, rfl, w1, w2⟩ := node_cells ht0
        obtain ⟨_, _, hcell⟩ := World.cells?_some hc0
        have g0 := hcell 0 (by omega)
        have g1 := hcell 1 (by omega)
        have g2 := hcell 2 (by omega)
        have g3 := hcell 3 (by omega)
        rw [Go.Deep.add_add] at g0 g1 g2 g3
        have hadd : ∀ k, (⟨ab, aoff, none⟩ : Addr).add k = ⟨ab, aoff + k, none⟩ := by
          intro k
          unfold Addr.add
          split
          · rename_i hk; subst hk; rfl
          · rfl
        rw [hadd] at g0 g1 g2 g3
        exact ⟨p, fun _ => ⟨⟨by simpa using g0, by rw [Nat.add_assoc]; simpa using g1, by rw [Nat.add_assoc]; simpa using g2, by rw [Nat.add_assoc]; simpa using g3⟩, w1, w2⟩⟩
      · exact ⟨⟨0, 0, 0, 0⟩, fun h => absurd h hlt⟩
    obtain ⟨F, hF⟩ := Classical.axiomOfChoice hex
    exact ⟨F, fun i hi2 => ⟨ab, aoff, rfl, hblk, (hF i (by omega)).1⟩, hl, hm, fun _ => .inr ⟨ab, aoff, .inl ⟨rfl, hblk⟩⟩, fun i hi2 => (hF i (by omega)).2⟩
end

set_option maxRecDepth 100000 in
theorem lifted (os : Os) (started : os.Started) (H : Type) (enc : TypeId × Value → H) :
    ReturnsInHanded {} Try.checked os 3 .any (Rows.treeAfterSpec.pre6 enc Try.prog Try.f3 Rows.treeAfterRow.domain false) (Rows.treeAfterSpec.post enc Try.prog Try.f3 false true false false) := by
  refine returnsInHanded_of_change (C := Try.checked) own started (by kernel_rfl) Try.func3
    (ChangeSpec.witness6 (enc := enc) (C := Try.checked) false ⟨#[], #[.slice none 0 0], []⟩ 8 (by kernel_rfl) (by kernel_rfl) (by kernel_rfl) (by kernel_rfl)) ?_
  intro W base args ds gs before hval0 hW hcnd hsz
  have hval : ∀ (j : Nat) t v, Try.f3.params[j]? = some t → args[j]? = some v → Value.okWide Try.prog W .any base t v := hval0
  have hW' := hW
  obtain ⟨p, q, hA0, hV, rfl, hfz, hnd⟩ := hW
  have hA : DataW.TrodAll enc Try.prog W 0 (fun _ => true) true Try.f3.params.toList args.toList ds p := hA0
  rw [Try.params3] at hA hval
  obtain ⟨v0, vs0, d0, ds0, p0, q0, hargs, rfl, rfl, h0, r0⟩ := trodAll_cons hA
  obtain ⟨rfl, rfl, rfl⟩ := trodAll_nil r0
  obtain rfl : args = #[v0] := by cases args; simp_all
  obtain ⟨rfl, rfl⟩ := trodVars_none hV
  have k0 := h0
  have lt0 : ∀ x ∈ p0, x.block < W.heap.size := by obtain ⟨m, hm⟩ := k0; exact DataW.trod_lt m _ _ _ hm
  obtain ⟨a0, len0, cap0, rfl⟩ := okWide_slice Try.underlying22 (hval 0 22 v0 rfl rfl)
  obtain ⟨nv0, hrow0, hlc0, hcm0, hem0, hwf0⟩ : ∃ nv, NRow W a0 len0 nv ∧ len0 ≤ cap0 ∧ cap0 ≤ maxLen ∧ (len0 = 0 → a0 = none ∧ cap0 = 0 ∨ ∃ b off, a0 = some ⟨b, off, none⟩ ∧ b < W.heap.size ∨ cap0 = 0) ∧ ∀ i, i < len0 → (Lit.int .i64 (nv i).f).wf = true ∧ (Lit.int .i64 (nv i).t).wf = true := by
    obtain ⟨fuel, hf⟩ := h0
    exact open_nodes (x := (d0, p0)) (by simpa [Value.cells] using hf)
  refine (treeAfter_law W a0 len0 cap0 nv0 hrow0).mono fun e W' ⟨he, bel⟩ => ?_
  subst he
  exact ⟨_, rfl, _, _, _, [], _, [], hW', trodAll_mk1 (shut_bool Try.underlying4 _), (trodAll_cons_mk (Below.trod laidOut (by kernel_rfl) (of_decide_eq_true (by kernel_rfl)) k0 bel lt0) trodAll_mk0), rfl, bel.frame _, fun h => by cases h⟩

/-- The statement, within this text's own words. -/
theorem over : Rows.TreeAfterSaid :=
  OpenClaim.holds_of_wide 3 Try.f3 rfl rfl rfl rfl rfl rfl rfl ⟨rfl, rfl, rfl, rfl, rfl⟩ rfl rfl rfl rfl rfl (by kernel_rfl) Try.func3 (by kernel_rfl)
    (of_decide_eq_true (by kernel_rfl)) (by unfold Func.isWrapper; first | (rw [if_pos (by decide +kernel)]; kernel_rfl) | (rw [if_neg (by decide +kernel)]; exact ⟨rfl, rfl⟩))
    (fun os started H enc _ => lifted os started H enc)
end Go.Proofs.Ytmjckjbdkffkoaa.treeAfterP
namespace Go.Proofs.Ytmjckjbdkffkoaa
/-- The statement. -/
theorem treeAfter_holds : Rows.TreeAfterSaid := treeAfterP.over
end Go.Proofs.Ytmjckjbdkffkoaa

/- The statement PartsPick of layer 7 (parts): whatever the parts, the place and the number, the law returns true and its arguments read as before. No condition. -/
import Derived.Test.YthelcmjgikfbjaaPtLd
import Derived.Deep.Slices
import Derived.WalkKit
import Derived.ProofKit
import Derived.OpenShut
import Derived.ShutString
import Derived.ChangeOld
import Derived.Below
import Derived.Lib.SmallJoins
namespace Go.Proofs.Ythelcmjgikfbjaa.partsPickP
open Go.ChangeShapes Go.WideShapes Go.ChangeAt Go.RowKit Go.Joins
open Go.ChangeMaps (open_string shut_string)
open Go.Deep (open_slice)
set_option linter.unusedVariables false

theorem own : ownKnob Try.prog.godebug = none := by kernel_rfl
theorem laidOut : laidOutB Try.prog = true := by kernel_rfl

section
variable {H : Type} {enc : TypeId × Value → H} {w : World} {base : Nat} {spare : Nat → Bool} {held : Bool}
/-- One part read as data: its five cells. -/
theorem part_cells {n : Nat} {cs : List Value} {x : DataW H × List MemPlace} (h : DataW.trod enc Try.prog w base spare held n 27 cs = some x) :
    ∃ p : PVal, cs = [.int .i64 p.m, .int .i64 p.f, .int .i64 p.t, .int .i64 p.up, .bool p.op] := by
  obtain ⟨xs, k, _, hx, hlen, hxl, hg⟩ := DataW.trod_struct Try.underlying27 h
  rw [show Try.prog.cellsOf 27 = 5 from by kernel_rfl] at hlen
  match cs, hlen with
  | [c0, c1, c2, c3, c4], _ =>
    match xs, hxl with
    | [y0, y1, y2, y3, y4], _ =>
      have e0 : DataW.trod enc Try.prog w base spare held k 3 (([c0, c1, c2, c3, c4].drop 0).take (Try.prog.cellsOf 3)) = some y0 := hg 0 _ rfl
      have e1 : DataW.trod enc Try.prog w base spare held k 3 (([c0, c1, c2, c3, c4].drop 1).take (Try.prog.cellsOf 3)) = some y1 := hg 1 _ rfl
      have e2 : DataW.trod enc Try.prog w base spare held k 3 (([c0, c1, c2, c3, c4].drop 2).take (Try.prog.cellsOf 3)) = some y2 := hg 2 _ rfl
      have e3 : DataW.trod enc Try.prog w base spare held k 3 (([c0, c1, c2, c3, c4].drop 3).take (Try.prog.cellsOf 3)) = some y3 := hg 3 _ rfl
      have e4 : DataW.trod enc Try.prog w base spare held k 4 (([c0, c1, c2, c3, c4].drop 4).take (Try.prog.cellsOf 4)) = some y4 := hg 4 _ rfl
      rw [show Try.prog.cellsOf 3 = 1 from by kernel_rfl] at e0 e1 e2 e3
      rw [show Try.prog.cellsOf 4 = 1 from by kernel_rfl] at e4
      simp at e0 e1 e2 e3 e4
      obtain ⟨a, x0, z0, _⟩ := DataW.trod_int Try.underlying3 e0
      obtain ⟨d, x1, z1, _⟩ := DataW.trod_int Try.underlying3 e1
      obtain ⟨t, x2, z2, _⟩ := DataW.trod_int Try.underlying3 e2
      obtain ⟨u, x3, z3, _⟩ := DataW.trod_int Try.underlying3 e3
      obtain ⟨o, x4, _⟩ := DataW.trod_bool Try.underlying4 e4
      simp at x0 x1 x2 x3 x4
      subst x0 x1 x2 x3 x4
      exact ⟨⟨a, d, t, u, o⟩, rfl⟩
/-- What is read of a row of parts: its cells. -/
theorem open_parts {fuel : Nat} {a0 : Option Addr} {len cap : Nat} {x : DataW H × List MemPlace}
    (h : DataW.trod enc Try.prog w 0 (fun _ => true) true fuel 23 [.slice a0 len cap] = some x) (lt : ∀ q ∈ x.2, q.block < w.heap.size) : ∃ pv, PRow w a0 len pv := by
  rcases Nat.eq_zero_or_pos len with h0 | hpos
  · exact ⟨fun _ => ⟨0, 0, 0, 0, false⟩, fun i hi => by omega⟩
  · rcases Go.Deep.open_slice Try.underlying23 h with ⟨hcs, _⟩ | ⟨a, l, c, m, n, D, Pl, hcs, hb, hl, hm, hmm, hx, hi⟩
    · simp at hcs; omega
    · simp only [List.cons.injEq, Value.slice.injEq, and_true] at hcs
      obtain ⟨rfl, rfl, rfl⟩ := hcs
      rw [if_pos rfl] at hmm
      subst hmm
      rw [show Try.prog.cellsOf 27 = 5 from by kernel_rfl] at hi hx
      obtain ⟨ab, aoff, spot⟩ := a
      have hspot : spot = none := by
        obtain ⟨cs', hc0, ht0⟩ := hi 0 (by omega)
        obtain ⟨p, rfl⟩ := part_cells ht0
        obtain ⟨_, _, hcell⟩ := World.cells?_some hc0
        have g := hcell 0 (by omega)
        simpa [Addr.add] using World.cell?_spot (v := .int .i64 p.m) (by simpa [Addr.add] using g)
      subst hspot
      have hblk : ab < w.heap.size := by
        obtain ⟨cs', hc0, _⟩ := hi 0 (by omega)
        exact World.cells?_block hc0 (by omega)
      have hex : ∀ i, ∃ p : PVal, i < len → (w.cell? ⟨ab, aoff + i * 5, none⟩ = some (.int .i64 p.m) ∧ w.cell? ⟨ab, aoff + i * 5 + 1, none⟩ = some (.int .i64 p.f) ∧ w.cell? ⟨ab, aoff + i * 5 + 2, none⟩ = some (.int .i64 p.t) ∧ w.cell? ⟨ab, aoff + i * 5 + 3, none⟩ = some (.int .i64 p.up) ∧ w.cell? ⟨ab, aoff + i * 5 + 4, none⟩ = some (.bool p.op)) := by
        intro i
        by_cases hlt : i < len
        · obtain ⟨cs', hc0, ht0⟩ := hi i (by omega)
          obtain ⟨p, rfl⟩ := part_cells ht0
          obtain ⟨_, _, hcell⟩ := World.cells?_some hc0
          have g0 := hcell 0 (by omega)
          have g1 := hcell 1 (by omega)
          have g2 := hcell 2 (by omega)
          have g3 := hcell 3 (by omega)
          have g4 := hcell 4 (by omega)
          rw [Go.Deep.add_add] at g0 g1 g2 g3 g4
          have hadd : ∀ k, (⟨ab, aoff, none⟩ : Addr).add k = ⟨ab, aoff + k, none⟩ := by
            intro k
            unfold Addr.add
            split
            · rename_i hk; subst hk; rfl
            · rfl
          rw [hadd] at g0 g1 g2 g3 g4
          exact ⟨p, fun _ => ⟨by simpa using g0, by rw [Nat.add_assoc]; simpa using g1, by rw [Nat.add_assoc]; simpa using g2, by rw [Nat.add_assoc]; simpa using g3, by rw [Nat.add_assoc]; simpa using g4⟩⟩
        · exact ⟨⟨0, 0, 0, 0, false⟩, fun h => absurd h hlt⟩
      obtain ⟨F, hF⟩ := Classical.axiomOfChoice hex
      exact ⟨F, fun i hi2 => ⟨ab, aoff, rfl, hblk, hF i hi2⟩⟩
end

set_option maxRecDepth 100000 in
theorem lifted (os : Os) (started : os.Started) (H : Type) (enc : TypeId × Value → H) :
    ReturnsInHanded {} Try.checked os 6 .any (Rows.partsPickSpec.pre6 enc Try.prog Try.f6 Rows.partsPickRow.domain false) (Rows.partsPickSpec.post enc Try.prog Try.f6 false true false false) := by
  refine returnsInHanded_of_change (C := Try.checked) own started (by kernel_rfl) Try.func6
    (ChangeSpec.witness6 (enc := enc) (C := Try.checked) false ⟨#[], #[.slice none 0 0, .int .i64 0, .int .i64 0], []⟩ 8 (by kernel_rfl) (by kernel_rfl) (by kernel_rfl) (by kernel_rfl)) ?_
  intro W base args ds gs before hval0 hW hcnd hsz
  have hval : ∀ (j : Nat) t v, Try.f6.params[j]? = some t → args[j]? = some v → Value.okWide Try.prog W .any base t v := hval0
  have hW' := hW
  obtain ⟨p, q, hA0, hV, rfl, hfz, hnd⟩ := hW
  have hA : DataW.TrodAll enc Try.prog W 0 (fun _ => true) true Try.f6.params.toList args.toList ds p := hA0
  rw [Try.params6] at hA hval
  obtain ⟨v0, vs0, d0, ds0, p0, q0, hargs, rfl, rfl, h0, r0⟩ := trodAll_cons hA
  obtain ⟨v1, vs1, d1, ds1, p1, q1, rfl, rfl, rfl, h1, r1⟩ := trodAll_cons r0
  obtain ⟨v2, vs2, d2, ds2, p2, q2, rfl, rfl, rfl, h2, r2⟩ := trodAll_cons r1
  obtain ⟨rfl, rfl, rfl⟩ := trodAll_nil r2
  obtain rfl : args = #[v0, v1, v2] := by cases args; simp_all
  obtain ⟨rfl, rfl⟩ := trodVars_none hV
  have k0 := h0
  have lt0 : ∀ x ∈ p0, x.block < W.heap.size := by obtain ⟨m, hm⟩ := k0; exact DataW.trod_lt m _ _ _ hm
  have k1 := h1
  have lt1 : ∀ x ∈ p1, x.block < W.heap.size := by obtain ⟨m, hm⟩ := k1; exact DataW.trod_lt m _ _ _ hm
  have k2 := h2
  have lt2 : ∀ x ∈ p2, x.block < W.heap.size := by obtain ⟨m, hm⟩ := k2; exact DataW.trod_lt m _ _ _ hm
  obtain ⟨a1, rfl, e1, g1, w1⟩ := open_int Try.underlying3 (hval 1 3 v1 rfl rfl) h1
  obtain ⟨a2, rfl, e2, g2, w2⟩ := open_int Try.underlying3 (hval 2 3 v2 rfl rfl) h2
  obtain ⟨a0, len0, cap0, rfl⟩ := okWide_slice Try.underlying23 (hval 0 23 v0 rfl rfl)
  have hwalk : Calls Try.prog 6 #[.slice a0 len0 cap0, .int .i64 a1, .int .i64 a2] W fun e w' => e = .returned (.bool true) ∧ Below W.heap.size W w' := by
    by_cases hl : 60 < len0
    · exact partsPick_large W a0 len0 cap0 a1 a2 hl
    · obtain ⟨fuel, hf⟩ := h0
      obtain ⟨pv, hrow⟩ := open_parts (x := (d0, p0)) (by simpa [Value.cells] using hf) lt0
      exact partsPick_row W a0 len0 cap0 a1 a2 pv (by omega) hrow
  refine (hwalk).mono fun e W' ⟨he, bel⟩ => ?_
  subst he
  exact ⟨_, rfl, _, _, _, [], _, [], hW', trodAll_mk1 (shut_bool Try.underlying4 _), (trodAll_cons_mk (Below.trod laidOut (by kernel_rfl) (of_decide_eq_true (by kernel_rfl)) k0 bel lt0) (trodAll_cons_mk (Below.trod laidOut (by kernel_rfl) (of_decide_eq_true (by kernel_rfl)) k1 bel lt1) (trodAll_cons_mk (Below.trod laidOut (by kernel_rfl) (of_decide_eq_true (by kernel_rfl)) k2 bel lt2) trodAll_mk0))), rfl, bel.frame _, fun h => by cases h⟩

/-- The statement, within this text's own words. -/
theorem over : Rows.PartsPickSaid :=
  OpenClaim.holds_of_wide 6 Try.f6 rfl rfl rfl rfl rfl rfl rfl ⟨rfl, rfl, rfl, rfl, rfl⟩ rfl rfl rfl rfl rfl (by kernel_rfl) Try.func6 (by kernel_rfl)
    (of_decide_eq_true (by kernel_rfl)) (by unfold Func.isWrapper; first | (rw [if_pos (by decide +kernel)]; kernel_rfl) | (rw [if_neg (by decide +kernel)]; exact ⟨rfl, rfl⟩))
    (fun os started H enc _ => lifted os started H enc)
end Go.Proofs.Ythelcmjgikfbjaa.partsPickP
namespace Go.Proofs.Ythelcmjgikfbjaa
/-- The statement. -/
theorem partsPick_holds : Rows.PartsPickSaid := partsPickP.over
end Go.Proofs.Ythelcmjgikfbjaa

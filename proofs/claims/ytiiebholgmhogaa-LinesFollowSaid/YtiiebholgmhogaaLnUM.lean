/- The statement LinesFollow of layer 3 (lines): whatever the text and the edits, the law returns true and its arguments read as before. No condition. -/
import Derived.Test.YtiiebholgmhogaaLnU
import Derived.SizedLaws
import Derived.Deep.Slices
import Derived.WalkKit
import Derived.ProofKit
import Derived.OpenShut
import Derived.ShutString
import Derived.ChangeOld
import Derived.Below
import Derived.Lib.SmallJoins
namespace Go.Proofs.Ytiiebholgmhogaa.linesFollowP
open Go.ChangeShapes Go.WideShapes Go.ChangeAt Go.RowKit Go.Joins
open Go.ChangeMaps (open_string shut_string)
open Go.Deep (open_slice)
set_option linter.unusedVariables false

theorem own : ownKnob Try.prog.godebug = none := by kernel_rfl
theorem laidOut : laidOutB Try.prog = true := by kernel_rfl

section
variable {H : Type} {enc : TypeId × Value → H} {w : World} {base : Nat} {spare : Nat → Bool} {held : Bool}
/-- One edit read as data: its three cells and what they hold. -/
theorem edit_cells {n : Nat} {cs : List Value} {x : DataW H × List MemPlace} (h : DataW.trod enc Try.prog w base spare held n 41 cs = some x) :
    ∃ (a : Int) (d m : ByteArray), cs = [.int .i64 a, .string d, .string m] ∧ x.1 = .agg [.lit (.int .i64 a), .lit (.string d.data.toList), .lit (.string m.data.toList)] := by
  obtain ⟨xs, k, _, hx, hlen, hxl, hg⟩ := DataW.trod_struct Try.underlying41 h
  rw [show Try.prog.cellsOf 41 = 3 from by kernel_rfl] at hlen
  match cs, hlen with
  | [c0, c1, c2], _ =>
    match xs, hxl with
    | [y0, y1, y2], _ =>
      have e0 : DataW.trod enc Try.prog w base spare held k 3 (([c0, c1, c2].drop 0).take (Try.prog.cellsOf 3)) = some y0 := hg 0 _ rfl
      have e1 : DataW.trod enc Try.prog w base spare held k 9 (([c0, c1, c2].drop 1).take (Try.prog.cellsOf 9)) = some y1 := hg 1 _ rfl
      have e2 : DataW.trod enc Try.prog w base spare held k 9 (([c0, c1, c2].drop 2).take (Try.prog.cellsOf 9)) = some y2 := hg 2 _ rfl
      rw [show Try.prog.cellsOf 3 = 1 from by kernel_rfl] at e0
      rw [show Try.prog.cellsOf 9 = 1 from by kernel_rfl] at e1 e2
      simp at e0 e1 e2
      obtain ⟨a, x0, z0, _⟩ := DataW.trod_int Try.underlying3 e0
      obtain ⟨d, x1, z1, _⟩ := DataW.trod_string Try.underlying9 e1
      obtain ⟨m, x2, z2, _⟩ := DataW.trod_string Try.underlying9 e2
      simp at x0 x1 x2
      subst x0 x1 x2 z0 z1 z2
      exact ⟨a, d, m, rfl, by rw [hx]; rfl⟩
theorem weightsAll_mem {P : Program} {e : TypeId} {d : DataW H} {n : Nat} : ∀ {l : List (DataW H)}, d ∈ l → n ∈ d.weights P e → n ∈ DataW.weightsAll P e l
  | x :: r, hd, hn => by
    unfold DataW.weightsAll
    rw [List.mem_append]
    rcases List.mem_cons.1 hd with g | g
    · subst g; exact .inl hn
    · exact .inr (weightsAll_mem g hn)
/-- What is read of a row of edits: its cells, and that none of its texts is beyond the reach. -/
theorem open_edits {fuel : Nat} {a0 : Option Addr} {len cap : Nat} {x : DataW H × List MemPlace} {ts : List TypeId} {ds : List (DataW H)} {j : Nat}
    (h : DataW.trod enc Try.prog w 0 (fun _ => true) true fuel 39 [.slice a0 len cap] = some x)
    (hsz : (DataW.weightsEach Try.prog ts ds).all (· ≤ reachBytes) = true) (ht : ts[j]? = some 39) (hd : ds[j]? = some x.1) (lt : ∀ q ∈ x.2, q.block < w.heap.size) :
    len = 0 ∨ ∃ (b off : Nat) (av : Nat → Int) (dv nv : Nat → ByteArray), a0 = some ⟨b, off, none⟩ ∧ EdRow w b off len av dv nv ∧
      (∀ i, i < len → (dv i).size ≤ 140737488351232) ∧ (∀ i, i < len → (nv i).size ≤ 140737488351232) := by
  rcases Nat.eq_zero_or_pos len with h0 | hpos
  · exact .inl h0
  · right
    rcases Go.Deep.open_slice Try.underlying39 h with ⟨hcs, _⟩ | ⟨a, l, c, m, n, D, Pl, hcs, hb, hl, hm, hmm, hx, hi⟩
    · simp at hcs; omega
    · simp only [List.cons.injEq, Value.slice.injEq, and_true] at hcs
      obtain ⟨rfl, rfl, rfl⟩ := hcs
      rw [if_pos rfl] at hmm
      subst hmm
      rw [show Try.prog.cellsOf 41 = 3 from by kernel_rfl] at hi hx
      obtain ⟨ab, aoff, spot⟩ := a
      have hspot : spot = none := by
        obtain ⟨cs', hc0, ht0⟩ := hi 0 (by omega)
        obtain ⟨u, d, k, rfl, _⟩ := edit_cells ht0
        obtain ⟨_, _, hcell⟩ := World.cells?_some hc0
        have g := hcell 0 (by omega)
        simpa [Addr.add] using World.cell?_spot (v := .int .i64 u) (by simpa [Addr.add] using g)
      subst hspot
      have hex : ∀ i, ∃ e : Int × ByteArray × ByteArray, i < len → (w.cell? ⟨ab, aoff + i * 3, none⟩ = some (.int .i64 e.1) ∧ w.cell? ⟨ab, aoff + i * 3 + 1, none⟩ = some (.string e.2.1) ∧ w.cell? ⟨ab, aoff + i * 3 + 2, none⟩ = some (.string e.2.2)) ∧ e.2.1.size ≤ 140737488351232 ∧ e.2.2.size ≤ 140737488351232 := by
        intro i
        by_cases hlt : i < len
        · obtain ⟨cs', hc0, ht0⟩ := hi i (by omega)
          obtain ⟨u, d, k, rfl, hy⟩ := edit_cells ht0
          obtain ⟨_, _, hcell⟩ := World.cells?_some hc0
          have g0 := hcell 0 (by omega)
          have g1 := hcell 1 (by omega)
          have g2 := hcell 2 (by omega)
          rw [Go.Deep.add_add] at g0 g1 g2
          have hadd : ∀ k, (⟨ab, aoff, none⟩ : Addr).add k = ⟨ab, aoff + k, none⟩ := by
            intro k
            unfold Addr.add
            split
            · rename_i hk; subst hk; rfl
            · rfl
          rw [hadd] at g0 g1 g2
          have hmem : D i ∈ (List.range len).map D := List.mem_map.2 ⟨i, List.mem_range.2 hlt, rfl⟩
          have hw : ∀ q, q ∈ (D i).weights Try.prog 41 → q ≤ reachBytes := by
            intro q hq
            have := List.all_eq_true.1 hsz q (DataW.weights_mem_each ht hd q (by
              rw [hx]
              simp only [DataW.weights, Try.underlying39]
              exact List.mem_cons_of_mem _ (List.mem_append_left _ (weightsAll_mem hmem hq))))
            simpa using this
          simp only at hy
          refine ⟨(u, d, k), fun _ => ⟨⟨by simpa using g0, by rw [Nat.add_assoc]; simpa using g1, by rw [Nat.add_assoc]; simpa using g2⟩, ?_, ?_⟩⟩
          · have := hw d.data.toList.length (by rw [hy]; simp [DataW.weights, DataW.weightsEach, Try.underlying41])
            exact this
          · have := hw k.data.toList.length (by rw [hy]; simp [DataW.weights, DataW.weightsEach, Try.underlying41])
            exact this
        · exact ⟨(0, ⟨#[]⟩, ⟨#[]⟩), fun h => absurd h hlt⟩
      obtain ⟨F, hF⟩ := Classical.axiomOfChoice hex
      refine ⟨ab, aoff, fun i => (F i).1, fun i => (F i).2.1, fun i => (F i).2.2, rfl, ⟨?_, fun i hi2 => (hF i hi2).1⟩, fun i hi2 => (hF i hi2).2.1, fun i hi2 => (hF i hi2).2.2⟩
      obtain ⟨cs', hc0, _⟩ := hi 0 (by omega)
      exact World.cells?_block hc0 (by omega)
end

set_option maxRecDepth 100000 in
theorem lifted (os : Os) (started : os.Started) (H : Type) (enc : TypeId × Value → H) :
    ReturnsInHanded {} Try.checked os 5 .any (Rows.linesFollowSpec.pre6 enc Try.prog Try.f5 Rows.linesFollowRow.domain false) (Rows.linesFollowSpec.post enc Try.prog Try.f5 false true false false) := by
  refine returnsInHanded_of_change_sized (C := Try.checked) own started (by kernel_rfl) Try.func5
    (ChangeSpec.witness6 (enc := enc) (C := Try.checked) false ⟨#[], #[.string ⟨#[]⟩, .slice none 0 0], []⟩ 8 (by kernel_rfl) (by kernel_rfl) (by kernel_rfl) (by kernel_rfl)) ?_
  intro W base args ds gs before hval0 hW hcnd hsz0 hholds
  have hval : ∀ (j : Nat) t v, Try.f5.params[j]? = some t → args[j]? = some v → Value.okWide Try.prog W .any base t v := hval0
  have hW' := hW
  obtain ⟨p, q, hA0, hV, rfl, hfz, hnd⟩ := hW
  have hA : DataW.TrodAll enc Try.prog W 0 (fun _ => true) true Try.f5.params.toList args.toList ds p := hA0
  have hsz : (DataW.weightsEach Try.prog (Try.f5.params.toList ++ Rows.linesFollowSpec.plain.varTypes Try.prog) (ds ++ gs)).all (· ≤ reachBytes) = true := hsz0
  rw [Try.params5] at hA hval hsz
  obtain ⟨v0, vs0, d0, ds0, p0, q0, hargs, rfl, rfl, h0, r0⟩ := trodAll_cons hA
  obtain ⟨v1, vs1, d1, ds1, p1, q1, rfl, rfl, rfl, h1, r1⟩ := trodAll_cons r0
  obtain ⟨rfl, rfl, rfl⟩ := trodAll_nil r1
  obtain rfl : args = #[v0, v1] := by cases args; simp_all
  obtain ⟨rfl, rfl⟩ := trodVars_none hV
  have k0 := h0
  have lt0 : ∀ x ∈ p0, x.block < W.heap.size := by obtain ⟨m, hm⟩ := k0; exact DataW.trod_lt m _ _ _ hm
  have k1 := h1
  have lt1 : ∀ x ∈ p1, x.block < W.heap.size := by obtain ⟨m, hm⟩ := k1; exact DataW.trod_lt m _ _ _ hm
  obtain ⟨a0, rfl, e0, g0, w0⟩ := open_string Try.underlying9 (hval 0 9 v0 rfl rfl) h0
  obtain ⟨a1, len1, cap1, rfl⟩ := okWide_slice Try.underlying39 (hval 1 39 v1 rfl rfl)
  have hwalk : Calls Try.prog 5 #[.string a0, .slice a1 len1 cap1] W fun e w' => e = .returned (.bool true) ∧ Below W.heap.size W w' := by
    by_cases hl : 200 < a0.size ∨ 12 < len1
    · exact follow_large a0 a1 len1 cap1 W hl
    · obtain ⟨fuel, hf⟩ := h1
      rcases open_edits (x := (d1, p1)) (j := 1) (by simpa [Value.cells] using hf) hsz rfl rfl lt1 with h00 | ⟨b, off, av, dv, nv, rfl, hrow, hd, hn⟩
      · subst h00
        exact follow_none a0 a1 cap1 W (by omega)
      · exact follow_row av dv nv a0 b off len1 cap1 W (by omega) (by omega) hrow
  refine (hwalk).mono fun e W' ⟨he, bel⟩ => ?_
  subst he
  exact ⟨_, rfl, _, _, _, [], _, [], hW', trodAll_mk1 (shut_bool Try.underlying4 _), (trodAll_cons_mk (Below.trod laidOut (by kernel_rfl) (of_decide_eq_true (by kernel_rfl)) k0 bel lt0) (trodAll_cons_mk (Below.trod laidOut (by kernel_rfl) (of_decide_eq_true (by kernel_rfl)) k1 bel lt1) trodAll_mk0)), rfl, bel.frame _, fun h => by cases h⟩

/-- The statement, within this text's own words. -/
theorem over : Rows.LinesFollowSaid :=
  OpenClaim.holds_of_wide 5 Try.f5 rfl rfl rfl rfl rfl rfl rfl ⟨rfl, rfl, rfl, rfl, rfl⟩ rfl rfl rfl rfl rfl (by kernel_rfl) Try.func5 (by kernel_rfl)
    (of_decide_eq_true (by kernel_rfl)) (by unfold Func.isWrapper; first | (rw [if_pos (by decide +kernel)]; kernel_rfl) | (rw [if_neg (by decide +kernel)]; exact ⟨rfl, rfl⟩))
    (fun os started H enc _ => lifted os started H enc)
end Go.Proofs.Ytiiebholgmhogaa.linesFollowP
namespace Go.Proofs.Ytiiebholgmhogaa
/-- The statement. -/
theorem linesFollow_holds : Rows.LinesFollowSaid := linesFollowP.over
end Go.Proofs.Ytiiebholgmhogaa

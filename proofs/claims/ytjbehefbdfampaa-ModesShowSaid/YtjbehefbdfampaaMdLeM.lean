/- The statement ModesShow of layer 6 (modes): whatever the frames, the law returns true and its argument reads as before. No condition. -/
import Derived.Test.YtjbehefbdfampaaMdLe
import Derived.Deep.Slices
import Derived.WalkKit
import Derived.ProofKit
import Derived.OpenShut
import Derived.ShutString
import Derived.ChangeOld
import Derived.Below
import Derived.Lib.SmallJoins
namespace Go.Proofs.Ytjbehefbdfampaa.modesShowP
open Go.ChangeShapes Go.WideShapes Go.ChangeAt Go.RowKit Go.Joins
open Go.ChangeMaps (open_string shut_string)
open Go.Deep (open_slice)
set_option linter.unusedVariables false

theorem own : ownKnob Try.prog.godebug = none := by kernel_rfl
theorem laidOut : laidOutB Try.prog = true := by kernel_rfl

section
variable {H : Type} {enc : TypeId × Value → H} {w : World} {base : Nat} {spare : Nat → Bool} {held : Bool}
/-- One frame read as data: its two cells. -/
theorem frame_cells {n : Nat} {cs : List Value} {x : DataW H × List MemPlace} (h : DataW.trod enc Try.prog w base spare held n 41 cs = some x) :
    ∃ a d : Int, cs = [.int .i64 a, .int .i64 d] := by
  obtain ⟨xs, k, _, hx, hlen, hxl, hg⟩ := DataW.trod_struct Try.underlying41 h
  rw [show Try.prog.cellsOf 41 = 2 from by kernel_rfl] at hlen
  match cs, hlen with
  | [c0, c1], _ =>
    match xs, hxl with
    | [y0, y1], _ =>
      have e0 : DataW.trod enc Try.prog w base spare held k 3 (([c0, c1].drop 0).take (Try.prog.cellsOf 3)) = some y0 := hg 0 _ rfl
      have e1 : DataW.trod enc Try.prog w base spare held k 3 (([c0, c1].drop 1).take (Try.prog.cellsOf 3)) = some y1 := hg 1 _ rfl
      rw [show Try.prog.cellsOf 3 = 1 from by kernel_rfl] at e0 e1
      simp at e0 e1
      obtain ⟨a, x0, z0, _⟩ := DataW.trod_int Try.underlying3 e0
      obtain ⟨d, x1, z1, _⟩ := DataW.trod_int Try.underlying3 e1
      simp at x0 x1
      subst x0 x1
      exact ⟨a, d, rfl⟩
/-- What is read of a row of frames: its cells. -/
theorem open_frames {fuel : Nat} {a0 : Option Addr} {len cap : Nat} {x : DataW H × List MemPlace}
    (h : DataW.trod enc Try.prog w 0 (fun _ => true) true fuel 23 [.slice a0 len cap] = some x) (lt : ∀ q ∈ x.2, q.block < w.heap.size) : ∃ fv, FrAt w a0 len fv := by
  rcases Nat.eq_zero_or_pos len with h0 | hpos
  · exact ⟨fun _ => (0, 0), fun i hi => by omega⟩
  · rcases Go.Deep.open_slice Try.underlying23 h with ⟨hcs, _⟩ | ⟨a, l, c, m, n, D, Pl, hcs, hb, hl, hm, hmm, hx, hi⟩
    · simp at hcs; omega
    · simp only [List.cons.injEq, Value.slice.injEq, and_true] at hcs
      obtain ⟨rfl, rfl, rfl⟩ := hcs
      rw [if_pos rfl] at hmm
      subst hmm
      rw [show Try.prog.cellsOf 41 = 2 from by kernel_rfl] at hi hx
      obtain ⟨ab, aoff, spot⟩ := a
      have hspot : spot = none := by
        obtain ⟨cs', hc0, ht0⟩ := hi 0 (by omega)
        obtain ⟨u, d, rfl⟩ := frame_cells ht0
        obtain ⟨_, _, hcell⟩ := World.cells?_some hc0
        have g := hcell 0 (by omega)
        simpa [Addr.add] using World.cell?_spot (v := .int .i64 u) (by simpa [Addr.add] using g)
      subst hspot
      have hblk : ab < w.heap.size := by
        obtain ⟨cs', hc0, _⟩ := hi 0 (by omega)
        exact World.cells?_block hc0 (by omega)
      have hex : ∀ i, ∃ e : Int × Int, i < len → (w.cell? ⟨ab, aoff + i * 2, none⟩ = some (.int .i64 e.1) ∧ w.cell? ⟨ab, aoff + i * 2 + 1, none⟩ = some (.int .i64 e.2)) := by
        intro i
        by_cases hlt : i < len
        · obtain ⟨cs', hc0, ht0⟩ := hi i (by omega)
          obtain ⟨u, d, rfl⟩ := frame_cells ht0
          obtain ⟨_, _, hcell⟩ := World.cells?_some hc0
          have g0 := hcell 0 (by omega)
          have g1 := hcell 1 (by omega)
          rw [Go.Deep.add_add] at g0 g1
          have hadd : ∀ k, (⟨ab, aoff, none⟩ : Addr).add k = ⟨ab, aoff + k, none⟩ := by
            intro k
            unfold Addr.add
            split
            · rename_i hk; subst hk; rfl
            · rfl
          rw [hadd] at g0 g1
          exact ⟨(u, d), fun _ => ⟨by simpa using g0, by rw [Nat.add_assoc]; simpa using g1⟩⟩
        · exact ⟨(0, 0), fun h => absurd h hlt⟩
      obtain ⟨F, hF⟩ := Classical.axiomOfChoice hex
      exact ⟨F, fun i hi2 => ⟨ab, aoff, rfl, hblk, (hF i hi2).1, (hF i hi2).2⟩⟩
end

set_option maxRecDepth 100000 in
theorem lifted (os : Os) (started : os.Started) (H : Type) (enc : TypeId × Value → H) :
    ReturnsInHanded {} Try.checked os 7 .any (Rows.modesShowSpec.pre6 enc Try.prog Try.f7 Rows.modesShowRow.domain false) (Rows.modesShowSpec.post enc Try.prog Try.f7 false true false false) := by
  refine returnsInHanded_of_change (C := Try.checked) own started (by kernel_rfl) Try.func7
    (ChangeSpec.witness6 (enc := enc) (C := Try.checked) false ⟨#[], #[.slice none 0 0], []⟩ 8 (by kernel_rfl) (by kernel_rfl) (by kernel_rfl) (by kernel_rfl)) ?_
  intro W base args ds gs before hval0 hW hcnd hsz
  have hval : ∀ (j : Nat) t v, Try.f7.params[j]? = some t → args[j]? = some v → Value.okWide Try.prog W .any base t v := hval0
  have hW' := hW
  obtain ⟨p, q, hA0, hV, rfl, hfz, hnd⟩ := hW
  have hA : DataW.TrodAll enc Try.prog W 0 (fun _ => true) true Try.f7.params.toList args.toList ds p := hA0
  rw [Try.params7] at hA hval
  obtain ⟨v0, vs0, d0, ds0, p0, q0, hargs, rfl, rfl, h0, r0⟩ := trodAll_cons hA
  obtain ⟨rfl, rfl, rfl⟩ := trodAll_nil r0
  obtain rfl : args = #[v0] := by cases args; simp_all
  obtain ⟨rfl, rfl⟩ := trodVars_none hV
  have k0 := h0
  have lt0 : ∀ x ∈ p0, x.block < W.heap.size := by obtain ⟨m, hm⟩ := k0; exact DataW.trod_lt m _ _ _ hm
  obtain ⟨a0, len0, cap0, rfl⟩ := okWide_slice Try.underlying23 (hval 0 23 v0 rfl rfl)
  have hwalk : Calls Try.prog 7 #[.slice a0 len0 cap0] W fun e w' => e = .returned (.bool true) ∧ Below W.heap.size W w' := by
    by_cases hl : 100 < len0
    · exact show_large a0 len0 cap0 W hl
    · obtain ⟨fuel, hf⟩ := h0
      obtain ⟨fv, hrow⟩ := open_frames (x := (d0, p0)) (by simpa [Value.cells] using hf) lt0
      exact show_row a0 len0 cap0 fv W (by omega) hrow
  refine (hwalk).mono fun e W' ⟨he, bel⟩ => ?_
  subst he
  exact ⟨_, rfl, _, _, _, [], _, [], hW', trodAll_mk1 (shut_bool Try.underlying4 _), (trodAll_cons_mk (Below.trod laidOut (by kernel_rfl) (of_decide_eq_true (by kernel_rfl)) k0 bel lt0) trodAll_mk0), rfl, bel.frame _, fun h => by cases h⟩

/-- The statement, within this text's own words. -/
theorem over : Rows.ModesShowSaid :=
  OpenClaim.holds_of_wide 7 Try.f7 rfl rfl rfl rfl rfl rfl rfl ⟨rfl, rfl, rfl, rfl, rfl⟩ rfl rfl rfl rfl rfl (by kernel_rfl) Try.func7 (by kernel_rfl)
    (of_decide_eq_true (by kernel_rfl)) (by unfold Func.isWrapper; first | (rw [if_pos (by decide +kernel)]; kernel_rfl) | (rw [if_neg (by decide +kernel)]; exact ⟨rfl, rfl⟩))
    (fun os started H enc _ => lifted os started H enc)
end Go.Proofs.Ytjbehefbdfampaa.modesShowP
namespace Go.Proofs.Ytjbehefbdfampaa
/-- The statement. -/
theorem modesShow_holds : Rows.ModesShowSaid := modesShowP.over
end Go.Proofs.Ytjbehefbdfampaa

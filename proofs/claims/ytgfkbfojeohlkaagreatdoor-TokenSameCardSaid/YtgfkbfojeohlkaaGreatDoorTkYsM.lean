/- The statement TokenSame of layer 9 (token), as a card: whatever the lexings, the law returns true and its arguments read as before. Condition: none of the input; the listed tables are tied to the program's own text. -/
import Derived.Test.YtgfkbfojeohlkaaGreatDoorTkYs
import Derived.Test.YtgfkbfojeohlkaaGreatDoorTkO
import Derived.Lib.SmallJoins
import Derived.ChangeOld
import Derived.ShutString
import Derived.Below
import Derived.ChangeSlices
import Derived.Deep.Slices
namespace Go.Proofs.YtgfkbfojeohlkaaGreatDoor.tokenSameP
open Go.ChangeShapes Go.WideShapes Go.ChangeAt Go.RowKit Go.Joins
open Go.ChangeMaps (open_string shut_string)
open Go.Deep (open_slice)
set_option linter.unusedVariables false
set_option maxRecDepth 100000

theorem own : ownKnob Tryz.prog.godebug = none := by kernel_rfl
theorem laidOut : laidOutB Tryz.prog = true := pf_laid
section
variable {H : Type} {enc : TypeId × Value → H} {w : World} {base : Nat} {spare : Nat → Bool} {held : Bool}
theorem delim_cells {n : Nat} {cs : List Value} {x : DataW H × List MemPlace} (h : DataW.trod enc Tryz.prog w base spare held n 49 cs = some x) :
    ∃ p : Dl, cs = [.string p.word, .bool p.tabs] := by
  obtain ⟨xs, k, _, hx, hlen, hxl, hg⟩ := DataW.trod_struct Tryz.underlying49 h
  rw [show Tryz.prog.cellsOf 49 = 2 from by kernel_rfl] at hlen
  match cs, hlen with
  | [c0, c1], _ =>
    match xs, hxl with
    | [y0, y1], _ =>
      have e0 : DataW.trod enc Tryz.prog w base spare held k 9 (([c0, c1].drop 0).take (Tryz.prog.cellsOf 9)) = some y0 := hg 0 _ rfl
      have e1 : DataW.trod enc Tryz.prog w base spare held k 4 (([c0, c1].drop 1).take (Tryz.prog.cellsOf 4)) = some y1 := hg 1 _ rfl
      rw [show Tryz.prog.cellsOf 9 = 1 from by kernel_rfl] at e0
      rw [show Tryz.prog.cellsOf 4 = 1 from by kernel_rfl] at e1
      simp at e0 e1
      obtain ⟨a, x0, z0, _⟩ := DataW.trod_string Tryz.underlying9 e0
      obtain ⟨o, x1, _⟩ := DataW.trod_bool Tryz.underlying4 e1
      simp at x0 x1
      subst x0 x1
      exact ⟨⟨a, o⟩, rfl⟩
theorem open_delims {fuel : Nat} {a0 : Option Addr} {len cap : Nat} {x : DataW H × List MemPlace}
    (h : DataW.trod enc Tryz.prog w base (fun _ => true) true fuel 24 [.slice a0 len cap] = some x) : ∃ l, RdD w a0 len l := by
  rcases Nat.eq_zero_or_pos len with h0 | hpos
  · subst h0
    exact ⟨[], rfl, fun i t hi => by cases hi⟩
  · rcases Go.Deep.open_slice Tryz.underlying24 h with ⟨hcs, _⟩ | ⟨a, l, c, m, n, D, Pl, hcs, hb, hl, hm, hmm, hx, hi⟩
    · simp at hcs; omega
    · simp only [List.cons.injEq, Value.slice.injEq, and_true] at hcs
      obtain ⟨rfl, rfl, rfl⟩ := hcs
      rw [if_pos rfl] at hmm
      subst hmm
      rw [show Tryz.prog.cellsOf 49 = 2 from by kernel_rfl] at hi hx
      obtain ⟨ab, aoff, spot⟩ := a
      have hspot : spot = none := by
        obtain ⟨cs', hc0, ht0⟩ := hi 0 (by omega)
        obtain ⟨p, rfl⟩ := delim_cells ht0
        obtain ⟨_, _, hcell⟩ := World.cells?_some hc0
        have g := hcell 0 (by simp)
        simpa [Addr.add] using World.cell?_spot (by simpa [Addr.add] using g)
      subst hspot
      have hblk : ab < w.heap.size := by
        obtain ⟨cs', hc0, _⟩ := hi 0 (by omega)
        exact World.cells?_block hc0 (by omega)
      have hex : ∀ i, ∃ e : Dl, i < len → (w.cell? ⟨ab, aoff + i * 2, none⟩ = some (.string e.word) ∧ w.cell? ⟨ab, aoff + i * 2 + 1, none⟩ = some (.bool e.tabs)) := by
        intro i
        by_cases hlt : i < len
        · obtain ⟨cs', hc0, ht0⟩ := hi i (by omega)
          obtain ⟨p, rfl⟩ := delim_cells ht0
          obtain ⟨_, _, hcell⟩ := World.cells?_some hc0
          have g0 := hcell 0 (by omega)
          have g1 := hcell 1 (by omega)
          rw [Go.Deep.add_add] at g0 g1
          have hadd : ∀ k, (⟨ab, aoff, none⟩ : Addr).add k = ⟨ab, aoff + k, none⟩ := by
            intro k
            unfold Addr.add
            split
            · rename_i hk; subst hk; rfl
            · rfl
          rw [hadd] at g0 g1
          exact ⟨p, fun _ => ⟨by simpa using g0, by rw [Nat.add_assoc]; simpa using g1⟩⟩
        · exact ⟨⟨⟨#[]⟩, false⟩, fun h => absurd h hlt⟩
      obtain ⟨F, hF⟩ := Classical.axiomOfChoice hex
      refine ⟨(List.range len).map F, by simp, fun j t hj => ?_⟩
      rw [List.getElem?_map] at hj
      obtain ⟨i, hi1, hi2⟩ := Option.map_eq_some_iff.1 hj
      obtain ⟨hi3, hi4⟩ := List.getElem?_eq_some_iff.1 hi1
      rw [List.getElem_range] at hi4
      rw [List.length_range] at hi3
      subst hi4 hi2
      exact ⟨ab, aoff, rfl, hblk, hF j hi3⟩
theorem open_lex {n : Nat} {cs : Array Value} {x : DataW H × List MemPlace} (h : DataW.trod enc Tryz.prog w base (fun _ => true) true n 26 cs.toList = some x) :
    ∃ (A : Int) (oa : Option Addr) (m c : Nat) (b : Bool), cs = #[.int .i64 A, .slice oa m c, .bool b] ∧ ∃ l, RdD w oa m l := by
  obtain ⟨xs, k, _, hx, hlen, hxl, hg⟩ := DataW.trod_struct Tryz.underlying26 h
  rw [show Tryz.prog.cellsOf 26 = 3 from by kernel_rfl] at hlen
  obtain ⟨cs⟩ := cs
  match cs, hlen with
  | [c0, c1, c2], _ =>
    match xs, hxl with
    | [y0, y1, y2], _ =>
      have e0 : DataW.trod enc Tryz.prog w base (fun _ => true) true k 3 (([c0, c1, c2].drop 0).take (Tryz.prog.cellsOf 3)) = some y0 := hg 0 _ rfl
      have e1 : DataW.trod enc Tryz.prog w base (fun _ => true) true k 24 (([c0, c1, c2].drop 1).take (Tryz.prog.cellsOf 24)) = some y1 := hg 1 _ rfl
      have e2 : DataW.trod enc Tryz.prog w base (fun _ => true) true k 4 (([c0, c1, c2].drop 2).take (Tryz.prog.cellsOf 4)) = some y2 := hg 2 _ rfl
      rw [show Tryz.prog.cellsOf 3 = 1 from by kernel_rfl] at e0
      rw [show Tryz.prog.cellsOf 24 = 1 from by kernel_rfl] at e1
      rw [show Tryz.prog.cellsOf 4 = 1 from by kernel_rfl] at e2
      simp at e0 e1 e2
      obtain ⟨a, x0, z0, _⟩ := DataW.trod_int Tryz.underlying3 e0
      obtain ⟨o, x2, _⟩ := DataW.trod_bool Tryz.underlying4 e2
      simp at x0 x2
      subst x0 x2
      rcases Go.Deep.open_slice Tryz.underlying24 e1 with ⟨hcs, _⟩ | ⟨a', l, c, m, n, D, Pl, hcs, _⟩
      · simp at hcs
        subst hcs
        exact ⟨a, none, 0, 0, o, rfl, [], rfl, fun i t hi => by cases hi⟩
      · simp at hcs
        subst hcs
        exact ⟨a, some a', l, c, o, rfl, open_delims e1⟩
end

theorem contract (H : Type) (enc : TypeId × Value → H) (W : World) (base : Nat) (args : Array Value) (ds gs : List (DataW H)) (before : List MemPlace)
    (hval0 : ∀ (j : Nat) t v, Tryz.f10.params[j]? = some t → args[j]? = some v → Value.okWide Tryz.prog W .any base t v)
    (hW : DataW.Whole enc Tryz.prog Tryz.f10.params.toList Rows.tokenSameSpec.vars false W args.toList ds gs before) (hL : laidMetH Tryz.prog Rows.tokenSameRow.laid W) :
    Calls Tryz.prog 10 args W fun e W' => ∃ v, e = .returned v ∧ Rows.tokenSameSpec.post enc Tryz.prog Tryz.f10 false true false false W args v W' := by
  have hT : Tx W := tx_of_laid hL
  have hval : ∀ (j : Nat) t v, Tryz.f10.params[j]? = some t → args[j]? = some v → Value.okWide Tryz.prog W .any base t v := hval0
  have hW' := hW
  obtain ⟨p, q, hA0, hV, rfl, hfz, hnd⟩ := hW
  have hA : DataW.TrodAll enc Tryz.prog W 0 (fun _ => true) true Tryz.f10.params.toList args.toList ds p := hA0
  rw [Tryz.params10] at hA hval
  obtain ⟨v0, vs0, d0, ds0, p0, q0, hargs, rfl, rfl, h0, r0⟩ := trodAll_cons hA
  obtain ⟨v1, vs1, d1, ds1, p1, q1, rfl, rfl, rfl, h1, r1⟩ := trodAll_cons r0
  obtain ⟨rfl, rfl, rfl⟩ := trodAll_nil r1
  obtain rfl : args = #[v0, v1] := by cases args; simp_all
  obtain ⟨rfl, rfl⟩ := trodVars_none hV
  have k0 := h0
  have lt0 : ∀ x ∈ p0, x.block < W.heap.size := by obtain ⟨m, hm⟩ := k0; exact DataW.trod_lt m _ _ _ hm
  have k1 := h1
  have lt1 : ∀ x ∈ p1, x.block < W.heap.size := by obtain ⟨m, hm⟩ := k1; exact DataW.trod_lt m _ _ _ hm
  obtain ⟨cs0, rfl, _⟩ := okWide_struct Tryz.underlying26 (hval 0 26 v0 rfl rfl)
  obtain ⟨fuel0, hf0⟩ := h0
  obtain ⟨A0, o0, n0, c0, b0, hc0, hr0⟩ := open_lex (x := (d0, p0)) (by simpa [Value.cells] using hf0)
  subst hc0
  obtain ⟨cs1, rfl, _⟩ := okWide_struct Tryz.underlying26 (hval 1 26 v1 rfl rfl)
  obtain ⟨fuel1, hf1⟩ := h1
  obtain ⟨A1, o1, n1, c1, b1, hc1, hr1⟩ := open_lex (x := (d1, p1)) (by simpa [Value.cells] using hf1)
  subst hc1
  refine (tokenSame_law W hT o0 o1 n0 n1 c0 c1 A0 A1 b0 b1 (fun _ => hr0) (fun _ => hr1)).mono fun e W' ⟨he, bel⟩ => ?_
  subst he
  exact ⟨_, rfl, _, _, _, [], _, [], hW', trodAll_mk1 (shut_bool Tryz.underlying4 _), (trodAll_cons_mk (Below.trod laidOut (by kernel_rfl) (of_decide_eq_true (by kernel_rfl)) k0 bel lt0) (trodAll_cons_mk (Below.trod laidOut (by kernel_rfl) (of_decide_eq_true (by kernel_rfl)) k1 bel lt1) trodAll_mk0)), rfl, bel.frame _, fun h => by cases h⟩

theorem laid_met (os : Os) : laidMet Tryz.prog Rows.tokenSameRow.laid ((laidWorld os).forCall (fun _ _ => 0) ⟨#[], #[.agg #[.int .i64 0, .slice none 0 0, .bool false], .agg #[.int .i64 0, .slice none 0 0, .bool false]], []⟩).memory :=
  laidMet_laidAll _ (by kernel_rfl) (by kernel_rfl)
theorem reads (os : Os) {H : Type} (enc : TypeId × Value → H) : ∃ places, DataW.whole enc Tryz.prog ((laidWorld os).forCall (fun _ _ => 0) ⟨#[], #[.agg #[.int .i64 0, .slice none 0 0, .bool false], .agg #[.int .i64 0, .slice none 0 0, .bool false]], []⟩).memory Tryz.f10.params.toList Rows.tokenSameSpec.vars false (#[.agg #[.int .i64 0, .slice none 0 0, .bool false], .agg #[.int .i64 0, .slice none 0 0, .bool false]] : Array Value).toList 8 = some ([.agg [.lit (.int .i64 0), .nil, .lit (.bool false)], .agg [.lit (.int .i64 0), .nil, .lit (.bool false)]], [], places) :=
  ⟨[], by kernel_rfl⟩

set_option maxRecDepth 100000 in
theorem lifted (os : Os) (started : os.Started) (H : Type) (enc : TypeId × Value → H) (F : Stop.Interp) :
    ReturnsInHanded {} Tryz.checked os 10 .any ((OpenSpec.ofChange Rows.tokenSameSpec).preRow enc Tryz.prog Tryz.f10 Rows.tokenSameRow.domain false Rows.tokenSameRow.laid) (((OpenSpec.ofChange Rows.tokenSameSpec).at F).post enc Tryz.prog Tryz.f10 false true false false) := by
  obtain ⟨places, hx⟩ := reads os enc
  refine returnsInHanded_of_row (C := Tryz.checked) (s := OpenSpec.ofChange Rows.tokenSameSpec) own started (by kernel_rfl) Tryz.func10
    (witness_row_at (enc := enc) (C := Tryz.checked) false (laidWorld os) #[.agg #[.int .i64 0, .slice none 0 0, .bool false], .agg #[.int .i64 0, .slice none 0 0, .bool false]] (laidWorld_os os) (by kernel_rfl) (by kernel_rfl) (by kernel_rfl)
      (OpenSpec.preRow_of_cond 8 hx (by kernel_rfl) (fun k hk => by cases hk) (by kernel_rfl) (laid_met os))) ?_
  intro W base args ds gs before hval hW _ _ _ hL _ _
  exact contract H enc W base args ds gs before hval hW hL

set_option maxHeartbeats 4000000 in
theorem closed : joinedFacts Tryz.prog 10 Tryz.f10 (OpenSpec.ofChange Rows.tokenSameSpec).bare Rows.tokenSameRow = true := by
  unfold joinedFacts
  repeat' (with_reducible refine Bool.and_eq_true_iff.2 ⟨?_, ?_⟩)
  · kernel_rfl
  · exact pf_laid
  · exact pf_maps
  · kernel_rfl
  · kernel_rfl
  · kernel_rfl
  · kernel_rfl
  · kernel_rfl
  · kernel_rfl
  · as_aux_lemma => kernel_rfl
  · as_aux_lemma => kernel_rfl
  · as_aux_lemma => kernel_rfl
  · as_aux_lemma => kernel_rfl
  · kernel_rfl
  · kernel_rfl
  · kernel_rfl
  · kernel_rfl
  · kernel_rfl
  · kernel_rfl
  · kernel_rfl
  · kernel_rfl
  · kernel_rfl
  · exact pf_keys
  · kernel_rfl
  · exact pf_heard
  · exact pf_enter
  · exact pf_lifts
  · exact pf_make
  · kernel_rfl
  · kernel_rfl
  · kernel_rfl
  · kernel_rfl

theorem said : Rows.TokenSameSaid :=
  OpenClaim.holds_of_cond 10 Tryz.f10 rfl rfl rfl rfl rfl rfl rfl ⟨rfl, rfl, rfl, rfl, rfl⟩ rfl rfl rfl rfl rfl (by kernel_rfl) Tryz.func10 closed
    (of_decide_eq_true (by kernel_rfl)) (by unfold Func.isWrapper; first | (rw [if_pos (by decide +kernel)]; kernel_rfl) | (rw [if_neg (by decide +kernel)]; exact ⟨rfl, rfl⟩))
    (fun os started H enc _ F => by rw [OpenClaim.pre_eq_preRow]; exact lifted os started H enc F)

theorem plain (f : FuncId) (fn : Func) (hf : Tryz.pinned.checked.prog.funcNamed "quillwort/quillwortlaw09.TokenSame" = some f) (hfn : Tryz.pinned.checked.prog.funcs[f]? = some fn) :
    false = Tryz.pinned.checked.prog.looks [] ∧ ∀ (j : Nat) t, fn.params[j]? = some t → Tryz.pinned.checked.prog.wantsStandIn t = false := by
  obtain rfl : f = 10 := Option.some.inj ((show Tryz.prog.funcNamed "quillwort/quillwortlaw09.TokenSame" = some 10 by kernel_rfl).symm.trans hf) |>.symm
  obtain rfl : fn = Tryz.f10 := (Option.some.inj (Tryz.func10.symm.trans hfn)).symm
  refine ⟨by kernel_rfl, fun j t ht => ?_⟩
  rw [Tryz.params10] at ht
  have hm : t ∈ [26, 26] := by simpa using Array.mem_of_getElem? ht
  have hall : ([26, 26].all fun u => !Tryz.prog.wantsStandIn u) = true := by kernel_rfl
  exact (show Tryz.prog.wantsStandIn t = false by simpa using List.all_eq_true.1 hall t hm)

theorem card : Rows.TokenSameCardSaid :=
  Claim7.holds_tied_plain_at .later [] _ _ _ _ said (fun _ h => by cases h) (by kernel_rfl) (fun _ h => by cases h) tokenSame_row_tie rfl ⟨rfl, rfl⟩ (by kernel_rfl) rfl plain (by kernel_rfl)
end Go.Proofs.YtgfkbfojeohlkaaGreatDoor.tokenSameP
namespace Go.Proofs.YtgfkbfojeohlkaaGreatDoor
theorem tokenSame_holds : Rows.TokenSameCardSaid := tokenSameP.card
end Go.Proofs.YtgfkbfojeohlkaaGreatDoor

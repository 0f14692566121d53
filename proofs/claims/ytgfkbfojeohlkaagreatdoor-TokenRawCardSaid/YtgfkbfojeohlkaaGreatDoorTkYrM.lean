/- The statement TokenRaw of layer 9 (token), as a card: whatever the text, the tokens and the place, the law returns true and its arguments read as before. Condition: none of the input; the listed tables are tied to the program's own text. -/
import Derived.Test.YtgfkbfojeohlkaaGreatDoorTkYr
import Derived.Test.YtgfkbfojeohlkaaGreatDoorTkO
import Derived.Lib.SmallJoins
import Derived.ChangeOld
import Derived.ShutString
import Derived.Below
import Derived.ChangeSlices
import Derived.Deep.Slices
namespace Go.Proofs.YtgfkbfojeohlkaaGreatDoor.tokenRawP
open Go.ChangeShapes Go.WideShapes Go.ChangeAt Go.RowKit Go.Joins
open Go.ChangeMaps (open_string shut_string)
open Go.Deep (open_slice)
set_option linter.unusedVariables false
set_option maxRecDepth 100000

theorem own : ownKnob Tryz.prog.godebug = none := by kernel_rfl
theorem laidOut : laidOutB Tryz.prog = true := pf_laid
section
variable {H : Type} {enc : TypeId × Value → H} {w : World} {base : Nat} {spare : Nat → Bool} {held : Bool}
theorem tok_cells {n : Nat} {cs : List Value} {x : DataW H × List MemPlace} (h : DataW.trod enc Tryz.prog w base spare held n 33 cs = some x) :
    ∃ p : Tz, cs = [.int .i64 p.kind, .int .i64 p.frm, .int .i64 p.en, .bool p.op] := by
  obtain ⟨xs, k, _, hx, hlen, hxl, hg⟩ := DataW.trod_struct Tryz.underlying33 h
  rw [show Tryz.prog.cellsOf 33 = 4 from by kernel_rfl] at hlen
  match cs, hlen with
  | [c0, c1, c2, c3], _ =>
    match xs, hxl with
    | [y0, y1, y2, y3], _ =>
      have e0 : DataW.trod enc Tryz.prog w base spare held k 3 (([c0, c1, c2, c3].drop 0).take (Tryz.prog.cellsOf 3)) = some y0 := hg 0 _ rfl
      have e1 : DataW.trod enc Tryz.prog w base spare held k 3 (([c0, c1, c2, c3].drop 1).take (Tryz.prog.cellsOf 3)) = some y1 := hg 1 _ rfl
      have e2 : DataW.trod enc Tryz.prog w base spare held k 3 (([c0, c1, c2, c3].drop 2).take (Tryz.prog.cellsOf 3)) = some y2 := hg 2 _ rfl
      have e3 : DataW.trod enc Tryz.prog w base spare held k 4 (([c0, c1, c2, c3].drop 3).take (Tryz.prog.cellsOf 4)) = some y3 := hg 3 _ rfl
      rw [show Tryz.prog.cellsOf 3 = 1 from by kernel_rfl] at e0 e1 e2
      rw [show Tryz.prog.cellsOf 4 = 1 from by kernel_rfl] at e3
      simp at e0 e1 e2 e3
      obtain ⟨a, x0, z0, _⟩ := DataW.trod_int Tryz.underlying3 e0
      obtain ⟨d, x1, z1, _⟩ := DataW.trod_int Tryz.underlying3 e1
      obtain ⟨t, x2, z2, _⟩ := DataW.trod_int Tryz.underlying3 e2
      obtain ⟨o, x3, _⟩ := DataW.trod_bool Tryz.underlying4 e3
      simp at x0 x1 x2 x3
      subst x0 x1 x2 x3
      exact ⟨⟨a, d, t, o⟩, rfl⟩
theorem open_toks {fuel : Nat} {a0 : Option Addr} {len cap : Nat} {x : DataW H × List MemPlace}
    (h : DataW.trod enc Tryz.prog w base (fun _ => true) true fuel 23 [.slice a0 len cap] = some x) : ∃ l, RdZ w a0 len l := by
  rcases Nat.eq_zero_or_pos len with h0 | hpos
  · subst h0
    exact ⟨[], rfl, fun i t hi => by cases hi⟩
  · rcases Go.Deep.open_slice Tryz.underlying23 h with ⟨hcs, _⟩ | ⟨a, l, c, m, n, D, Pl, hcs, hb, hl, hm, hmm, hx, hi⟩
    · simp at hcs; omega
    · simp only [List.cons.injEq, Value.slice.injEq, and_true] at hcs
      obtain ⟨rfl, rfl, rfl⟩ := hcs
      rw [if_pos rfl] at hmm
      subst hmm
      rw [show Tryz.prog.cellsOf 33 = 4 from by kernel_rfl] at hi hx
      obtain ⟨ab, aoff, spot⟩ := a
      have hspot : spot = none := by
        obtain ⟨cs', hc0, ht0⟩ := hi 0 (by omega)
        obtain ⟨p, rfl⟩ := tok_cells ht0
        obtain ⟨_, _, hcell⟩ := World.cells?_some hc0
        have g := hcell 0 (by simp)
        simpa [Addr.add] using World.cell?_spot (by simpa [Addr.add] using g)
      subst hspot
      have hblk : ab < w.heap.size := by
        obtain ⟨cs', hc0, _⟩ := hi 0 (by omega)
        exact World.cells?_block hc0 (by omega)
      have hex : ∀ i, ∃ e : Tz, i < len → (w.cell? ⟨ab, aoff + i * 4, none⟩ = some (.int .i64 e.kind) ∧ w.cell? ⟨ab, aoff + i * 4 + 1, none⟩ = some (.int .i64 e.frm) ∧ w.cell? ⟨ab, aoff + i * 4 + 2, none⟩ = some (.int .i64 e.en) ∧ w.cell? ⟨ab, aoff + i * 4 + 3, none⟩ = some (.bool e.op)) := by
        intro i
        by_cases hlt : i < len
        · obtain ⟨cs', hc0, ht0⟩ := hi i (by omega)
          obtain ⟨p, rfl⟩ := tok_cells ht0
          obtain ⟨_, _, hcell⟩ := World.cells?_some hc0
          have g0 := hcell 0 (by omega)
          have g1 := hcell 1 (by omega)
          have g2 := hcell 2 (by omega)
          have g3 := hcell 3 (by omega)
          rw [Go.Deep.add_add] at g0 g1 g2 g3
          have hadd : ∀ k, (⟨ab, aoff, none⟩ : Addr).add k = ⟨ab, aoff + k, none⟩ := by
            intro k
            unfold Addr.add
            split
            · rename_i hk; subst hk; rfl
            · rfl
          rw [hadd] at g0 g1 g2 g3
          exact ⟨p, fun _ => ⟨by simpa using g0, by rw [Nat.add_assoc]; simpa using g1, by rw [Nat.add_assoc]; simpa using g2, by rw [Nat.add_assoc]; simpa using g3⟩⟩
        · exact ⟨⟨0, 0, 0, false⟩, fun h => absurd h hlt⟩
      obtain ⟨F, hF⟩ := Classical.axiomOfChoice hex
      refine ⟨(List.range len).map F, by simp, fun j t hj => ?_⟩
      rw [List.getElem?_map] at hj
      obtain ⟨i, hi1, hi2⟩ := Option.map_eq_some_iff.1 hj
      obtain ⟨hi3, hi4⟩ := List.getElem?_eq_some_iff.1 hi1
      rw [List.getElem_range] at hi4
      rw [List.length_range] at hi3
      subst hi4 hi2
      exact ⟨ab, aoff, rfl, hblk, hF j hi3⟩
end

theorem contract (H : Type) (enc : TypeId × Value → H) (W : World) (base : Nat) (args : Array Value) (ds gs : List (DataW H)) (before : List MemPlace)
    (hval0 : ∀ (j : Nat) t v, Tryz.f8.params[j]? = some t → args[j]? = some v → Value.okWide Tryz.prog W .any base t v)
    (hW : DataW.Whole enc Tryz.prog Tryz.f8.params.toList Rows.tokenRawSpec.vars false W args.toList ds gs before) (hL : laidMetH Tryz.prog Rows.tokenRawRow.laid W) :
    Calls Tryz.prog 8 args W fun e W' => ∃ v, e = .returned v ∧ Rows.tokenRawSpec.post enc Tryz.prog Tryz.f8 false true false false W args v W' := by
  have hT : Tx W := tx_of_laid hL
  have hval : ∀ (j : Nat) t v, Tryz.f8.params[j]? = some t → args[j]? = some v → Value.okWide Tryz.prog W .any base t v := hval0
  have hW' := hW
  obtain ⟨p, q, hA0, hV, rfl, hfz, hnd⟩ := hW
  have hA : DataW.TrodAll enc Tryz.prog W 0 (fun _ => true) true Tryz.f8.params.toList args.toList ds p := hA0
  rw [Tryz.params8] at hA hval
  obtain ⟨v0, vs0, d0, ds0, p0, q0, hargs, rfl, rfl, h0, r0⟩ := trodAll_cons hA
  obtain ⟨v1, vs1, d1, ds1, p1, q1, rfl, rfl, rfl, h1, r1⟩ := trodAll_cons r0
  obtain ⟨v2, vs2, d2, ds2, p2, q2, rfl, rfl, rfl, h2, r2⟩ := trodAll_cons r1
  obtain ⟨rfl, rfl, rfl⟩ := trodAll_nil r2
  obtain rfl : args = #[v0, v1, v2] := by cases args; simp_all
  obtain ⟨rfl, rfl⟩ := trodVars_none hV
  have k0 := h0
  have lt0 : ∀ x ∈ p0, x.block < W.heap.size := by obtain ⟨m, hm⟩ := k0; exact DataW.trod_lt m _ _ _ hm
  have k1 := h1
  have lt1 : ∀ x ∈ p1, x.block < W.heap.size := by obtain ⟨m, hm⟩ := k1; exact DataW.trod_lt m _ _ _ hm
  have k2 := h2
  have lt2 : ∀ x ∈ p2, x.block < W.heap.size := by obtain ⟨m, hm⟩ := k2; exact DataW.trod_lt m _ _ _ hm
  obtain ⟨a0, rfl, e0, g0, w0⟩ := open_string Tryz.underlying9 (hval 0 9 v0 rfl rfl) h0
  obtain ⟨o1, n1, c1, rfl⟩ := okWide_slice Tryz.underlying23 (hval 1 23 v1 rfl rfl)
  obtain ⟨fuel1, hf1⟩ := h1
  have hr1 := open_toks (x := (d1, p1)) (by simpa [Value.cells] using hf1)
  obtain ⟨a2, rfl, e2, g2, w2⟩ := open_int Tryz.underlying3 (hval 2 3 v2 rfl rfl) h2
  have hz0 : a0.size ≤ 9223372036854775807 := by unfold maxLen at w0; omega
  refine (tokenRaw_law W hT a0 o1 n1 c1 a2 hz0 hr1).mono fun e W' ⟨he, bel⟩ => ?_
  subst he
  exact ⟨_, rfl, _, _, _, [], _, [], hW', trodAll_mk1 (shut_bool Tryz.underlying4 _), (trodAll_cons_mk (Below.trod laidOut (by kernel_rfl) (of_decide_eq_true (by kernel_rfl)) k0 bel lt0) (trodAll_cons_mk (Below.trod laidOut (by kernel_rfl) (of_decide_eq_true (by kernel_rfl)) k1 bel lt1) (trodAll_cons_mk (Below.trod laidOut (by kernel_rfl) (of_decide_eq_true (by kernel_rfl)) k2 bel lt2) trodAll_mk0))), rfl, bel.frame _, fun h => by cases h⟩

theorem laid_met (os : Os) : laidMet Tryz.prog Rows.tokenRawRow.laid ((laidWorld os).forCall (fun _ _ => 0) ⟨#[], #[.string ⟨#[]⟩, .slice none 0 0, .int .i64 0], []⟩).memory :=
  laidMet_laidAll _ (by kernel_rfl) (by kernel_rfl)
theorem reads (os : Os) {H : Type} (enc : TypeId × Value → H) : ∃ places, DataW.whole enc Tryz.prog ((laidWorld os).forCall (fun _ _ => 0) ⟨#[], #[.string ⟨#[]⟩, .slice none 0 0, .int .i64 0], []⟩).memory Tryz.f8.params.toList Rows.tokenRawSpec.vars false (#[.string ⟨#[]⟩, .slice none 0 0, .int .i64 0] : Array Value).toList 8 = some ([.lit (.string []), .nil, .lit (.int .i64 0)], [], places) :=
  ⟨[], by kernel_rfl⟩

set_option maxRecDepth 100000 in
theorem lifted (os : Os) (started : os.Started) (H : Type) (enc : TypeId × Value → H) (F : Stop.Interp) :
    ReturnsInHanded {} Tryz.checked os 8 .any ((OpenSpec.ofChange Rows.tokenRawSpec).preRow enc Tryz.prog Tryz.f8 Rows.tokenRawRow.domain false Rows.tokenRawRow.laid) (((OpenSpec.ofChange Rows.tokenRawSpec).at F).post enc Tryz.prog Tryz.f8 false true false false) := by
  obtain ⟨places, hx⟩ := reads os enc
  refine returnsInHanded_of_row (C := Tryz.checked) (s := OpenSpec.ofChange Rows.tokenRawSpec) own started (by kernel_rfl) Tryz.func8
    (witness_row_at (enc := enc) (C := Tryz.checked) false (laidWorld os) #[.string ⟨#[]⟩, .slice none 0 0, .int .i64 0] (laidWorld_os os) (by kernel_rfl) (by kernel_rfl) (by kernel_rfl)
      (OpenSpec.preRow_of_cond 8 hx (by kernel_rfl) (fun k hk => by cases hk) (by kernel_rfl) (laid_met os))) ?_
  intro W base args ds gs before hval hW _ _ _ hL _ _
  exact contract H enc W base args ds gs before hval hW hL

set_option maxHeartbeats 4000000 in
theorem closed : joinedFacts Tryz.prog 8 Tryz.f8 (OpenSpec.ofChange Rows.tokenRawSpec).bare Rows.tokenRawRow = true := by
  unfold joinedFacts
  repeat' (with_reducible refine Bool.and_eq_true_iff.2 ⟨?_, ?_⟩)
  · kernel_rfl
  · exact pf_laid
  · exact pf_maps
  · kernel_rfl
  · kernel_rfl
  · kernel_rfl
  · kernel_rfl
  · kernel_rfl
  · kernel_rfl
  · as_aux_lemma => kernel_rfl
  · as_aux_lemma => kernel_rfl
  · as_aux_lemma => kernel_rfl
  · as_aux_lemma => kernel_rfl
  · kernel_rfl
  · kernel_rfl
  · kernel_rfl
  · kernel_rfl
  · kernel_rfl
  · kernel_rfl
  · kernel_rfl
  · kernel_rfl
  · kernel_rfl
  · exact pf_keys
  · kernel_rfl
  · exact pf_heard
  · exact pf_enter
  · exact pf_lifts
  · exact pf_make
  · kernel_rfl
  · kernel_rfl
  · kernel_rfl
  · kernel_rfl

theorem said : Rows.TokenRawSaid :=
  OpenClaim.holds_of_cond 8 Tryz.f8 rfl rfl rfl rfl rfl rfl rfl ⟨rfl, rfl, rfl, rfl, rfl⟩ rfl rfl rfl rfl rfl (by kernel_rfl) Tryz.func8 closed
    (of_decide_eq_true (by kernel_rfl)) (by unfold Func.isWrapper; first | (rw [if_pos (by decide +kernel)]; kernel_rfl) | (rw [if_neg (by decide +kernel)]; exact ⟨rfl, rfl⟩))
    (fun os started H enc _ F => by rw [OpenClaim.pre_eq_preRow]; exact lifted os started H enc F)

theorem plain (f : FuncId) (fn : Func) (hf : Tryz.pinned.checked.prog.funcNamed "quillwort/quillwortlaw09.TokenRaw" = some f) (hfn : Tryz.pinned.checked.prog.funcs[f]? = some fn) :
    false = Tryz.pinned.checked.prog.looks [] ∧ ∀ (j : Nat) t, fn.params[j]? = some t → Tryz.pinned.checked.prog.wantsStandIn t = false := by
  obtain rfl : f = 8 := Option.some.inj ((show Tryz.prog.funcNamed "quillwort/quillwortlaw09.TokenRaw" = some 8 by kernel_rfl).symm.trans hf) |>.symm
  obtain rfl : fn = Tryz.f8 := (Option.some.inj (Tryz.func8.symm.trans hfn)).symm
  refine ⟨by kernel_rfl, fun j t ht => ?_⟩
  rw [Tryz.params8] at ht
  have hm : t ∈ [9, 23, 3] := by simpa using Array.mem_of_getElem? ht
  have hall : ([9, 23, 3].all fun u => !Tryz.prog.wantsStandIn u) = true := by kernel_rfl
  exact (show Tryz.prog.wantsStandIn t = false by simpa using List.all_eq_true.1 hall t hm)

theorem card : Rows.TokenRawCardSaid :=
  Claim7.holds_tied_plain_at .later [] _ _ _ _ said (fun _ h => by cases h) (by kernel_rfl) (fun _ h => by cases h) tokenRaw_row_tie rfl ⟨rfl, rfl⟩ (by kernel_rfl) rfl plain (by kernel_rfl)
end Go.Proofs.YtgfkbfojeohlkaaGreatDoor.tokenRawP
namespace Go.Proofs.YtgfkbfojeohlkaaGreatDoor
theorem tokenRaw_holds : Rows.TokenRawCardSaid := tokenRawP.card
end Go.Proofs.YtgfkbfojeohlkaaGreatDoor

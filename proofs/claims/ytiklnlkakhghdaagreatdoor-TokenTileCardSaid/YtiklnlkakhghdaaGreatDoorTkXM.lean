/- What the row's listed variable gives the walks: the table of operators' texts lies as start-up lays it; and a world for the witness. No condition.
The statement TokenTile of layer 9 (token), as a card: whatever the text, the law returns true and its argument reads as before. Condition: none of the input; the listed tables are tied to the program's own text. -/
import Derived.Test.YtiklnlkakhghdaaGreatDoorCards
import Derived.Test.YtiklnlkakhghdaaGreatDoorTie
import Derived.WalkKit
import Derived.ProofKit
import Derived.OpenShut
import Derived.Deep.DeepHandedRow
import Derived.Lay
import Derived.Test.YtiklnlkakhghdaaGreatDoorTkC
import Derived.Test.YtiklnlkakhghdaaGreatDoorTkX
import Derived.Lib.SmallJoins
import Derived.ChangeOld
import Derived.ShutString
import Derived.Below
import Derived.ChangeSlices
namespace Go.Proofs.YtiklnlkakhghdaaGreatDoor
open Go.ChangeShapes Go.WideShapes Go.ChangeAt Go.RowKit

/-- The texts as the program's own initialiser lists them. -/
def txtL : List (List UInt8) := (List.range 18).map fun i => (txt i).data.toList
theorem gTexts : Tryz.prog.globalNamed "quillwort/oper.texts" = some 0 := by kernel_rfl
theorem gTextsType : (Tryz.prog.globals[0]?).map (·.type) = some 130 := by kernel_rfl
theorem cellsTexts : Tryz.prog.cellsOf 130 = 18 := by kernel_rfl
theorem cellsText : Tryz.prog.cellsOf 9 = 1 := by kernel_rfl

/-- WHAT THE ROW's LIST GIVES: the table's cells hold the texts. -/
theorem tx_of_laid {W : World} (h : laidMet Tryz.prog [("unicode/utf8.acceptRanges", Rows.laid_unicode_utf8_acceptRanges), ("quillwort/oper.texts", Rows.laid_quillwort_oper_texts), ("unicode/utf8.first", Rows.laid_unicode_utf8_first)] W) : Tx W := by
  obtain ⟨ps0, ⟨g0, t0, cs0, fuel0, p0, q0, hg0, ht0, hvar0, hd0, htail, _⟩, _⟩ := h
  obtain ⟨g', t', cs, fuel, p, q, hg', ht', hvar, hd, _, _⟩ := htail
  obtain rfl := Option.some.inj (gTexts.symm.trans hg')
  obtain rfl := Option.some.inj (gTextsType.symm.trans ht')
  have hcell : ∀ i, i < 18 → W.cell? ⟨0, i, none⟩ = some (.string (txt i)) := fun i hi => by
    obtain ⟨xs, m, -, hx, hlen, hn, hel⟩ := DataW.trod_array Tryz.underlying130 hd
    rw [cellsTexts] at hlen
    have hi2 : i < xs.length := by omega
    have h1 := hel i hi
    rw [cellsText, Nat.mul_one, List.getElem?_eq_getElem hi2] at h1
    obtain ⟨z, hz, hxi, -⟩ := DataW.trod_string Tryz.underlying9 h1
    have hti : (txtL.map fun t => (DataW.lit (.string t) : DataW Unit))[i]? = some (.lit (.string z.data.toList)) := by
      have e : txtL.map (fun t => (DataW.lit (.string t) : DataW Unit)) = xs.map (·.1) := (DataW.agg.inj (Prod.mk.inj hx).1 :)
      rw [e, List.getElem?_map, List.getElem?_eq_getElem hi2, hxi]
      rfl
    have hzt : z = txt i := by
      have e : (txt i).data.toList = z.data.toList := by simpa [txtL, hi] using hti
      exact ByteArray.ext (Array.toList_inj.1 e.symm)
    have hc : cs[i]? = some (.string z) := by
      have e := congrArg (·[0]?) hz
      simpa [List.getElem?_take, List.getElem?_drop] using e
    have hv := World.var?_cell gTexts hvar i
    rw [hv, ← hzt, ← hc]
  refine ⟨?_, hcell⟩
  have h0 := hcell 0 (by omega)
  refine Nat.pos_of_ne_zero fun g => ?_
  have : W.heap[0]? = none := Array.getElem?_eq_none (by omega)
  simp [World.cell?, this] at h0

/-- A WORLD FOR THE WITNESS: each listed table holds what its initialiser lays. -/
noncomputable def laidWorld (os : Os) : World := World.laidAll Tryz.prog os [("unicode/utf8.acceptRanges", Rows.laid_unicode_utf8_acceptRanges), ("quillwort/oper.texts", Rows.laid_quillwort_oper_texts), ("unicode/utf8.first", Rows.laid_unicode_utf8_first)]
theorem laidWorld_os (os : Os) : (laidWorld os).os = os := World.laidAll_os _ _ _
end Go.Proofs.YtiklnlkakhghdaaGreatDoor
namespace Go.Proofs.YtiklnlkakhghdaaGreatDoor.tokenTileP
open Go.ChangeShapes Go.WideShapes Go.ChangeAt Go.RowKit Go.Joins
open Go.ChangeMaps (open_string shut_string)
set_option linter.unusedVariables false
set_option maxRecDepth 100000

theorem own : ownKnob Tryz.prog.godebug = none := by kernel_rfl
theorem laidOut : laidOutB Tryz.prog = true := by kernel_rfl

theorem contract (H : Type) (enc : TypeId × Value → H) (W : World) (base : Nat) (args : Array Value) (ds gs : List (DataW H)) (before : List MemPlace)
    (hval0 : ∀ (j : Nat) t v, Tryz.f4.params[j]? = some t → args[j]? = some v → Value.okWide Tryz.prog W .any base t v)
    (hW : DataW.Whole enc Tryz.prog Tryz.f4.params.toList Rows.tokenTileSpec.vars false W args.toList ds gs before) (hL : laidMetH Tryz.prog Rows.tokenTileRow.laid W) :
    Calls Tryz.prog 4 args W fun e W' => ∃ v, e = .returned v ∧ Rows.tokenTileSpec.post enc Tryz.prog Tryz.f4 false true false false W args v W' := by
  have hT : Tx W := tx_of_laid hL
  have hval : ∀ (j : Nat) t v, Tryz.f4.params[j]? = some t → args[j]? = some v → Value.okWide Tryz.prog W .any base t v := hval0
  have hW' := hW
  obtain ⟨p, q, hA0, hV, rfl, hfz, hnd⟩ := hW
  have hA : DataW.TrodAll enc Tryz.prog W 0 (fun _ => true) true Tryz.f4.params.toList args.toList ds p := hA0
  rw [Tryz.params4] at hA hval
  obtain ⟨v0, vs0, d0, ds0, p0, q0, hargs, rfl, rfl, h0, r0⟩ := trodAll_cons hA
  obtain ⟨rfl, rfl, rfl⟩ := trodAll_nil r0
  obtain rfl : args = #[v0] := by cases args; simp_all
  obtain ⟨rfl, rfl⟩ := trodVars_none hV
  have k0 := h0
  have lt0 : ∀ x ∈ p0, x.block < W.heap.size := by obtain ⟨m, hm⟩ := k0; exact DataW.trod_lt m _ _ _ hm
  obtain ⟨a0, rfl, e0, g0, w0⟩ := open_string Tryz.underlying9 (hval 0 9 v0 rfl rfl) h0
  have hz0 : a0.size ≤ 9223372036854775807 := by unfold maxLen at w0; omega
  refine (tokenTile_law W hT a0 hz0).mono fun e W' ⟨he, bel⟩ => ?_
  subst he
  exact ⟨_, rfl, _, _, _, [], _, [], hW', trodAll_mk1 (shut_bool Tryz.underlying4 _), (trodAll_cons_mk (Below.trod laidOut (by kernel_rfl) (of_decide_eq_true (by kernel_rfl)) k0 bel lt0) trodAll_mk0), rfl, bel.frame _, fun h => by cases h⟩

theorem laid_met (os : Os) : laidMet Tryz.prog Rows.tokenTileRow.laid ((laidWorld os).forCall (fun _ _ => 0) ⟨#[], #[.string ⟨#[]⟩], []⟩).memory :=
  laidMet_laidAll _ (by kernel_rfl) (by kernel_rfl)
theorem reads (os : Os) {H : Type} (enc : TypeId × Value → H) : ∃ places, DataW.whole enc Tryz.prog ((laidWorld os).forCall (fun _ _ => 0) ⟨#[], #[.string ⟨#[]⟩], []⟩).memory Tryz.f4.params.toList Rows.tokenTileSpec.vars false (#[.string ⟨#[]⟩] : Array Value).toList 8 = some ([.lit (.string [])], [], places) :=
  ⟨[], by kernel_rfl⟩

set_option maxRecDepth 100000 in
theorem lifted (os : Os) (started : os.Started) (H : Type) (enc : TypeId × Value → H) (F : Stop.Interp) :
    ReturnsInHanded {} Tryz.checked os 4 .any ((OpenSpec.ofChange Rows.tokenTileSpec).preRow enc Tryz.prog Tryz.f4 Rows.tokenTileRow.domain false Rows.tokenTileRow.laid) (((OpenSpec.ofChange Rows.tokenTileSpec).at F).post enc Tryz.prog Tryz.f4 false true false false) := by
  obtain ⟨places, hx⟩ := reads os enc
  refine returnsInHanded_of_row (C := Tryz.checked) (s := OpenSpec.ofChange Rows.tokenTileSpec) own started (by kernel_rfl) Tryz.func4
    (witness_row_at (enc := enc) (C := Tryz.checked) false (laidWorld os) #[.string ⟨#[]⟩] (laidWorld_os os) (by kernel_rfl) (by kernel_rfl) (by kernel_rfl)
      (OpenSpec.preRow_of_cond 8 hx (by kernel_rfl) (fun k hk => by cases hk) (by kernel_rfl) (laid_met os))) ?_
  intro W base args ds gs before hval hW _ _ _ hL _ _
  exact contract H enc W base args ds gs before hval hW hL

theorem said : Rows.TokenTileSaid :=
  OpenClaim.holds_of_cond 4 Tryz.f4 rfl rfl rfl rfl rfl rfl rfl ⟨rfl, rfl, rfl, rfl, rfl⟩ rfl rfl rfl rfl rfl (by kernel_rfl) Tryz.func4 (by kernel_rfl)
    (of_decide_eq_true (by kernel_rfl)) (by unfold Func.isWrapper; first | (rw [if_pos (by decide +kernel)]; kernel_rfl) | (rw [if_neg (by decide +kernel)]; exact ⟨rfl, rfl⟩))
    (fun os started H enc _ F => by rw [OpenClaim.pre_eq_preRow]; exact lifted os started H enc F)

theorem plain (f : FuncId) (fn : Func) (hf : Tryz.pinned.checked.prog.funcNamed "quillwort/quillwortlaw09.TokenTile" = some f) (hfn : Tryz.pinned.checked.prog.funcs[f]? = some fn) :
    false = Tryz.pinned.checked.prog.looks [] ∧ ∀ (j : Nat) t, fn.params[j]? = some t → Tryz.pinned.checked.prog.wantsStandIn t = false := by
  obtain rfl : f = 4 := Option.some.inj ((show Tryz.prog.funcNamed "quillwort/quillwortlaw09.TokenTile" = some 4 by kernel_rfl).symm.trans hf) |>.symm
  obtain rfl : fn = Tryz.f4 := (Option.some.inj (Tryz.func4.symm.trans hfn)).symm
  refine ⟨by kernel_rfl, fun j t ht => ?_⟩
  rw [Tryz.params4] at ht
  have hm : t ∈ [9] := by simpa using Array.mem_of_getElem? ht
  have hall : ([9].all fun u => !Tryz.prog.wantsStandIn u) = true := by kernel_rfl
  exact (show Tryz.prog.wantsStandIn t = false by simpa using List.all_eq_true.1 hall t hm)

theorem card : Rows.TokenTileCardSaid :=
  Claim7.holds_tied_plain_at .later [] _ _ _ _ said (fun _ h => by cases h) (by kernel_rfl) (fun _ h => by cases h) tokenTile_row_tie rfl ⟨rfl, rfl⟩ (by kernel_rfl) rfl plain (by kernel_rfl)
end Go.Proofs.YtiklnlkakhghdaaGreatDoor.tokenTileP
namespace Go.Proofs.YtiklnlkakhghdaaGreatDoor
/-- The statement. -/
theorem tokenTile_holds : Rows.TokenTileCardSaid := tokenTileP.card
end Go.Proofs.YtiklnlkakhghdaaGreatDoor

/- What the row's listed variable gives the walks: the table of operators' texts lies as start-up lays it; and a world for the witness. No condition. -/
import Derived.Test.YtlfmpjneopeadaaDoorCards
import Derived.Test.YtlfmpjneopeadaaDoorTie
import Derived.WalkKit
import Derived.ProofKit
import Derived.OpenShut
import Derived.Deep.DeepHandedRow
import Derived.Lib.LaidTab
import Derived.Test.YtlfmpjneopeadaaDoorOpB
namespace Go.Proofs.YtlfmpjneopeadaaDoor
open Go.ChangeShapes Go.WideShapes Go.ChangeAt Go.RowKit

/-- An array of strings that reads as a listed table holds the table's texts, cell for cell. -/
theorem cells_of_strs {H : Type} {enc : TypeId × Value → H} {P : Program} {w : World} {base : Nat} {sp : Nat → Bool} {held : Bool} {fuel : Nat} {t e : TypeId} {n : Nat} {cs : List Value} {zs : List (List UInt8)} {p : List MemPlace}
    (ht : P.underlying t = some (.array n e)) (he : P.underlying e = some .string) (hce : P.cellsOf e = 1) (hct : P.cellsOf t = n)
    (h : DataW.trod enc P w base sp held fuel t cs = some (.agg (zs.map fun z => .lit (.string z)), p)) : cs = zs.map fun z => Value.string ⟨z.toArray⟩ := by
  cases fuel with
  | zero => simp [DataW.trod] at h
  | succ fuel =>
    simp only [DataW.trod, ht, hce, hct, Nat.mul_one] at h
    split at h
    · rename_i hl
      obtain ⟨xs, hm, hx⟩ := Option.map_eq_some_iff.1 h
      have hxs : xs.map (·.1) = zs.map fun z => (DataW.lit (.string z) : DataW H) := by
        have := congrArg Prod.fst hx
        simpa using this
      have hxl : xs.length = n := by simpa using Lib.mapM_length hm
      have hzl : zs.length = n := by
        have := congrArg List.length hxs
        simp at this
        omega
      apply List.ext_getElem?
      intro i
      by_cases hi : i < n
      · obtain ⟨b, hb, hf⟩ := Lib.mapM_at hm i i (by simp [hi])
        obtain ⟨z, hc, rfl, _⟩ := DataW.trod_string he hf
        have h1 : cs[i]? = some (.string z) := by
          have := congrArg (·[0]?) hc
          simpa [List.getElem?_take, List.getElem?_drop] using this
        have h2 : (xs.map (·.1))[i]? = some (DataW.lit (.string z.data.toList) : DataW H) := by simp [hb]
        rw [hxs] at h2
        simp only [List.getElem?_map, Option.map_eq_some_iff, DataW.lit.injEq, Lit.string.injEq] at h2
        obtain ⟨z', hz', he'⟩ := h2
        simp [h1, hz', he']
      · rw [List.getElem?_eq_none (by omega), List.getElem?_eq_none (by simp; omega)]
    · cases h

/-- The texts as the program's own initialiser lists them. -/
def txtL : List (List UInt8) := (List.range 18).map fun i => (txt i).data.toList
theorem gTexts : Tryd.prog.globalNamed "quillwort/oper.texts" = some 0 := by kernel_rfl
theorem gTextsType : (Tryd.prog.globals[0]?).map (·.type) = some 42 := by kernel_rfl
theorem cellsTexts : Tryd.prog.cellsOf 42 = 18 := by kernel_rfl
theorem cellsText : Tryd.prog.cellsOf 9 = 1 := by kernel_rfl

/-- WHAT THE ROW's LIST GIVES: the table's cells hold the texts. -/
theorem tx_of_laid {W : World} (h : laidMet Tryd.prog [("quillwort/oper.texts", Rows.laid_quillwort_oper_texts)] W) : Tx W := by
  obtain ⟨ps, ⟨g', t', cs, fuel, p, q, hg', ht', hvar, hd, _, _⟩, _⟩ := h
  obtain rfl := Option.some.inj (gTexts.symm.trans hg')
  obtain rfl := Option.some.inj (gTextsType.symm.trans ht')
  have e := cells_of_strs (zs := txtL) Tryd.underlying42 Tryd.underlying9 cellsText cellsTexts hd
  have hcell : ∀ i, i < 18 → W.cell? ⟨0, i, none⟩ = some (.string (txt i)) := fun i hi => by
    have hv := World.var?_cell gTexts hvar i
    rw [hv, ← Array.getElem?_toList, e]
    simp [txtL, hi]
  refine ⟨?_, hcell⟩
  have h0 := hcell 0 (by omega)
  refine Nat.pos_of_ne_zero fun g => ?_
  have : W.heap[0]? = none := Array.getElem?_eq_none (by omega)
  simp [World.cell?, this] at h0

/-- A WORLD FOR THE WITNESS: the settled one, the table (block 0) holding what its initialiser lays. -/
noncomputable def laidWorld (os : Os) : World :=
  { World.holding Tryd.prog os ⟨#[], #[], []⟩ with heap := (World.holding Tryd.prog os ⟨#[], #[], []⟩).heap.modify 0 fun
      | .cells _ t frozen => .cells (txtL.map fun z => Value.string ⟨z.toArray⟩).toArray t frozen
      | o => o }
end Go.Proofs.YtlfmpjneopeadaaDoor

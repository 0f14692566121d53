/- What the row's listed variable gives the walks: the table of operators' texts lies as start-up lays it; and a world for the witness. No condition. -/
import Derived.Test.YtlfmpjneopeadaaDoorCards
import Derived.Test.YtlfmpjneopeadaaDoorTie
import Derived.WalkKit
import Derived.ProofKit
import Derived.OpenShut
import Derived.Deep.DeepHandedRow
import Derived.Test.YtlfmpjneopeadaaDoorOpB
namespace Go.Proofs.YtlfmpjneopeadaaDoor
open Go.ChangeShapes Go.WideShapes Go.ChangeAt Go.RowKit

/-- The texts as the program's own initialiser lists them. -/
def txtL : List (List UInt8) := (List.range 18).map fun i => (txt i).data.toList
theorem gTexts : Tryd.prog.globalNamed "quillwort/oper.texts" = some 0 := by kernel_rfl
theorem gTextsType : (Tryd.prog.globals[0]?).map (·.type) = some 42 := by kernel_rfl
theorem cellsTexts : Tryd.prog.cellsOf 42 = 18 := by kernel_rfl
theorem cellsText : Tryd.prog.cellsOf 9 = 1 := by kernel_rfl

/-- WHAT THE ROW's LIST GIVES: the table's cells hold the texts. -/
theorem tx_of_laid {W : World} (h : laidMet Tryd.prog [("quillwort/oper.texts", Rows.laid_quillwort_oper_texts)] W) : Tx W := by
  obtain ⟨ps, ⟨g', t', cs, fuel, p, q, hg', ht', hvar, hd, _, _⟩, _⟩ := h
  obtain rfl := Option.some.inj (gTexts.symm.trans hg')
  obtain rfl := Option.some.inj (gTextsType.symm.trans ht')
  have hcell : ∀ i, i < 18 → W.cell? ⟨0, i, none⟩ = some (.string (txt i)) := fun i hi => by
    obtain ⟨xs, m, -, hx, hlen, hn, hel⟩ := DataW.trod_array Tryd.underlying42 hd
    rw [cellsTexts] at hlen
    have hi2 : i < xs.length := by omega
    have h1 := hel i hi
    rw [cellsText, Nat.mul_one, List.getElem?_eq_getElem hi2] at h1
    obtain ⟨z, hz, hxi, -⟩ := DataW.trod_string Tryd.underlying9 h1
    have hti : (txtL.map fun t => (DataW.lit (.string t) : DataW Unit))[i]? = some (.lit (.string z.data.toList)) := by
      have e : txtL.map (fun t => (DataW.lit (.string t) : DataW Unit)) = xs.map (·.1) := (DataW.agg.inj (Prod.mk.inj hx).1 :)
      rw [e, List.getElem?_map, List.getElem?_eq_getElem hi2, hxi]
      rfl
    have hzt : z = txt i := by
      have e : (txt i).data.toList = z.data.toList := by simpa [txtL, hi] using hti
      exact ByteArray.ext (Array.toList_inj.1 e.symm)
    have hc : cs[i]? = some (.string z) := by
      have e := congrArg (·[0]?) hz
      simpa [List.getElem?_take, List.getElem?_drop] using e
    have hv := World.var?_cell gTexts hvar i
    rw [hv, ← hzt, ← hc]
  refine ⟨?_, hcell⟩
  have h0 := hcell 0 (by omega)
  refine Nat.pos_of_ne_zero fun g => ?_
  have : W.heap[0]? = none := Array.getElem?_eq_none (by omega)
  simp [World.cell?, this] at h0

/-- A WORLD FOR THE WITNESS: the settled one, the table (block 0) holding what its initialiser lays. -/
noncomputable def laidWorld (os : Os) : World :=
  { World.holding Tryd.prog os ⟨#[], #[], []⟩ with heap := (World.holding Tryd.prog os ⟨#[], #[], []⟩).heap.modify 0 fun
      | .cells _ t frozen => .cells (txtL.map fun z => Value.string ⟨z.toArray⟩).toArray t frozen
      | o => o }
end Go.Proofs.YtlfmpjneopeadaaDoor

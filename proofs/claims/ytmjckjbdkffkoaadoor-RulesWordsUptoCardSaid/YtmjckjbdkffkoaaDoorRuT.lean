/- What the row's listed variables give the walks: the tables of operators' texts and of names lie as start-up lays it; and a world for the witness. No condition. -/
import Derived.Test.YtmjckjbdkffkoaaDoorCards
import Derived.Test.YtmjckjbdkffkoaaDoorTie
import Derived.WalkKit
import Derived.ProofKit
import Derived.OpenShut
import Derived.Deep.DeepHandedRow
import Derived.Lay
import Derived.Test.YtmjckjbdkffkoaaDoorRuAg
import Derived.Lib.SmallJoins
namespace Go.Proofs.YtmjckjbdkffkoaaDoor
open Go.ChangeShapes Go.WideShapes Go.ChangeAt Go.RowKit

/-! The tables as the program's own initialisers list them. -/
def tabTL : List (List UInt8) := (List.range 18).map fun i => (txt i).data.toList
theorem tabTG : Tryd.prog.globalNamed "quillwort/oper.texts" = some 1 := by kernel_rfl
theorem tabTType : (Tryd.prog.globals[1]?).map (·.type) = some 108 := by kernel_rfl
theorem tabTCells : Tryd.prog.cellsOf 108 = 18 := by kernel_rfl

def tabNL : List (List UInt8) := (List.range 19).map fun i => (nmS i).data.toList
theorem tabNG : Tryd.prog.globalNamed "quillwort/rules.names" = some 0 := by kernel_rfl
theorem tabNType : (Tryd.prog.globals[0]?).map (·.type) = some 84 := by kernel_rfl
theorem tabNCells : Tryd.prog.cellsOf 84 = 19 := by kernel_rfl
theorem cellsText : Tryd.prog.cellsOf 9 = 1 := by kernel_rfl

/-- WHAT THE ROW's LIST GIVES: the tables' cells hold the texts, the names. -/
theorem tx_of_laid {W : World} (h : laidMet Tryd.prog [("quillwort/oper.texts", Rows.laid_quillwort_oper_texts), ("quillwort/rules.names", Rows.laid_quillwort_rules_names)] W) : Tx W := by
  obtain ⟨ps, ⟨g', t', cs, fuel, p, q, hg', ht', hvar, hd, _, _⟩, _⟩ := h
  obtain rfl := Option.some.inj (tabTG.symm.trans hg')
  obtain rfl := Option.some.inj (tabTType.symm.trans ht')
  have hcell : ∀ i, i < 18 → W.cell? ⟨1, i, none⟩ = some (.string (txt i)) := fun i hi => by
    obtain ⟨xs, m, -, hx, hlen, hn, hel⟩ := DataW.trod_array Tryd.underlying108 hd
    rw [tabTCells] at hlen
    have hi2 : i < xs.length := by omega
    have h1 := hel i hi
    rw [cellsText, Nat.mul_one, List.getElem?_eq_getElem hi2] at h1
    obtain ⟨z, hz, hxi, -⟩ := DataW.trod_string Tryd.underlying9 h1
    have hti : (tabTL.map fun t => (DataW.lit (.string t) : DataW Unit))[i]? = some (.lit (.string z.data.toList)) := by
      have e : tabTL.map (fun t => (DataW.lit (.string t) : DataW Unit)) = xs.map (·.1) := (DataW.agg.inj (Prod.mk.inj hx).1 :)
      rw [e, List.getElem?_map, List.getElem?_eq_getElem hi2, hxi]
      rfl
    have hzt : z = txt i := by
      have e : (txt i).data.toList = z.data.toList := by simpa [tabTL, hi] using hti
      exact ByteArray.ext (Array.toList_inj.1 e.symm)
    have hc : cs[i]? = some (.string z) := by
      have e := congrArg (·[0]?) hz
      simpa [List.getElem?_take, List.getElem?_drop] using e
    have hv := World.var?_cell tabTG hvar i
    rw [hv, ← hzt, ← hc]
  refine ⟨?_, hcell⟩
  have h0 := hcell 0 (by omega)
  refine Nat.lt_of_not_le fun g => ?_
  have : W.heap[1]? = none := Array.getElem?_eq_none (by omega)
  simp [World.cell?, this] at h0
theorem nm_of_laid {W : World} (h : laidMet Tryd.prog [("quillwort/oper.texts", Rows.laid_quillwort_oper_texts), ("quillwort/rules.names", Rows.laid_quillwort_rules_names)] W) : Nm W := by
  obtain ⟨ps0, ⟨g0, t0, cs0, fuel0, p0, q0, hg0, ht0, hvar0, hd0, htail, _⟩, _⟩ := h
  obtain ⟨g', t', cs, fuel, p, q, hg', ht', hvar, hd, _, _⟩ := htail
  obtain rfl := Option.some.inj (tabNG.symm.trans hg')
  obtain rfl := Option.some.inj (tabNType.symm.trans ht')
  have hcell : ∀ i, i < 19 → W.cell? ⟨0, i, none⟩ = some (.string (nmS i)) := fun i hi => by
    obtain ⟨xs, m, -, hx, hlen, hn, hel⟩ := DataW.trod_array Tryd.underlying84 hd
    rw [tabNCells] at hlen
    have hi2 : i < xs.length := by omega
    have h1 := hel i hi
    rw [cellsText, Nat.mul_one, List.getElem?_eq_getElem hi2] at h1
    obtain ⟨z, hz, hxi, -⟩ := DataW.trod_string Tryd.underlying9 h1
    have hti : (tabNL.map fun t => (DataW.lit (.string t) : DataW Unit))[i]? = some (.lit (.string z.data.toList)) := by
      have e : tabNL.map (fun t => (DataW.lit (.string t) : DataW Unit)) = xs.map (·.1) := (DataW.agg.inj (Prod.mk.inj hx).1 :)
      rw [e, List.getElem?_map, List.getElem?_eq_getElem hi2, hxi]
      rfl
    have hzt : z = nmS i := by
      have e : (nmS i).data.toList = z.data.toList := by simpa [tabNL, hi] using hti
      exact ByteArray.ext (Array.toList_inj.1 e.symm)
    have hc : cs[i]? = some (.string z) := by
      have e := congrArg (·[0]?) hz
      simpa [List.getElem?_take, List.getElem?_drop] using e
    have hv := World.var?_cell tabNG hvar i
    rw [hv, ← hzt, ← hc]
  refine ⟨?_, hcell⟩
  have h0 := hcell 0 (by omega)
  refine Nat.lt_of_not_le fun g => ?_
  have : W.heap[0]? = none := Array.getElem?_eq_none (by omega)
  simp [World.cell?, this] at h0

/-! The program's own closed facts, once for all rows. -/
theorem pf_laid : laidOutB Tryd.prog = true := by kernel_rfl
theorem pf_maps : mapsRowed Tryd.prog = true := by kernel_rfl
theorem pf_keys : (Rows.rulesNamesRow.plainKeys == Tryd.prog.plainKeys) = true := by kernel_rfl
theorem pf_heard : Tryd.prog.stopsHeard = true := by kernel_rfl
theorem pf_enter : Tryd.prog.mayEnter = true := by kernel_rfl
theorem pf_lifts : (Rows.rulesNamesRow.lifted == Tryd.prog.liftsFinal) = true := by kernel_rfl
theorem pf_make : (Tryd.prog.make == some Rows.rulesNamesRow.make) = true := by kernel_rfl
/-- A WORLD FOR THE WITNESS: each listed table holds what its initialiser lays. -/
noncomputable def laidWorld (os : Os) : World := World.laidAll Tryd.prog os [("quillwort/oper.texts", Rows.laid_quillwort_oper_texts), ("quillwort/rules.names", Rows.laid_quillwort_rules_names)]
theorem laidWorld_os (os : Os) : (laidWorld os).os = os := World.laidAll_os _ _ _
end Go.Proofs.YtmjckjbdkffkoaaDoor

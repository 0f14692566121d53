/- A row of edits read as data: its cells. No condition.
What the row's listed variable gives the walks: the table of operators' texts lies as start-up lays it; and a world for the witness. No condition. -/
import Derived.Test.YtdjcidackkogjaaGreatDoorRk
import Derived.SizedLaws
import Derived.Deep.Slices
import Derived.ShutString
import Derived.ChangeOld
import Derived.Test.YtdjcidackkogjaaGreatDoorCards
import Derived.Test.YtdjcidackkogjaaGreatDoorTie
import Derived.WalkKit
import Derived.ProofKit
import Derived.OpenShut
import Derived.Deep.DeepHandedRow
import Derived.Lay
import Derived.Test.YtdjcidackkogjaaGreatDoorTkC
import Derived.Lib.SmallJoins
namespace Go.Proofs.YtdjcidackkogjaaGreatDoor
open Go Go.RowKit
set_option linter.unusedVariables false
set_option maxRecDepth 100000

section
variable {H : Type} {enc : TypeId × Value → H} {w : World} {base : Nat} {spare : Nat → Bool} {held : Bool}
theorem edit_cells {n : Nat} {cs : List Value} {x : DataW H × List MemPlace} (h : DataW.trod enc Tryz.prog w base spare held n 35 cs = some x) :
    ∃ (a : Int) (d m : ByteArray), cs = [.int .i64 a, .string d, .string m] := by
  obtain ⟨xs, k, _, hx, hlen, hxl, hg⟩ := DataW.trod_struct Tryz.underlying35 h
  rw [show Tryz.prog.cellsOf 35 = 3 from by kernel_rfl] at hlen
  match cs, hlen with
  | [c0, c1, c2], _ =>
    match xs, hxl with
    | [y0, y1, y2], _ =>
      have e0 : DataW.trod enc Tryz.prog w base spare held k 3 (([c0, c1, c2].drop 0).take (Tryz.prog.cellsOf 3)) = some y0 := hg 0 _ rfl
      have e1 : DataW.trod enc Tryz.prog w base spare held k 9 (([c0, c1, c2].drop 1).take (Tryz.prog.cellsOf 9)) = some y1 := hg 1 _ rfl
      have e2 : DataW.trod enc Tryz.prog w base spare held k 9 (([c0, c1, c2].drop 2).take (Tryz.prog.cellsOf 9)) = some y2 := hg 2 _ rfl
      rw [show Tryz.prog.cellsOf 3 = 1 from by kernel_rfl] at e0
      rw [show Tryz.prog.cellsOf 9 = 1 from by kernel_rfl] at e1 e2
      simp at e0 e1 e2
      obtain ⟨a, x0, z0, _⟩ := DataW.trod_int Tryz.underlying3 e0
      obtain ⟨d, x1, z1, _⟩ := DataW.trod_string Tryz.underlying9 e1
      obtain ⟨m, x2, z2, _⟩ := DataW.trod_string Tryz.underlying9 e2
      simp at x0 x1 x2
      subst x0 x1 x2
      exact ⟨a, d, m, rfl⟩
theorem open_edits {fuel : Nat} {a0 : Option Addr} {len cap : Nat} {x : DataW H × List MemPlace}
    (h : DataW.trod enc Tryz.prog w 0 (fun _ => true) true fuel 22 [.slice a0 len cap] = some x) : ∃ (av : Nat → Int) (dv nv : Nat → ByteArray), RdE w a0 len av dv nv := by
  rcases Nat.eq_zero_or_pos len with h0 | hpos
  · exact ⟨fun _ => 0, fun _ => ⟨#[]⟩, fun _ => ⟨#[]⟩, fun i hi => by omega⟩
  · rcases Go.Deep.open_slice Tryz.underlying22 h with ⟨hcs, _⟩ | ⟨a, l, c, m, n, D, Pl, hcs, hb, hl, hm, hmm, hx, hi⟩
    · simp at hcs; omega
    · simp only [List.cons.injEq, Value.slice.injEq, and_true] at hcs
      obtain ⟨rfl, rfl, rfl⟩ := hcs
      rw [if_pos rfl] at hmm
      subst hmm
      rw [show Tryz.prog.cellsOf 35 = 3 from by kernel_rfl] at hi hx
      obtain ⟨ab, aoff, spot⟩ := a
      have hspot : spot = none := by
        obtain ⟨cs', hc0, ht0⟩ := hi 0 (by omega)
        obtain ⟨u, d, k, rfl⟩ := edit_cells ht0
        obtain ⟨_, _, hcell⟩ := World.cells?_some hc0
        have g := hcell 0 (by omega)
        simpa [Addr.add] using World.cell?_spot (v := .int .i64 u) (by simpa [Addr.add] using g)
      subst hspot
      have hbl : ab < w.heap.size := by
        obtain ⟨cs', hc0, _⟩ := hi 0 (by omega)
        exact World.cells?_block hc0 (by omega)
      have hex : ∀ i, ∃ e : Int × ByteArray × ByteArray, i < len → (w.cell? ⟨ab, aoff + i * 3, none⟩ = some (.int .i64 e.1) ∧ w.cell? ⟨ab, aoff + i * 3 + 1, none⟩ = some (.string e.2.1) ∧ w.cell? ⟨ab, aoff + i * 3 + 2, none⟩ = some (.string e.2.2)) := by
        intro i
        by_cases hlt : i < len
        · obtain ⟨cs', hc0, ht0⟩ := hi i (by omega)
          obtain ⟨u, d, k, rfl⟩ := edit_cells ht0
          obtain ⟨_, _, hcell⟩ := World.cells?_some hc0
          have g0 := hcell 0 (by omega)
          have g1 := hcell 1 (by omega)
          have g2 := hcell 2 (by omega)
          rw [Go.Deep.add_add] at g0 g1 g2
          rw [addr_plus] at g0 g1 g2
          exact ⟨(u, d, k), fun _ => ⟨by simpa using g0, by rw [Nat.add_assoc]; simpa using g1, by rw [Nat.add_assoc]; simpa using g2⟩⟩
        · exact ⟨(0, ⟨#[]⟩, ⟨#[]⟩), fun h => absurd h hlt⟩
      obtain ⟨F, hF⟩ := Classical.axiomOfChoice hex
      exact ⟨fun i => (F i).1, fun i => (F i).2.1, fun i => (F i).2.2, fun i hi2 => ⟨ab, aoff, rfl, hbl, hF i hi2⟩⟩
theorem open_edit {fuel : Nat} {cs : List Value} {x : DataW H × List MemPlace} (h : DataW.trod enc Tryz.prog w base spare held fuel 35 cs = some x) : ∃ (a : Int) (d m : ByteArray), cs = [.int .i64 a, .string d, .string m] := edit_cells h
end
end Go.Proofs.YtdjcidackkogjaaGreatDoor
namespace Go.Proofs.YtdjcidackkogjaaGreatDoor
open Go.ChangeShapes Go.WideShapes Go.ChangeAt Go.RowKit

def txtL : List (List UInt8) := (List.range 18).map fun i => (txt i).data.toList
theorem gTexts : Tryz.prog.globalNamed "quillwort/oper.texts" = some 0 := by kernel_rfl
theorem gTextsType : (Tryz.prog.globals[0]?).map (·.type) = some 184 := by kernel_rfl
theorem cellsTexts : Tryz.prog.cellsOf 184 = 18 := by kernel_rfl
theorem cellsText : Tryz.prog.cellsOf 9 = 1 := by kernel_rfl

theorem tx_of_laid {W : World} (h : laidMet Tryz.prog [("unicode/utf8.acceptRanges", Rows.laid_unicode_utf8_acceptRanges), ("quillwort/oper.texts", Rows.laid_quillwort_oper_texts), ("unicode/utf8.first", Rows.laid_unicode_utf8_first)] W) : Tx W := by
  obtain ⟨ps0, ⟨g0, t0, cs0, fuel0, p0, q0, hg0, ht0, hvar0, hd0, htail, _⟩, _⟩ := h
  obtain ⟨g', t', cs, fuel, p, q, hg', ht', hvar, hd, _, _⟩ := htail
  obtain rfl := Option.some.inj (gTexts.symm.trans hg')
  obtain rfl := Option.some.inj (gTextsType.symm.trans ht')
  have hcell : ∀ i, i < 18 → W.cell? ⟨0, i, none⟩ = some (.string (txt i)) := fun i hi => by
    obtain ⟨xs, m, -, hx, hlen, hn, hel⟩ := DataW.trod_array Tryz.underlying184 hd
    rw [cellsTexts] at hlen
    have hi2 : i < xs.length := by omega
    have h1 := hel i hi
    rw [cellsText, Nat.mul_one, List.getElem?_eq_getElem hi2] at h1
    obtain ⟨z, hz, hxi, -⟩ := DataW.trod_string Tryz.underlying9 h1
    have hti : (txtL.map fun t => (DataW.lit (.string t) : DataW Unit))[i]? = some (.lit (.string z.data.toList)) := by
      have e : txtL.map (fun t => (DataW.lit (.string t) : DataW Unit)) = xs.map (·.1) := (DataW.agg.inj (Prod.mk.inj hx).1 :)
      rw [e, List.getElem?_map, List.getElem?_eq_getElem hi2, hxi]
      rfl
    have hzt : z = txt i := by
      have e : (txt i).data.toList = z.data.toList := by simpa [txtL, hi] using hti
      exact ByteArray.ext (Array.toList_inj.1 e.symm)
    have hc : cs[i]? = some (.string z) := by
      have e := congrArg (·[0]?) hz
      simpa [List.getElem?_take, List.getElem?_drop] using e
    have hv := World.var?_cell gTexts hvar i
    rw [hv, ← hzt, ← hc]
  refine ⟨?_, hcell⟩
  have h0 := hcell 0 (by omega)
  refine Nat.pos_of_ne_zero fun g => ?_
  have : W.heap[0]? = none := Array.getElem?_eq_none (by omega)
  simp [World.cell?, this] at h0

/-! The program's own closed facts, once for all rows. -/
theorem pf_laid : laidOutB Tryz.prog = true := by kernel_rfl
theorem pf_maps : mapsRowed Tryz.prog = true := by kernel_rfl
theorem pf_keys : (Rows.relexFollowsRow.plainKeys == Tryz.prog.plainKeys) = true := by kernel_rfl
theorem pf_heard : Tryz.prog.stopsHeard = true := by kernel_rfl
theorem pf_enter : Tryz.prog.mayEnter = true := by kernel_rfl
theorem pf_lifts : (Rows.relexFollowsRow.lifted == Tryz.prog.liftsFinal) = true := by kernel_rfl
theorem pf_make : (Tryz.prog.make == some Rows.relexFollowsRow.make) = true := by kernel_rfl
noncomputable def laidWorld (os : Os) : World := World.laidAll Tryz.prog os [("unicode/utf8.acceptRanges", Rows.laid_unicode_utf8_acceptRanges), ("quillwort/oper.texts", Rows.laid_quillwort_oper_texts), ("unicode/utf8.first", Rows.laid_unicode_utf8_first)]
theorem laidWorld_os (os : Os) : (laidWorld os).os = os := World.laidAll_os _ _ _
end Go.Proofs.YtdjcidackkogjaaGreatDoor

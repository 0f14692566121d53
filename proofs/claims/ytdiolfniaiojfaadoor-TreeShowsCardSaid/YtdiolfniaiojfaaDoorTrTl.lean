/- What the row's listed variables give the walk: the library's table of powers of ten lies as start-up lays it; and a world for the witness. No condition. -/
import Derived.Test.YtdiolfniaiojfaaDoorCards
import Derived.Test.YtdiolfniaiojfaaDoorTie
import Derived.WalkKit
import Derived.ProofKit
import Derived.OpenShut
import Derived.Deep.DeepHandedRow
import Derived.Lay
import Derived.Test.YtdiolfniaiojfaaDoorTrTb
import Derived.Lib.SmallJoins
namespace Go.Proofs.YtdiolfniaiojfaaDoor
open Go.ChangeShapes Go.WideShapes Go.ChangeAt Go.RowKit

theorem tabPType : ((Tryd.prog.globalNamed "internal/strconv.uint64pow10").bind fun g => (Tryd.prog.globals[g]?).map (·.type)) = some 75 := by kernel_rfl
/-- WHAT THE ROW's LIST GIVES: the table of powers of ten. -/
theorem tb_of_laid {W : World} (h : laidMet Tryd.prog [("math/bits.deBruijn32tab", Rows.laid_math_bits_deBruijn32tab), ("math/bits.deBruijn64tab", Rows.laid_math_bits_deBruijn64tab), ("internal/strconv.uint64pow10", Rows.laid_internal_strconv_uint64pow10)] W) : Tb W := by
  obtain ⟨ps0, ⟨g0, t0, cs0, fuel0, p0, q0, hg0, ht0, hvar0, hd0, htail0, _⟩, _⟩ := h
  obtain ⟨g1, t1, cs1, fuel1, p1, q1, hg1, ht1, hvar1, hd1, htail1, _⟩ := htail0
  obtain ⟨g', t', cs, fuel, p, q, hg', ht', hvar, hd, _, _⟩ := htail1
  have htt : t' = 75 := by
    have := tabPType
    rw [hg'] at this
    simp only [Option.bind_some] at this
    rw [ht'] at this
    exact Option.some.inj this
  subst htt
  unfold Tb Lib.TabIs
  rw [hvar, ← Lib.cells_of_tab (n := 20) (k := .u64) (zs := Lib.pow10Tab) Tryd.underlying75 Tryd.underlying68 (by kernel_rfl) (by kernel_rfl) hd]

/-! The program's own closed facts, once for all rows. -/
theorem pf_laid : laidOutB Tryd.prog = true := by kernel_rfl
theorem pf_maps : mapsRowed Tryd.prog = true := by kernel_rfl
theorem pf_keys : (Rows.treeShowsRow.plainKeys == Tryd.prog.plainKeys) = true := by kernel_rfl
theorem pf_heard : Tryd.prog.stopsHeard = true := by kernel_rfl
theorem pf_enter : Tryd.prog.mayEnter = true := by kernel_rfl
theorem pf_lifts : (Rows.treeShowsRow.lifted == Tryd.prog.liftsFinal) = true := by kernel_rfl
theorem pf_make : (Tryd.prog.make == some Rows.treeShowsRow.make) = true := by kernel_rfl
/-- A WORLD FOR THE WITNESS: each listed table holds what its initialiser lays. -/
noncomputable def laidWorld (os : Os) : World := World.laidAll Tryd.prog os [("math/bits.deBruijn32tab", Rows.laid_math_bits_deBruijn32tab), ("math/bits.deBruijn64tab", Rows.laid_math_bits_deBruijn64tab), ("internal/strconv.uint64pow10", Rows.laid_internal_strconv_uint64pow10)]
theorem laidWorld_os (os : Os) : (laidWorld os).os = os := World.laidAll_os _ _ _
end Go.Proofs.YtdiolfniaiojfaaDoor

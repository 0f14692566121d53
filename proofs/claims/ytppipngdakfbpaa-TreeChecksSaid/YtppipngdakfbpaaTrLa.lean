/- What layer 11's statement TreeChecks does. No condition but that the nodes can be read. -/
import Derived.Test.YtppipngdakfbpaaTrB
import Derived.Test.YtppipngdakfbpaaTrX
namespace Go.Proofs.Ytppipngdakfbpaa
open Go.RowKit
set_option linter.unusedVariables false

section
variable (w : World)
theorem treeChecks_law (ao : Option Addr) (len cap : Nat) (nv : Nat → Nd) (lv : Int) (hrow : len ≤ 40 → NRow w ao len nv) :
    Calls Try.prog 3 #[.slice ao len cap, .int .i64 lv] w fun e w' => e = .returned (.bool true) ∧ Below w.heap.size w w' := by
  go_enter Try.func3, Try.ntmps3
  go_wp2_with fail
  refine (awake_any _).mono ?_
  rintro e w0 ⟨rfl, hB0⟩
  by_cases h40 : (40 : Int) < (len : Int)
  · go_wp2
    go_ret
    exact ⟨rfl, hB0⟩
  · have hr := (hrow (by omega)).below hB0
    have HC := Lib.hid (fun W (hW : Below w0.heap.size w0 W) => check_any W ao len cap nv (hr.below hW) lv (by omega))
    have HD := Lib.hid (fun W (hW : Below w0.heap.size w0 W) => refright_any W ao len cap nv (hr.below hW) lv (by omega))
    have HB0 := Lib.hid hB0
    clear hr hrow hB0
    go_wp2_with fail
    refine (HC.out w0 (Below.refl _ _)).mono ?_
    rintro e w1 ⟨⟨x, rfl, hx⟩, hb1⟩
    have HX := Lib.hid hx
    have HB1 := Lib.hid hb1
    clear hx hb1
    go_wp2_with fail
    refine (HD.out w1 HB1.out).mono ?_
    rintro e w2 ⟨⟨y, rfl, hy⟩, hb2⟩
    have hxy : x = y := by
      have h1 := HX.out
      cases x <;> cases y <;> simp_all
    have HB2 := Lib.hid ((HB0.out.trans (HB1.out.mono HB0.out.size)).trans (hb2.mono (Nat.le_trans HB0.out.size HB1.out.size)))
    subst hxy
    have t1 : (x == x) = true := by simp
    clear hy hb2
    go_wp2
    go_ret
    exact ⟨by simp, HB2.out⟩
end
end Go.Proofs.Ytppipngdakfbpaa

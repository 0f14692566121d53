/- That the examples by which every statement of layer 1 begins (awake) hold. No condition. -/
import Derived.Test.YtjickhgkhcojgaaEdC
namespace Go.Proofs.Ytjickhgkhcojgaa
open Go.RowKit
set_option linter.unusedVariables false

theorem isDiff_abc : IsDiff ⟨#[97, 98, 99]⟩ ⟨#[97, 120, 99]⟩ 1 1 := by
  unfold IsDiff
  decide

theorem diff_abc (w : World) :
    Calls Try.prog 16 #[.string ⟨#[97, 98, 99]⟩, .string ⟨#[97, 120, 99]⟩] w fun e w' => e = .returned (.agg #[.int .i64 1, .string ⟨#[98]⟩, .string ⟨#[120]⟩]) ∧ Below w.heap.size w w' := by
  refine (diff_any _ _ w (by decide) (by decide)).mono ?_
  rintro e w1 ⟨h, t, hD, rfl, hb⟩
  obtain ⟨rfl, rfl⟩ := hD.one isDiff_abc
  exact ⟨rfl, hb⟩

theorem wrong_abc : decide (wrongN ⟨#[97, 98, 99]⟩ 3 ⟨#[]⟩ ⟨#[100]⟩ = 0) = true := by decide
theorem goes_abc (w : World) :
    Calls Try.prog 12 #[.string ⟨#[97, 98, 99]⟩, .agg #[.int .i64 3, .string ⟨#[]⟩, .string ⟨#[100]⟩]] w fun e w' => e = .returned (.bool true) ∧ Below w.heap.size w w' := by
  refine (goes_any _ _ _ w 3 (by decide) (by decide) (by decide)).mono ?_
  rintro e w1 ⟨rfl, hb⟩
  rw [wrong_abc]
  exact ⟨rfl, hb⟩

set_option maxHeartbeats 400000 in
theorem awake_any (w : World) : Calls Try.prog 9 #[] w fun e w' => e = .returned (.bool true) ∧ Below w.heap.size w w' := by
  go_enter Try.func9, Try.ntmps9
  go_wp2_with fail
  refine (diff_abc _).mono ?_
  rintro e w1 ⟨rfl, hb1⟩
  go_wp2_with fail
  refine (goes_abc _).mono ?_
  rintro e w2 ⟨rfl, hb2⟩
  have hB := hb1.trans (hb2.mono hb1.size)
  clear hb1 hb2
  go_wp2
  go_ret
  exact ⟨rfl, hB⟩
end Go.Proofs.Ytjickhgkhcojgaa

/- Two rows of nodes that hold the same, held against each other. Condition: at most a million nodes. -/
import Derived.Test.YtdiolfniaiojfaaDoorTrM
import Derived.Laws.StructEq
namespace Go.Proofs.YtdiolfniaiojfaaDoor
open Go.RowKit
set_option linter.unusedVariables false

theorem eq_node (a b c d a' b' c' d' : Int) (w : World) : (Op.equalIn 10000 27 (.agg #[.int .i64 a, .int .i64 b, .int .i64 c, .int .i64 d]) (.agg #[.int .i64 a', .int .i64 b', .int .i64 c', .int .i64 d'])).run Tryd.prog w = .ok (a == a' && (b == b' && (c == c' && d == d'))) w := by
  have u3 := Tryd.underlying3
  have a3 := Tryd.isAgg3
  have z3 := Tryd.sizeOf3
  have hS : Tryd.prog.underlying 27 = some (.struct (Tryd.prog.fieldsOf 27)) := by kernel_rfl
  rw [show (10000 : Nat) = 9999 + 1 from rfl, run_equalIn_agg w 9999 27 _ _ hS (by kernel_rfl)]
  simp only [Program.fieldsOf, Tryd.underlying27]
  go_simp
  by_cases h1 : a = a' <;> by_cases h2 : b = b' <;> by_cases h3 : c = c' <;> by_cases h4 : d = d' <;> simp [h1, h2, h3, h4]
theorem neq_node (a b c d : Int) (w : World) : (binOp .neq 27 (.agg #[.int .i64 a, .int .i64 b, .int .i64 c, .int .i64 d]) (.agg #[.int .i64 a, .int .i64 b, .int .i64 c, .int .i64 d])).run Tryd.prog w = .ok (.bool false) w := by
  rw [run_neq_struct, eq_node]
  simp [Result.andThen]
section
variable (w : World)
set_option maxHeartbeats 2000000 in
theorem same_yes (ao bo : Option Addr) (n ac bc : Nat) (nv : Nat → Nd) (ha : NRow w ao n nv) (hb : NRow w bo n nv) (hl : n ≤ 1000000) :
    Calls Tryd.prog 9 #[.slice ao n ac, .slice bo n bc] w fun e w' => e = .returned (.bool true) ∧ Below w.heap.size w w' := by
  have HA := Lib.hid ha
  have HB := Lib.hid hb
  clear ha hb
  go_enter Tryd.func9, Tryd.ntmps9
  go_wp2
  go_loopw [5] (fun v5 wr => (∃ k : Nat, v5 = .int .i64 (k : Int) ∧ k ≤ n) ∧ Below w.heap.size w wr) (fun v5 _ => n - (intOf v5).toNat)
  case atStart => exact ⟨⟨0, rfl, Nat.zero_le _⟩, Below.refl _ _⟩
  case round =>
    obtain ⟨⟨k, rfl, hk⟩, hW⟩ := hrel
    have HW := Lib.hid hW
    clear hW
    by_cases hlt : (k : Int) < (n : Int)
    · have hlt' : k < n := by omega
      obtain ⟨b1, o1, rfl, hb1, c0, c1, c2, c3⟩ := (HA.out.below HW.out) k hlt'
      obtain ⟨b2, o2, rfl, hb2, d0, d1, d2, d3⟩ := (HB.out.below HW.out) k hlt'
      obtain ⟨P, hP⟩ : ∃ P, nv k = P := ⟨_, rfl⟩
      rw [hP] at c0 c1 c2 c3 d0 d1 d2 d3
      obtain ⟨pk, pf, pt, pu⟩ := P
      simp only at c0 c1 c2 c3 d0 d1 d2 d3
      have hnq := neq_node pk pf pt pu
      have q0 : (0 : Int) ≤ (k : Int) := by omega
      clear hP
      go_wp2
      go_quiet (fail)
      go_wp2
      go_roundw
      case rel => exact ⟨⟨k + 1, by go_num, by omega⟩, belN HW.out _⟩
      case measure => simp [intOf]; omega
    · obtain rfl : k = n := by omega
      go_wp2
      go_ret
      exact ⟨rfl, HW.out⟩
end
end Go.Proofs.YtdiolfniaiojfaaDoor

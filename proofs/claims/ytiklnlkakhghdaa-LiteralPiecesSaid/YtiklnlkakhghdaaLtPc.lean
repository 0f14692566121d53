/- What layer 8's statement LiteralPieces does: the pieces of any text. No condition but that a text's length fits an int. -/
import Derived.Test.YtiklnlkakhghdaaLtJ
import Derived.Test.YtiklnlkakhghdaaLtX
namespace Go.Proofs.Ytiklnlkakhghdaa
open Go.RowKit
set_option linter.unusedVariables false

theorem eq_piece (a b : Bool) (t : ByteArray) (w : World) : (Op.equalIn 10000 26 (.agg #[.bool a, .bool b, .string t]) (.agg #[.bool a, .bool b, .string t])).run Try.prog w = .ok true w := by
  have u4 := Try.underlying4
  have a4 := Try.isAgg4
  have z4 := Try.sizeOf4
  have u9 := Try.underlying9
  have a9 := Try.isAgg9
  have z9 := Try.sizeOf9
  have hS : Try.prog.underlying 26 = some (.struct (Try.prog.fieldsOf 26)) := by kernel_rfl
  rw [show (10000 : Nat) = 9999 + 1 from rfl, run_equalIn_agg w 9999 26 _ _ hS (by kernel_rfl)]
  simp only [Program.fieldsOf, Try.underlying26]
  go_simp
  try simp
theorem neq_piece (a b : Bool) (t : ByteArray) (w : World) : (binOp .neq 26 (.agg #[.bool a, .bool b, .string t]) (.agg #[.bool a, .bool b, .string t])).run Try.prog w = .ok (.bool false) w := by
  rw [run_neq_struct, eq_piece]
  simp [Result.andThen]
def PcRl (n : Nat) (w : World) (v5 : Value) (wr : World) : Prop := ∃ i : Nat, i ≤ n ∧ v5 = .int .i64 (i : Int) ∧ Below w.heap.size w wr
section
variable (w : World)
set_option maxRecDepth 100000 in
set_option maxHeartbeats 4000000 in
theorem literalPieces_law (s : ByteArray) (hmax : s.size ≤ 9223372036854775807) :
    Calls Try.prog 3 #[.string s] w fun e w' => e = .returned (.bool true) ∧ Below w.heap.size w w' := by
  by_cases hs : s.size ≤ 100
  · have hz : ¬ (100 : Int) < (s.size : Int) := by omega
    have HP := Lib.hid (fun W => piecesL_any W s (by omega))
    have HRP := Lib.hid (fun W => refpieces_any W s (by omega))
    have hlen := PCs_len s (by omega)
    go_enter Try.func3, Try.ntmps3
    go_wp2_with fail
    refine (awake8_any _).mono ?_
    rintro e w0 ⟨rfl, hB0⟩
    go_wp2_with fail
    refine (HP.out _).mono ?_
    rintro e w1 ⟨v, rfl, hP1, hB1⟩
    obtain ⟨oa, n, oc, rfl, hR1⟩ := hP1.read
    have h1 := hB0.trans (hB1.mono hB0.size)
    go_wp2_with fail
    refine (HRP.out _).mono ?_
    rintro e w2 ⟨v2, rfl, hP2, hB2⟩
    obtain ⟨oa2, n2, oc2, rfl, hR2⟩ := hP2.read
    obtain rfl : n = n2 := hR1.len.trans hR2.len.symm
    have h2 := h1.trans (hB2.mono h1.size)
    have hRa := hR1.below hB2
    have hnl : n ≤ 120001 := by have := hR1.len; omega
    have HA := Lib.hid hRa
    have HB := Lib.hid hR2
    have hnn : ((n : Int) != (n : Int)) = false := by simp
    clear hP1 hP2 hR1 hR2 hRa h1 hB0 hB1 hB2 hlen
    go_wp2
    go_loopw [5] (fun v5 wr => PcRl n w2 v5 wr) (fun v _ => n - (intOf v).toNat)
    case atStart => exact ⟨0, Nat.zero_le _, rfl, Below.refl _ _⟩
    case round =>
      obtain ⟨i, hi, rfl, hB⟩ := hrel
      by_cases hlt : (i : Int) < (n : Int)
      · have hlt' : i < n := by omega
        have q0 : (0 : Int) ≤ (i : Int) := by omega
        obtain ⟨ob, p, rfl, hp, _, a0, a1, a2⟩ := (HA.out.below hB).get hlt'
        obtain ⟨ob2, p2, rfl, hp2, _, b0, b1, b2⟩ := (HB.out.below hB).get hlt'
        obtain rfl : p = p2 := by rw [hp] at hp2; simpa using hp2
        obtain ⟨x, q, t⟩ := p
        simp only at a0 a1 a2 b0 b1 b2
        have hneq := neq_piece x q t
        clear hp hp2
        go_wp2
        go_quiet (fail)
        go_wp2
        go_roundw
        case rel => exact ⟨i + 1, by omega, by go_num, below_drewN hB _⟩
        case measure => simp [intOf]; omega
      · obtain rfl : i = n := by omega
        go_wp2
        go_ret
        exact ⟨rfl, h2.trans (hB.mono h2.size)⟩
  · have hz : (100 : Int) < (s.size : Int) := by omega
    go_enter Try.func3, Try.ntmps3
    go_wp2_with fail
    refine (awake8_any _).mono ?_
    rintro e w0 ⟨rfl, hB0⟩
    go_wp2
    go_ret
    exact ⟨rfl, hB0⟩
end
end Go.Proofs.Ytiklnlkakhghdaa

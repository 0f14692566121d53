/- What the statements' own awake and layer 7's statement PartsOf do. No condition but that a text's length fits an int. -/
import Derived.Test.YthelcmjgikfbjaaPtJ
namespace Go.Proofs.Ythelcmjgikfbjaa
open Go.RowKit
set_option linter.unusedVariables false

section
variable (w : World)
set_option maxHeartbeats 4000000 in
theorem awake_any : Calls Try.prog 10 #[] w fun e w' => e = .returned (.bool true) ∧ Below w.heap.size w w' := by
  go_enter Try.func10, Try.ntmps10
  go_wp2_with fail
  refine (of_parts_any w ⟨#[97, 39, 98, 39, 36, 120]⟩ (by decide)).mono ?_
  rintro e w1 ⟨⟨v, rfl, hP⟩, hB⟩
  rw [eg_parts] at hP
  obtain ⟨oa, n, oc, rfl, hR⟩ := hP.read
  obtain rfl : n = 2 := hR.len
  obtain ⟨ob, rfl, _, h0⟩ := hR.cells 0 _ rfl
  obtain ⟨ob', he, _, h1⟩ := hR.cells 1 _ rfl
  cases he
  have a0 := h0 0 _ rfl
  have a1 := h0 1 _ rfl
  have a2 := h0 2 _ rfl
  have a3 := h0 3 _ rfl
  have a4 := h0 4 _ rfl
  have b0 := h1 0 _ rfl
  have b1 := h1 1 _ rfl
  have b2 := h1 2 _ rfl
  have b3 := h1 3 _ rfl
  have b4 := h1 4 _ rfl
  simp only [Nat.zero_mul, Nat.zero_add, Nat.one_mul] at a0 a1 a2 a3 a4 b0 b1 b2 b3 b4
  have hq1 := eql_part 4 1 4 (-1) false
  have hq2 := eql_part 12 4 6 (-1) false
  clear hP hR h0 h1
  go_wp2
  go_ret
  exact ⟨rfl, hB⟩

def LaRl (L : List Prt) (n : Nat) (w : World) (v4 v5 : Value) (wr : World) : Prop := ∃ i : Nat, i ≤ n ∧ v5 = .int .i64 (i : Int) ∧ v4 = .bool ((L.take i).any expB) ∧ Below w.heap.size w wr
set_option maxRecDepth 100000 in
set_option maxHeartbeats 4000000 in
theorem partsOf_law (s : ByteArray) (hmax : s.size ≤ 9223372036854775807) :
    Calls Try.prog 3 #[.string s] w fun e w' => e = .returned (.bool true) ∧ Below w.heap.size w w' := by
  by_cases hs : s.size ≤ 100
  · have hz : ¬ (100 : Int) < (s.size : Int) := by omega
    go_enter Try.func3, Try.ntmps3
    go_wp2_with fail
    refine (awake_any _).mono ?_
    rintro e w0 ⟨rfl, hB0⟩
    go_wp2_with fail
    refine (of_ref_any _ s (by omega)).mono ?_
    rintro e w1 ⟨⟨v, rfl, hP⟩, hB1⟩
    obtain ⟨oa, n, oc, rfl, hR⟩ := hP.read
    have hnl : n ≤ 100 := by have h1 := hR.len; have h2 := PL_len s; omega
    have HR := Lib.hid hR
    have hB : Below w.heap.size w w1 := hB0.trans (hB1.mono hB0.size)
    clear hR hP hB0 hB1
    go_wp2
    go_loopw [4, 5] (fun v4 v5 wr => LaRl (PL s) n w1 v4 v5 wr) (fun _ v _ => n - (intOf v).toNat)
    case atStart => exact ⟨0, Nat.zero_le _, rfl, by simp, Below.refl _ _⟩
    case round =>
      obtain ⟨i, hi, rfl, rfl, hBr⟩ := hrel
      have hsz := hBr.size
      by_cases hlt : (i : Int) < (n : Int)
      · have hlt' : i < n := by omega
        have q0 : (0 : Int) ≤ (i : Int) := by omega
        obtain ⟨ob, p, rfl, hp, _, a0, a1, a2, a3, a4⟩ := (HR.out.below hBr).at hlt'
        obtain ⟨f0, _, _, hf0, _, hpf, hpt, _⟩ := PL_get hp
        have hsu : (PL s).take (i + 1) = (PL s).take i ++ [p] := by rw [List.take_add_one, hp]; rfl
        have HSU := Lib.hid hsu
        obtain ⟨x, hx⟩ : ∃ x, expB p = x := ⟨_, rfl⟩
        have HX := Lib.hid hx
        have hex := fun W => refexpands_any W p.mode p.frm p.to p.up p.op (by omega) (by omega)
        rw [show (⟨p.mode, p.frm, p.to, p.up, p.op⟩ : Prt) = p from rfl, hx] at hex
        have HEX := Lib.hid hex
        obtain ⟨y, hy⟩ : ∃ y, ((PL s).take i).any expB = y := ⟨_, rfl⟩
        rw [hy]
        have HY := Lib.hid hy
        obtain ⟨m, f, t, up, op⟩ := p
        simp only at a0 a1 a2 a3 a4 HEX
        clear hp hsu hx hex hpf hpt hy
        cases y
        · go_wp2_with fail
          refine (HEX.out _).mono ?_
          rintro e w3 ⟨rfl, hb3⟩
          go_wp2
          go_roundw
          case rel =>
            refine ⟨i + 1, by omega, by go_num, ?_, hBr.trans (hb3.mono hsz)⟩
            rw [HSU.out, List.any_append, HY.out]
            simp [HX.out]
          case measure => simp [intOf]; omega
        · go_wp2
          go_roundw
          case rel =>
            refine ⟨i + 1, by omega, by go_num, ?_, hBr⟩
            rw [HSU.out, List.any_append, HY.out]
            simp
          case measure => simp [intOf]; omega
      · obtain rfl : n = i := by omega
        have htk : (PL s).take n = PL s := by rw [HR.out.len, List.take_length]
        rw [htk]
        obtain ⟨y, hy⟩ : ∃ y, (PL s).any expB = y := ⟨_, rfl⟩
        rw [hy]
        have HEX := Lib.hid (fun W => expandsS_any W s (by omega))
        rw [hy] at HEX
        clear htk hy
        have hyy : (y == y) = true := by simp
        go_wp2_with fail
        refine (of_parts_any _ s (by omega)).mono ?_
        rintro e w3 ⟨⟨v3, rfl, hP3⟩, hb3⟩
        obtain ⟨oa3, n3, oc3, rfl, hR3⟩ := hP3.read
        have HR3 := Lib.hid hR3
        clear hR3 hP3
        go_wp2_with fail
        refine (same_any _ oa3 oa n3 n oc3 oc (PL s) HR3.out ((HR.out.below hBr).below hb3) (by have h1 := HR3.out.len; have h2 := HR.out.len; omega)).mono ?_
        rintro e w4 ⟨rfl, hF4⟩
        go_wp2_with fail
        refine (HEX.out _).mono ?_
        rintro e w5 ⟨rfl, hb5⟩
        go_wp2
        go_ret
        refine ⟨?_, ?_⟩
        · simp
        · have h3 : Below w.heap.size w w3 := (hB.trans (hBr.mono hB.size)).trans (hb3.mono (Nat.le_trans hB.size hsz))
          have h4 : Below w.heap.size w w4 := h3.trans (hF4.below h3.size (fun _ h => h.elim))
          exact h4.trans (hb5.mono h4.size)
  · have hz : (100 : Int) < (s.size : Int) := by omega
    go_enter Try.func3, Try.ntmps3
    go_wp2_with fail
    refine (awake_any _).mono ?_
    rintro e w0 ⟨rfl, hB0⟩
    go_wp2
    go_ret
    exact ⟨rfl, hB0⟩
end
end Go.Proofs.Ythelcmjgikfbjaa

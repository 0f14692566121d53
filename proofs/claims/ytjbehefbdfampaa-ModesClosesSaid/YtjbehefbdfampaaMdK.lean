/- What Same of layer 6's statements returns: a stack is that of the document's machine. Condition: at most a thousand frames. -/
import Derived.Test.YtjbehefbdfampaaMdB
namespace Go.Proofs.Ytjbehefbdfampaa
open Go.RowKit
set_option linter.unusedVariables false

theorem good_all : ∀ {st : List Fr}, good st → ∀ x ∈ st, x.1 ≤ 14
  | [], h, x, hx => by simp at hx
  | [(m, f)], h, x, hx => by
    have e : m = 0 := h
    simp at hx
    subst hx
    simp [e]
  | (m, f) :: (m2, f2) :: r, h, x, hx => by
    obtain ⟨h1, h2⟩ := good_two h
    rcases List.mem_cons.1 hx with rfl | hx
    · exact good_le h
    · exact good_all h2 x hx

theorem beq_bytes {a b : UInt8} (h : a = b) : ((a.toNat : Int) == (b.toNat : Int)) = true := by rw [h]; simp
set_option maxRecDepth 100000 in
set_option maxHeartbeats 4000000 in
theorem same_any (w : World) (st : List Fr) (hst : ∀ x ∈ st, x.1 ≤ 14) (gl capl : Nat) (hF : Fw w gl capl st.reverse) (S : ByteArray) (g n cap : Nat) (fr : Bool) (hR : Rv w st S g n cap) (hl : st.length ≤ 1000) :
    Calls Try.prog 13 #[.slice (some ⟨gl, 0, none⟩) st.length capl, .agg #[.string S, .slice (some ⟨g, 0, none⟩) n cap, .bool fr]] w fun e w' => e = .returned (.bool true) ∧ Below w.heap.size w w' := by
  have hSs := hR.size
  have hn := hR.n
  obtain ⟨k, hk⟩ : ∃ k, st.length = k := ⟨_, rfl⟩
  rw [hk] at hSs hn hl ⊢
  subst hn
  have hss2 : (S.size : Int) = (n : Int) := by omega
  have HK := Lib.hid hk
  have HSS := Lib.hid hSs
  have HF := Lib.hid hF
  have HR := Lib.hid hR
  clear hF hR hk hSs
  go_enter Try.func13, Try.ntmps13
  go_wp2
  clear hss2
  go_loopw [5] (fun v wr => ∃ i : Nat, v = .int .i64 i ∧ i ≤ n ∧ Below w.heap.size w wr ∧ Blk wr w.heap.size #[.string S, .slice (some ⟨g, 0, none⟩) n cap, .bool fr] 28) (fun v _ => n - (intOf v).toNat)
  case atStart => exact ⟨0, rfl, Nat.zero_le _, (Below.refl _ _).alloc (Nat.le_refl _) _, Blk.new w _ _⟩
  case round =>
    obtain ⟨i, rfl, hi, hB, hbox⟩ := hrel
    by_cases hlt : i < n
    · have hlt2 : (i : Int) < n := by omega
      have hlr : i < st.reverse.length := by rw [List.length_reverse, HK.out]; exact hlt
      obtain ⟨x, hx⟩ : ∃ x, st.reverse[i]? = some x := ⟨_, List.getElem?_eq_getElem hlr⟩
      have hmem : x ∈ st := by
        have := List.mem_of_getElem? hx
        simpa using this
      have hm := hst x hmem
      obtain ⟨m, f⟩ := x
      simp only at hm
      have hq : Frm (fun _ => False) w wr := Frm.of_below hB
      have hc := (HF.out.frm hq (fun h => h)).cell hx
      obtain ⟨hc1, hc2⟩ := hc
      have hc3 := (HR.out.p.frm hq (fun h => h)).cell hx
      simp only at hc1 hc2 hc3
      have hb0 : wr.cell? ⟨w.heap.size, 0, none⟩ = some (.string S) := hbox.cell 0
      have hb1 : wr.cell? ⟨w.heap.size, 1, none⟩ = some (.slice (some ⟨g, 0, none⟩) n cap) := hbox.cell 1
      have hSi : i < S.size := by rw [HSS.out]; exact hlt
      have hSi2 : (i : Int) < S.size := by omega
      have hm15 : m < lettersB.size := by show m < 15; omega
      have heq : lettersB[m] = S[i] := by
        rw [← bt_eq hm15, ← bt_eq hSi, HR.out.s, ltS_bt hx]
        rfl
      have t3 := beq_bytes heq
      have t1 : decide ((m : Int) < 0) = false := decide_eq_false_iff_not.2 (by omega)
      have t2 : decide ((14 : Int) < (m : Int)) = false := decide_eq_false_iff_not.2 (by omega)
      have t4 : ((f : Int) == (f : Int)) = true := by simp
      have t5 : (m : Int) < 15 := by omega
      have t6 : (0 : Int) ≤ m := by omega
      clear hx hmem hlr
      unfold lettersB at t3 heq hm15
      go_wp2
      go_quiet (fail)
      go_wp2
      go_roundw
      case rel => exact ⟨i + 1, by go_num, by omega, ⟨hB.os, hB.tape, hB.output, hB.size, hB.block⟩, hbox.drewN _⟩
      case measure => simp [intOf]; omega
    · obtain rfl : i = n := by omega
      go_wp2
      go_ret
      exact ⟨rfl, hB⟩
end Go.Proofs.Ytjbehefbdfampaa

/- What layer 7's statement PartsPick does. No condition but that the parts can be read. -/
import Derived.Test.YthelcmjgikfbjaaPtN
import Derived.Deep.CutRange
import Derived.Deep.DeepCutAuto
namespace Go.Proofs.Ythelcmjgikfbjaa
open Go.RowKit
set_option linter.unusedVariables false

/-- A row of whole numbers, for reading. -/
structure RdO (w : World) (oa : Option Addr) (n : Nat) (L : List Nat) : Prop where
  len : n = L.length
  cells : ∀ (i x : Nat), L[i]? = some x → ∃ ob, oa = some ⟨ob, 0, none⟩ ∧ ob < w.heap.size ∧ w.cell? ⟨ob, i, none⟩ = some (.int .i64 (x : Int))
theorem RdO.below {w w' : World} {oa : Option Addr} {n : Nat} {L : List Nat} (h : RdO w oa n L) (hb : Below w.heap.size w w') : RdO w' oa n L :=
  ⟨h.len, fun i p hp => by
    obtain ⟨ob, h1, h2, h3⟩ := h.cells i p hp
    exact ⟨ob, h1, Nat.lt_of_lt_of_le h2 hb.size, (hb.cell (p := ⟨ob, i, none⟩) h2).trans h3⟩⟩
theorem owns_rdo {w : World} {base n : Nat} {v : Value} {L : List Nat} (h : w.ownsRow base 3 1 v n (cellsO L)) : ∃ oa oc, v = .slice oa n oc ∧ RdO w oa n L := by
  obtain ⟨oa, oc, rfl⟩ := owns_slice h
  have hn : n = L.length := by have := h.1; rw [cellsO_length] at this; omega
  refine ⟨oa, oc, rfl, hn, fun i p hp => ?_⟩
  have hl : i < L.length := (List.getElem?_eq_some_iff.1 hp).1
  obtain ⟨ob, ocap, hov, _, _, _, hlt⟩ := owns_nil h (by omega)
  obtain ⟨rfl, rfl⟩ : oa = some ⟨ob, 0, none⟩ ∧ oc = ocap := by simpa using hov
  refine ⟨ob, rfl, hlt, ?_⟩
  have := h.cells (g := ob) rfl i (.int .i64 (p : Int)) (by unfold cellsO; rw [List.getElem?_map, hp]; rfl)
  rwa [Addr.add_lit, Nat.zero_add] at this

def PkRl (q r : PVal → Bool) (pv : Nat → PVal) (len : Nat) (w : World) (v9 v10 v11 : Value) (wr : World) : Prop :=
  ∃ i na nb : Nat, i ≤ len ∧ v11 = .int .i64 (i : Int) ∧ v9 = .int .i64 (na : Int) ∧ v10 = .int .i64 (nb : Int) ∧ na = (sel q pv i).length ∧ nb = (sel r pv i).length ∧ wr = w
section
variable (w : World)
theorem partsPick_large (ao : Option Addr) (len cap : Nat) (a u : Int) (hl : 60 < len) :
    Calls Try.prog 6 #[.slice ao len cap, .int .i64 a, .int .i64 u] w fun e w' => e = .returned (.bool true) ∧ Below w.heap.size w w' := by
  have hz : (60 : Int) < (len : Int) := by omega
  go_enter Try.func6, Try.ntmps6
  go_wp2_with fail
  refine (awake_any _).mono ?_
  rintro e w0 ⟨rfl, hB0⟩
  go_wp2
  go_ret
  exact ⟨rfl, hB0⟩
set_option maxRecDepth 100000 in
set_option maxHeartbeats 8000000 in
theorem partsPick_row (ao : Option Addr) (len cap : Nat) (a u : Int) (pv : Nat → PVal) (hl : len ≤ 60) (hrow : PRow w ao len pv) :
    Calls Try.prog 6 #[.slice ao len cap, .int .i64 a, .int .i64 u] w fun e w' => e = .returned (.bool true) ∧ Below w.heap.size w w' := by
  have hz : ¬ (60 : Int) < (len : Int) := by omega
  go_enter Try.func6, Try.ntmps6
  go_wp2_with fail
  refine (awake_any _).mono ?_
  rintro e w0 ⟨rfl, hB0⟩
  have hr0 := hrow.below hB0
  have HR0 := Lib.hid hr0
  clear hr0 hrow
  go_wp2_with fail
  refine (around_any _ a ao len cap pv HR0.out (by omega)).mono ?_
  rintro e w1 ⟨v1, rfl, ho1, hB1⟩
  obtain ⟨oa, oca, rfl, hR1⟩ := owns_rdo ho1
  have HR1 := Lib.hid hR1
  clear hR1 ho1
  go_wp2_with fail
  refine (kids_any _ u ao len cap pv (HR0.out.below hB1) (by omega)).mono ?_
  rintro e w2 ⟨v2, rfl, ho2, hB2⟩
  obtain ⟨ob, ocb, rfl, hR2⟩ := owns_rdo ho2
  have HR2 := Lib.hid hR2
  have HR1' := Lib.hid (HR1.out.below hB2)
  have HRW := Lib.hid ((HR0.out.below hB1).below hB2)
  have hB : Below w.heap.size w w2 := (hB0.trans (hB1.mono hB0.size)).trans (hB2.mono (Nat.le_trans hB0.size hB1.size))
  have hla := sel_len (aroundB a) pv len
  have hlb := sel_len (kidB u) pv len
  obtain ⟨ta, hta⟩ : ∃ ta, (sel (aroundB a) pv len).length = ta := ⟨_, rfl⟩
  obtain ⟨tb, htb⟩ : ∃ tb, (sel (kidB u) pv len).length = tb := ⟨_, rfl⟩
  rw [hta] at hla HR1'
  rw [htb] at hlb HR2
  rw [hta, htb]
  have HTA := Lib.hid hta
  have HTB := Lib.hid htb
  clear hR2 ho2 HR1 HR0 hB0 hB1 hB2 hta htb
  go_wp2
  go_loopw [9, 10, 11] (fun v9 v10 v11 wr => PkRl (aroundB a) (kidB u) pv len w2 v9 v10 v11 wr) (fun _ _ v _ => len - (intOf v).toNat)
  case atStart => exact ⟨0, 0, 0, Nat.zero_le _, rfl, rfl, rfl, rfl, rfl, rfl⟩
  case round =>
    obtain ⟨i, na, nb, hil, rfl, rfl, rfl, hna, hnb, rfl⟩ := hrel
    have hna2 : na ≤ 60 := by have := sel_len (aroundB a) pv i; omega
    have hnb2 : nb ≤ 60 := by have := sel_len (kidB u) pv i; omega
    by_cases hlt : (i : Int) < (len : Int)
    · have hlt' : i < len := by omega
      have q0 : (0 : Int) ≤ (i : Int) := by omega
      obtain ⟨b, off, rfl, hbw, c0, c1, c2, c3, c4⟩ := HRW.out i hlt'
      have hsa := sel_succ (aroundB a) pv i
      have hsk := sel_succ (kidB u) pv i
      have hata := fun h => sel_at (q := aroundB a) (pv := pv) (i := i) h hlt'
      have hatk := fun h => sel_at (q := kidB u) (pv := pv) (i := i) h hlt'
      rw [← hna] at hata
      rw [← hnb] at hatk
      obtain ⟨x, hx⟩ : ∃ x, aroundB a (pv i) = x := ⟨_, rfl⟩
      obtain ⟨y, hy⟩ : ∃ y, kidB u (pv i) = y := ⟨_, rfl⟩
      rw [hx] at hsa hata
      rw [hy] at hsk hatk
      obtain ⟨p, hp⟩ : ∃ p, pv i = p := ⟨_, rfl⟩
      rw [hp] at c0 c1 c2 c3 c4 hx hy
      obtain ⟨m, f, t, up, op⟩ := p
      simp only at c0 c1 c2 c3 c4
      unfold aroundB at hx
      unfold kidB at hy
      simp only at hx hy
      have HX := Lib.hid hx
      have HY := Lib.hid hy
      have HSA := Lib.hid hsa
      have HSK := Lib.hid hsk
      have HNA := Lib.hid hna
      have HNB := Lib.hid hnb
      -- what stands where the next one is asked
      have hga : x = true → ∃ ob2, oa = some ⟨ob2, 0, none⟩ ∧ na < ta ∧ wr.cell? ⟨ob2, na, none⟩ = some (.int .i64 (i : Int)) := by
        intro h
        obtain ⟨ob2, h1, h2, h3⟩ := HR1'.out.cells na i (hata h)
        have := (List.getElem?_eq_some_iff.1 (hata h)).1
        exact ⟨ob2, h1, by rw [← HTA.out]; exact this, h3⟩
      have hgb : y = true → ∃ ob2, ob = some ⟨ob2, 0, none⟩ ∧ nb < tb ∧ wr.cell? ⟨ob2, nb, none⟩ = some (.int .i64 (i : Int)) := by
        intro h
        obtain ⟨ob2, h1, h2, h3⟩ := HR2.out.cells nb i (hatk h)
        have := (List.getElem?_eq_some_iff.1 (hatk h)).1
        exact ⟨ob2, h1, by rw [← HTB.out]; exact this, h3⟩
      have HGA := Lib.hid hga
      have HGB := Lib.hid hgb
      clear hx hy hsa hsk hata hatk hp hna hnb hga hgb
      go_upto_region 12 with fail
      go_cut [60] from 29 to 60 (fun v60 wx => v60 = .bool x ∧ wx = wr)
      case first =>
        cases op
        all_goals
          go_wp2
          all_goals
            go_meet
            case rel =>
              refine ⟨congrArg Value.bool ?_, rfl⟩
              rw [← HX.out, Bool.eq_iff_iff]
              simp
              try omega
      case rest =>
        obtain ⟨rfl, rfl⟩ := hcut
        cases x
        · cases y
          · have ty : (up == u) = false := by have := HY.out; simpa using this
            go_wp2
            go_roundw
            case rel =>
              refine ⟨i + 1, na, nb, by omega, by go_num, rfl, rfl, ?_, ?_, rfl⟩
              · rw [HSA.out, HNA.out]; simp
              · rw [HSK.out, HNB.out]; simp
            case measure => simp [intOf]; omega
          · have ty : (up == u) = true := by have := HY.out; simpa using this
            obtain ⟨ob2, rfl, hlb2, xb⟩ := HGB.out rfl
            have g1 : ¬ (tb : Int) ≤ (nb : Int) := by omega
            have g2 : (nb : Int) < (tb : Int) := by omega
            have g3 : (0 : Int) ≤ (nb : Int) := by omega
            go_wp2
            go_roundw
            case rel =>
              refine ⟨i + 1, na, nb + 1, by omega, by go_num, rfl, by go_num, ?_, ?_, rfl⟩
              · rw [HSA.out, HNA.out]; simp
              · rw [HSK.out, HNB.out]; simp
            case measure => simp [intOf]; omega
        · obtain ⟨oa2, rfl, hla2, xa⟩ := HGA.out rfl
          have k1 : ¬ (ta : Int) ≤ (na : Int) := by omega
          have k2 : (na : Int) < (ta : Int) := by omega
          have k3 : (0 : Int) ≤ (na : Int) := by omega
          cases y
          · have ty : (up == u) = false := by have := HY.out; simpa using this
            go_wp2
            go_roundw
            case rel =>
              refine ⟨i + 1, na + 1, nb, by omega, by go_num, by go_num, rfl, ?_, ?_, rfl⟩
              · rw [HSA.out, HNA.out]; simp
              · rw [HSK.out, HNB.out]; simp
            case measure => simp [intOf]; omega
          · have ty : (up == u) = true := by have := HY.out; simpa using this
            obtain ⟨ob2, rfl, hlb2, xb⟩ := HGB.out rfl
            have g1 : ¬ (tb : Int) ≤ (nb : Int) := by omega
            have g2 : (nb : Int) < (tb : Int) := by omega
            have g3 : (0 : Int) ≤ (nb : Int) := by omega
            go_wp2
            go_roundw
            case rel =>
              refine ⟨i + 1, na + 1, nb + 1, by omega, by go_num, by go_num, by go_num, ?_, ?_, rfl⟩
              · rw [HSA.out, HNA.out]; simp
              · rw [HSK.out, HNB.out]; simp
            case measure => simp [intOf]; omega
    · obtain rfl : len = i := by omega
      have e1 : ta = na := by rw [hna]; exact HTA.out.symm
      have e2 : tb = nb := by rw [hnb]; exact HTB.out.symm
      subst e1 e2
      have h1 : ((ta : Int) == (ta : Int)) = true := by simp
      have h2 : ((tb : Int) == (tb : Int)) = true := by simp
      clear hna hnb
      go_wp2
      go_ret
      exact ⟨by simp, hB⟩
end
end Go.Proofs.Ythelcmjgikfbjaa

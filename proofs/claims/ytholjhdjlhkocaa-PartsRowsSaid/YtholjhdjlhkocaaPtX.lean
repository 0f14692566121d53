/- What the document's Byte and parts.holding return, of a text's parts as they lie in memory. Condition: at most 60,000 parts. -/
import Derived.Test.YtholjhdjlhkocaaPtW
import Derived.Deep.DeepCutAuto
namespace Go.Proofs.Ytholjhdjlhkocaa
open Go.RowKit
set_option linter.unusedVariables false

def ByRl (s : ByteArray) (a n : Nat) (w : World) (v5 v6 : Value) (wr : World) : Prop := ∃ i : Nat, i ≤ n ∧ v6 = .int .i64 (i : Int) ∧ v5 = .int .i64 (byI s a i) ∧ wr = w
def HoRl (s : ByteArray) (a n : Nat) (R : Int) (w : World) (v1 : Value) (wr : World) : Prop := ∃ v : Int, -1 ≤ v ∧ v < (n : Int) ∧ v1 = .int .i64 v ∧ byI s a (v + 1).toNat = R ∧ (∀ (j : Nat) p, v = (j : Nat) → (PL s)[j]? = some p → p.frm ≤ a) ∧ wr = w
section
variable (w : World)
set_option maxHeartbeats 4000000 in
theorem byte_any (oa : Option Addr) (n oc : Nat) (s : ByteArray) (a : Nat) (hR : RdP w oa n (PL s)) (hn : n ≤ 60000) :
    Calls Try.prog 14 #[.slice oa n oc, .int .i64 (a : Int)] w fun e w' => e = .returned (.int .i64 (byP s a)) ∧ w' = w := by
  have HR := Lib.hid hR
  clear hR
  go_enter Try.func14, Try.ntmps14
  go_wp2
  go_loopw [5, 6] (fun v5 v6 wr => ByRl s a n w v5 v6 wr) (fun _ v _ => n - (intOf v).toNat)
  case atStart => exact ⟨0, Nat.zero_le _, rfl, rfl, rfl⟩
  case round =>
    obtain ⟨i, hi, rfl, rfl, rfl⟩ := hrel
    by_cases hlt : (i : Int) < (n : Int)
    · have hlt' : i < n := by omega
      have q0 : (0 : Int) ≤ (i : Int) := by omega
      have hiL : i < (PL s).length := by have := HR.out.len; omega
      obtain ⟨p, hp⟩ : ∃ p, (PL s)[i]? = some p := ⟨_, List.getElem?_eq_getElem hiL⟩
      obtain ⟨ob, rfl, _, _, a1, a2, _, _⟩ := HR.out.get hp
      have hsu := byI_succ (a := a) hp
      obtain ⟨x, hx⟩ : ∃ x, byI s a i = x := ⟨_, rfl⟩
      obtain ⟨f, hf⟩ : ∃ f, p.frm = f := ⟨_, rfl⟩
      obtain ⟨t, ht⟩ : ∃ t, p.to = t := ⟨_, rfl⟩
      rw [hf] at a1 hsu
      rw [ht] at a2 hsu
      rw [hx] at hsu
      rw [hx]
      have HSU := Lib.hid hsu
      clear hsu hx hf ht hp hiL
      by_cases c1 : f ≤ a
      · have d1 : (f : Int) ≤ (a : Int) := by omega
        by_cases c2 : a < t
        · have d2 : (a : Int) < (t : Int) := by omega
          have d2d : decide (a < t) = true := by simpa using c2
          have d1d : decide (f ≤ a) = true := by simpa using c1
          go_wp2
          go_roundw
          case rel => exact ⟨i + 1, by omega, by go_num, by rw [HSU.out, if_pos ⟨c1, c2⟩], rfl⟩
          case measure => simp [intOf]; omega
        · have d2 : ¬ (a : Int) < (t : Int) := by omega
          have d2d : decide (a < t) = false := by simpa using c2
          have d1d : decide (f ≤ a) = true := by simpa using c1
          go_wp2
          go_roundw
          case rel => exact ⟨i + 1, by omega, by go_num, by rw [HSU.out, if_neg (fun h => c2 h.2)], rfl⟩
          case measure => simp [intOf]; omega
      · have d1 : ¬ (f : Int) ≤ (a : Int) := by omega
        have d1d : decide (f ≤ a) = false := by simpa using c1
        go_wp2
        go_roundw
        case rel => exact ⟨i + 1, by omega, by go_num, by rw [HSU.out, if_neg (fun h => c1 h.1)], rfl⟩
        case measure => simp [intOf]; omega
    · obtain rfl : n = i := by omega
      have e : byI s a n = byP s a := by unfold byP; rw [HR.out.len]
      rw [e]
      go_wp2
      go_ret
      exact ⟨rfl, rfl⟩
set_option maxHeartbeats 4000000 in
theorem holding_any (oa : Option Addr) (n oc : Nat) (s : ByteArray) (a : Nat) (v0 R : Int) (hR : RdP w oa n (PL s)) (hn : n ≤ 60000) (h1 : -1 ≤ v0) (h2 : v0 < (n : Int)) (h3 : ∀ (j : Nat) p, v0 = (j : Nat) → (PL s)[j]? = some p → p.frm ≤ a) (h4 : byI s a (v0 + 1).toNat = R) :
    Calls Try.prog 59 #[.slice oa n oc, .int .i64 v0, .int .i64 (a : Int)] w fun e w' => e = .returned (.int .i64 R) ∧ w' = w := by
  have HR := Lib.hid hR
  have H3 := Lib.hid h3
  have H4 := Lib.hid h4
  clear hR h3 h4
  go_enter Try.func59, Try.ntmps59
  go_wp2
  go_step3
  go_wp2
  go_step3
  go_wp2
  go_loopw [1] (fun v1 wr => HoRl s a n R w v1 wr) (fun v _ => (intOf v + 1).toNat)
  case atStart => exact ⟨v0, h1, h2, rfl, H4.out, H3.out, rfl⟩
  case round =>
    obtain ⟨v, g1, g2, rfl, g3, g4, rfl⟩ := hrel
    have G3 := Lib.hid g3
    have G4 := Lib.hid g4
    clear g3 g4
    by_cases hv : 0 ≤ v
    · obtain ⟨j, rfl⟩ : ∃ j : Nat, v = (j : Nat) := ⟨v.toNat, by omega⟩
      have hiL : j < (PL s).length := by have := HR.out.len; omega
      obtain ⟨p, hp⟩ : ∃ p, (PL s)[j]? = some p := ⟨_, List.getElem?_eq_getElem hiL⟩
      obtain ⟨ob, rfl, _, _, _, a2, a3, _⟩ := HR.out.get hp
      have hfr := G4.out j p rfl hp
      obtain ⟨u1, u2, u3⟩ := PL_up hp
      have HP := Lib.hid hp
      have HFR := Lib.hid hfr
      obtain ⟨up, hup⟩ : ∃ up, p.up = up := ⟨_, rfl⟩
      obtain ⟨t, ht⟩ : ∃ t, p.to = t := ⟨_, rfl⟩
      rw [ht] at a2
      rw [hup] at a3 u1 u2
      have HT := Lib.hid ht
      have HUP := Lib.hid hup
      clear ht hup hp hfr u3
      by_cases c : (a : Int) < (t : Int)
      · have cd : decide (a < t) = true := by simp; omega
        go_wp2
        rw [Exit.noGoto_ret]
        go_ret
        refine ⟨?_, rfl⟩
        have e := byI_hit HP.out HFR.out (by have := HT.out; omega)
        have e2 := G3.out
        rw [show ((j : Int) + 1).toNat = j + 1 by omega, e] at e2
        rw [e2]
        rfl
      · have cd : decide (a < t) = false := by simp; omega
        go_wp2
        go_roundw
        case rel =>
          have e := hold_step HP.out HFR.out (by have := HT.out; omega)
          have e2 := G3.out
          rw [show ((j : Int) + 1).toNat = j + 1 by omega, e, HUP.out] at e2
          refine ⟨up, u1, by omega, rfl, e2, fun i q hi hq => ?_, rfl⟩
          have e3 := PL_inc hq HP.out (by omega)
          have e4 := HFR.out
          omega
        case measure => simp [intOf]; omega
    · obtain rfl : -1 = v := by omega
      go_wp2
      go_ret
      refine ⟨?_, rfl⟩
      rw [← G3.out]
      rfl
end
end Go.Proofs.Ytholjhdjlhkocaa

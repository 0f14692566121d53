/- What the document's own Where, First and Lines of layer 3 (lines) return: line and column of a place, a line's first place, all lines. Condition: texts of at most a million bytes; a place of the text; a line that there is. -/
import Derived.Test.YtiiebholgmhogaaRows
import Derived.Test.YtiiebholgmhogaaLnP
import Derived.WalkKit
import Derived.WalkSpells
import Derived.WalkMore
import Derived.WalkLawsBesides
import Derived.Deep.QuietTactic
import Derived.BigQuiet
import Derived.Lib.Hide
import Derived.WalkSmall
import Derived.IntWalk
import Derived.StillTailTactics
namespace Go.Proofs.Ytiiebholgmhogaa
open Go.RowKit
set_option linter.unusedVariables false

theorem nl_yes {s : ByteArray} {k : Nat} (h : k < s.size) (e : bt s k = 10) : ((s[k].toNat : Int) == 10) = true := by
  rw [bt_eq h] at e; rw [e]; rfl
theorem nl_no {s : ByteArray} {k : Nat} (h : k < s.size) (e : bt s k ≠ 10) : ((s[k].toNat : Int) == 10) = false := by
  rw [bt_eq h] at e
  rw [beq_eq_false_iff_ne]
  intro g
  exact e (UInt8.toNat_inj.1 (by simpa using (show s[k].toNat = 10 by omega)))

def WhRel (s : ByteArray) (m : Nat) (w : World) (v6 v7 v8 : Value) (wr : World) : Prop :=
  ∃ k l c : Nat, k ≤ m ∧ v6 = .int .i64 l ∧ v7 = .int .i64 c ∧ v8 = .int .i64 k ∧ l = ct s k ∧ c = k - hd s k ∧ wr = w

set_option maxHeartbeats 1000000 in
theorem refwhere_any (s : ByteArray) (m : Nat) (w : World) (hs : s.size ≤ 1000000) (hm : m ≤ s.size) :
    Calls Try.prog 21 #[.string s, .int .i64 m] w fun e w' => e = .returned (.tuple #[.int .i64 (ct s m : Nat), .int .i64 (m - hd s m : Nat)]) ∧ w' = w := by
  have hs' : (m : Int) ≤ s.size := by omega
  go_enter Try.func21, Try.ntmps21
  go_wp2
  go_loopw [6, 7, 8] (fun v6 v7 v8 wr => WhRel s m w v6 v7 v8 wr) (fun _ _ v8 _ => m - (intOf v8).toNat)
  case atStart => exact ⟨0, 0, 0, Nat.zero_le _, rfl, rfl, rfl, rfl, rfl, rfl⟩
  case round =>
    obtain ⟨k, l, c, hk, rfl, rfl, rfl, hl, hc, rfl⟩ := hrel
    have HL := Lib.hid hl
    have HC := Lib.hid hc
    have hl' : l ≤ 1000000 := by have := ct_le s k; omega
    have hc' : c ≤ 1000000 := by omega
    clear hl hc
    by_cases hlt : (k : Int) < m
    · have hx : (k : Int) < s.size := by omega
      have hx' : k < s.size := by omega
      by_cases e : bt s k = 10
      · have t1 := nl_yes hx' e
        have HE := Lib.hid e
        clear e
        go_wp2
        go_roundw
        case rel => exact ⟨k + 1, l + 1, 0, by omega, by go_num, by go_num, by go_num, by rw [HL.out, ct_s1 s HE.out], by rw [hd_s1 s HE.out]; omega, rfl⟩
        case measure => simp [intOf]; omega
      · have t1 := nl_no hx' e
        have HE := Lib.hid e
        clear e
        go_wp2
        go_roundw
        case rel => exact ⟨k + 1, l, c + 1, by omega, by go_num, by go_num, by go_num, by rw [HL.out, ct_s0 s HE.out], by have := hd_le s k; rw [HC.out, hd_s0 s HE.out]; omega, rfl⟩
        case measure => simp [intOf]; omega
    · obtain rfl : k = m := by omega
      go_wp2
      go_ret2
      exact ⟨by rw [HL.out, HC.out]; rfl, rfl⟩

def FiRel (s : ByteArray) (l : Nat) (w : World) (v1 v5 v6 : Value) (wr : World) : Prop :=
  ∃ k r h : Nat, k ≤ s.size ∧ v1 = .int .i64 r ∧ v5 = .int .i64 h ∧ v6 = .int .i64 k ∧ ct s k ≤ l ∧ r = l - ct s k ∧ h = hd s k ∧ wr = w

set_option maxHeartbeats 1000000 in
theorem first_any (s : ByteArray) (l : Nat) (w : World) (hs : s.size ≤ 1000000) (hl : l ≤ ct s s.size) :
    Calls Try.prog 14 #[.string s, .int .i64 l] w fun e w' => e = .returned (.int .i64 (headL (br s s.size) l : Nat)) ∧ w' = w := by
  have hl' : l ≤ 1000000 := by have := ct_le s s.size; omega
  go_enter Try.func14, Try.ntmps14
  go_wp2
  go_loopw [1, 5, 6] (fun v1 v5 v6 wr => FiRel s l w v1 v5 v6 wr) (fun _ _ v6 _ => s.size - (intOf v6).toNat)
  case atStart => exact ⟨0, l, 0, Nat.zero_le _, rfl, rfl, rfl, Nat.zero_le _, rfl, rfl, rfl⟩
  case round =>
    obtain ⟨k, r, h, hk, rfl, rfl, rfl, hc, hr, hh, rfl⟩ := hrel
    have HR := Lib.hid hr
    have HH := Lib.hid hh
    have hr' : r ≤ 1000000 := by omega
    have hh' : h ≤ 1000000 := by have := hd_le s k; omega
    clear hr hh
    by_cases hlt : (k : Int) < s.size
    · have hx' : k < s.size := by omega
      by_cases hr0 : (0 : Int) < r
      · by_cases e : bt s k = 10
        · have t1 := nl_yes hx' e
          have HE := Lib.hid e
          clear e
          go_wp2
          go_roundw
          case rel => exact ⟨k + 1, r - 1, k + 1, by omega, by go_num, by go_num, by go_num, by rw [ct_s1 s HE.out]; have := HR.out; omega, by rw [ct_s1 s HE.out, HR.out]; omega, by rw [hd_s1 s HE.out], rfl⟩
          case measure => simp [intOf]; omega
        · have t1 := nl_no hx' e
          have HE := Lib.hid e
          clear e
          go_wp2
          go_roundw
          case rel => exact ⟨k + 1, r, h, by omega, by go_num, by go_num, by go_num, by rw [ct_s0 s HE.out]; exact hc, by rw [ct_s0 s HE.out, HR.out], by rw [hd_s0 s HE.out, HH.out], rfl⟩
          case measure => simp [intOf]; omega
      · go_wp2
        go_ret
        exact ⟨by rw [HH.out, hd_here s (l := l) hk (by have := HR.out; omega)]; rfl, rfl⟩
    · obtain rfl : k = s.size := by omega
      go_wp2
      go_ret
      exact ⟨by rw [HH.out, hd_here s (l := l) hk (by omega)]; rfl, rfl⟩
end Go.Proofs.Ytiiebholgmhogaa

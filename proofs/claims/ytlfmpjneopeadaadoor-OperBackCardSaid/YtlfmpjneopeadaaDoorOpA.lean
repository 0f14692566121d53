/- What Of, measure, row and Blanks of layer 4 (class) return, for the walks of layer 5 (oper). Condition: texts of at most a million bytes. -/
import Derived.RangeFuncBox
import Derived.RangeFuncNested
import Derived.RangeFuncLeaves
import Derived.Shelf.Abstract
import Derived.WalkKit
import Derived.WalkSpells
import Derived.WalkLawsBesides
import Derived.OwnWalkIn
import Derived.TacticsInMore
import Derived.LoopNIn
import Derived.LoopIn
import Derived.Lib.Hide
import Derived.WalkSmall
import Derived.WalkMore
import Derived.IntWalk
import Derived.Test.YtlfmpjneopeadaaDoorRows
import Derived.Test.YtlfmpjneopeadaaDoorOpQ
import Derived.Test.YtlfmpjneopeadaaDoorMem
namespace Go.Proofs.YtlfmpjneopeadaaDoor
open Go.RowKit
set_option linter.unusedVariables false
attribute [local go_sem] Oper.semAt_some

theorem ret_int {k : IntKind} {a b : Int} (h : a = b) : Ending.returned (.int k a) = .returned (.int k b) := by rw [h]
theorem ret_bool {a b : Bool} (h : a = b) : Ending.returned (.bool a) = .returned (.bool b) := by rw [h]

set_option maxRecDepth 100000 in
set_option maxHeartbeats 2000000 in
theorem of_in (F : Fence) (n : Nat) (hf : F.fn 31) (hro : F.round = none) (c : Nat) (w : World) :
    CallsIn F n Tryd.prog 31 #[.int .u8 c] w fun e w' => e = .returned (.int .i64 (cls c : Nat)) ∧ w' = w := by
  refine callsIn_of_wp Tryd.func31 rfl hf ?_ hro
  simp only [Tryd.ntmps31, List.size_toArray, List.length_cons, List.length_nil, Nat.reduceAdd, Nat.reduceSub, Array.replicate_succ, Array.replicate_zero, List.push_toArray, List.append_toArray, List.nil_append, List.cons_append]
  gi_wp2
  all_goals
    go_ret
    refine ⟨ret_int ?_, rfl⟩
    clear hro hf
    simp only [beq_iff_eq, beq_eq_false_iff_ne, ne_eq] at *
    unfold cls
    (repeat' split) <;> omega
theorem of_any (c : Nat) (w : World) : Calls Tryd.prog 31 #[.int .u8 c] w fun e w' => e = .returned (.int .i64 (cls c : Nat)) ∧ w' = w :=
  (callsIn_wide (n := 1)).1 (of_in _ _ trivial rfl c w)

theorem is_any (c i d b : Nat) (w : World) (hc : w.cell? ⟨b, 0, none⟩ = some (.int .i64 d)) :
    Calls Tryd.prog 30 #[.int .i64 c, .int .i64 i, .pointer (some ⟨b, 0, none⟩)] w fun e w' => e = .returned (.bool (decide (c = d))) ∧ w' = w := by
  go_enter Tryd.func30, Tryd.ntmps30
  go_wp2
  go_ret
  exact ⟨ret_bool (by rw [Bool.eq_iff_iff, decide_eq_true_iff, beq_iff_eq]; omega), rfl⟩

theorem is_eq (c i d b : Nat) (w : World) (hc : w.cell? ⟨b, 0, none⟩ = some (.int .i64 d)) (x : Bool) (h : decide (c = d) = x) :
    Calls Tryd.prog 30 #[.int .i64 c, .int .i64 i, .pointer (some ⟨b, 0, none⟩)] w fun e w' => e = .returned (.bool x) ∧ w' = w := by
  rw [← h]; exact is_any c i d b w hc

def MeRel (q : Nat → Bool) (z : Nat) (w : World) (v : Value) (wr : World) : Prop := ∃ k : Nat, k ≤ z ∧ v = .int .i64 k ∧ (∀ i, i < k → q i = true) ∧ wr = w

set_option maxRecDepth 100000 in
set_option maxHeartbeats 1000000 in
theorem measure_out (s : ByteArray) (a : Int) (fv : Value) (w : World) (hs : s.size ≤ 1000000) (h : a < 0 ∨ (s.size : Int) ≤ a) :
    Calls Tryd.prog 29 #[.string s, .int .i64 a, fv] w fun e w' => e = .returned (.int .i64 0) ∧ w' = w := by
  by_cases g : a < 0
  · have hd : decide (a < 0) = true := by simpa using g
    clear h
    go_enter Tryd.func29, Tryd.ntmps29
    go_wp2
    go_step3
    go_wp2
    rw [Exit.noGoto_ret]
    go_ret
    exact ⟨rfl, rfl⟩
  · have h2 : (s.size : Int) ≤ a := by omega
    have hd : decide (a < 0) = false := by simpa using g
    have hd2 : decide ((s.size : Int) ≤ a) = true := by simpa using h2
    clear h
    go_enter Tryd.func29, Tryd.ntmps29
    go_wp2
    go_step3
    go_wp2
    rw [Exit.noGoto_ret]
    go_ret
    exact ⟨rfl, rfl⟩

set_option maxRecDepth 100000 in
set_option maxHeartbeats 2000000 in
theorem measureR_any (s : ByteArray) (a : Nat) (w : World) (hs : s.size ≤ 1000000) (h : a < s.size) (d b : Nat) (hc : w.cell? ⟨b, 0, none⟩ = some (.int .i64 d)) :
    Calls Tryd.prog 29 #[.string s, .int .i64 a, .func (.func 30) #[] #[.pointer (some ⟨b, 0, none⟩)]] w fun e w' => e = .returned (.int .i64 (rowN s a d : Nat)) ∧ w' = w := by
  have hi : (a : Int) < s.size := by omega
  have hi2 : (a : Int) ≤ s.size := by omega
  have hd : decide ((a : Int) < 0) = false := by simp
  have hd2 : decide (s.size ≤ a) = false := by simp; omega
  go_enter Tryd.func29, Tryd.ntmps29
  go_wp2
  go_step3
  go_wp2
  go_step3
  go_wp2
  go_loopw [8] (fun v wr => MeRel (fun i => decide (cl s (a + i) = d)) (s.size - a) w v wr) (fun v _ => s.size - a - (intOf v).toNat)
  case atStart => exact ⟨0, Nat.zero_le _, rfl, fun i h => by omega, rfl⟩
  case round =>
    obtain ⟨k, hk, rfl, hq, rfl⟩ := hrel
    have HQ := Lib.hid hq
    clear hq
    by_cases hlt : a + k < s.size
    · have hx : (k : Int) < (s.size : Int) - a := by omega
      have hx1 : k < s.size - a := by omega
      have hx2 : (k : Int) < (s.extract a s.size).size := by simp; omega
      have hx3 : k < (s.extract a s.size).size := by simp; omega
      have e1 : (bt (s.extract a s.size) k) = bt s (a + k) := bt_extract s a s.size k (Nat.le_refl _) (by omega)
      rw [bt_eq hx3] at e1
      have e2 : cls (s.extract a s.size)[k].toNat = cl s (a + k) := by rw [e1]; rfl
      have E2 := Lib.hid e2
      clear e1 e2
      obtain ⟨y, hy⟩ : ∃ y, (decide (cl s (a + k) = d)) = y := ⟨_, rfl⟩
      have HY := Lib.hid hy
      clear hy
      cases y
      all_goals
        go_wp2_with fail
        refine (of_any _ _).mono ?_
        rintro e w' ⟨rfl, rfl⟩
        rw [E2.out]
        go_wp2_with fail
        refine (is_eq _ _ _ _ _ hc _ HY.out).mono ?_
        rintro e w' ⟨rfl, rfl⟩
        go_wp2
      · rw [Exit.noGoto_ret]
        go_ret
        refine ⟨ret_int ?_, rfl⟩
        rw [show rowN s a d = k from lead_eq _ hk HQ.out (fun _ => HY.out)]
      · go_roundw
        case rel =>
          refine ⟨k + 1, by omega, by go_num, fun i hi => ?_, rfl⟩
          by_cases g : i = k
          · rw [g]; exact HY.out
          · exact HQ.out i (by omega)
        case measure => simp [intOf]; omega
    · have hz : k = s.size - a := by omega
      have HZ := Lib.hid hz
      clear hz
      go_wp2
      go_ret
      refine ⟨ret_int ?_, rfl⟩
      rw [show rowN s a d = k from lead_eq _ hk HQ.out (fun g => absurd HZ.out (Nat.ne_of_lt g))]

/-- What stands at a place, or 0. -/
def atV (s : ByteArray) (a : Int) (f : Nat → Nat) : Int := if 0 ≤ a ∧ a < s.size then (f a.toNat : Nat) else 0

theorem row_any (s : ByteArray) (a : Int) (d : Nat) (w : World) (hs : s.size ≤ 1000000) :
    Calls Tryd.prog 27 #[.string s, .int .i64 a, .int .i64 d] w fun e w' => e = .returned (.int .i64 (atV s a (fun k => rowN s k d))) ∧ w' = w.alloc (.cells #[.int .i64 d] 3) := by
  have hc := (Blk.new w #[.int .i64 (d : Int)] 3).cell 0
  unfold atV
  by_cases h : 0 ≤ a ∧ a < s.size
  · rw [if_pos h]
    obtain ⟨k, rfl⟩ := Int.eq_ofNat_of_zero_le h.1
    have hk : k < s.size := by omega
    clear h
    go_enter Tryd.func27, Tryd.ntmps27
    go_wp2_with fail
    refine (measureR_any s k _ hs hk d _ hc).mono ?_
    rintro e w' ⟨rfl, rfl⟩
    go_wp2
    go_ret
    exact ⟨rfl, rfl⟩
  · rw [if_neg h]
    have h' : a < 0 ∨ (s.size : Int) ≤ a := by omega
    have H := Lib.hid h'
    clear h h'
    go_enter Tryd.func27, Tryd.ntmps27
    go_wp2_with fail
    refine (measure_out s a _ _ hs H.out).mono ?_
    rintro e w' ⟨rfl, rfl⟩
    go_wp2
    go_ret
    exact ⟨rfl, rfl⟩
theorem blanks_any (s : ByteArray) (a : Int) (w : World) (hs : s.size ≤ 1000000) :
    Calls Tryd.prog 25 #[.string s, .int .i64 a] w fun e w' => e = .returned (.int .i64 (atV s a (fun k => rowN s k 1))) ∧ Below w.heap.size w w' := by
  go_enter Tryd.func25, Tryd.ntmps25
  go_wp2_with (go_at_call 27; refine (row_any s a 1 _ hs).mono ?_; rintro e w' ⟨rfl, rfl⟩)
  go_ret
  exact ⟨rfl, (Below.refl _ _).alloc (Nat.le_refl _) _⟩
end Go.Proofs.YtlfmpjneopeadaaDoor

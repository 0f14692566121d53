/- What the leaf functions of layer 1 (edit) and the document's own answers return, call by call, as the walk of their text shows it: conditions: each text at most 2^48 bytes. -/
import Derived.Test.YtgdamapocomhkaaRows
import Derived.Test.YtgdamapocomhkaaEdP
import Derived.WalkKit
import Derived.WalkSpells
import Derived.WalkLawsBesides
import Derived.Deep.QuietTactic
import Derived.BigQuiet
import Derived.Lib.Hide
import Derived.WalkSmall
import Derived.IntWalk
namespace Go.Proofs.Ytgdamapocomhkaa
open Go.RowKit
set_option linter.unusedVariables false

theorem ret_int {k : IntKind} {a b : Int} (h : a = b) : Ending.returned (.int k a) = .returned (.int k b) := by rw [h]
theorem bcell {W w1 : World} (hb : Below W.heap.size W w1) : (∀ b o, b < W.heap.size → w1.cell? ⟨b, o, none⟩ = W.cell? ⟨b, o, none⟩) ∧ (∀ b o, b < W.heap.size → w1.frozen? ⟨b, o, none⟩ = W.frozen? ⟨b, o, none⟩) :=
  ⟨fun b o h => hb.cell (p := ⟨b, o, none⟩) h, fun b o h => hb.frozen (p := ⟨b, o, none⟩) h⟩
/-- A new block, then a call that leaves what lay below as it was. -/
theorem below_new {w w1 : World} (o : Obj) (h : Below (w.alloc o).heap.size (w.alloc o) w1) : Below w.heap.size w w1 :=
  ((Below.refl _ _).alloc (Nat.le_refl _) o).trans (h.mono (by simp))

set_option maxHeartbeats 400000 in
theorem hp_any (s t : ByteArray) (w : World) (hs : s.size ≤ 281474976710656) (ht : t.size ≤ 281474976710656) :
    Calls Try.prog 32 #[.string s, .string t] w fun e w' => e = .returned (.bool (hpB s t)) ∧ w' = w := by
  by_cases h : t.size ≤ s.size
  · have hd : decide (t.size ≤ s.size) = true := by simpa using h
    have hi : (t.size : Int) ≤ s.size := by omega
    go_enter Try.func32, Try.ntmps32
    go_wp2
    go_ret
    refine ⟨?_, rfl⟩
    show Ending.returned (Value.bool ((s.extract 0 t.size).toList == t.toList)) = _
    rw [bs_eqb]
    unfold hpB
    simp [h]
  · have hd : decide (t.size ≤ s.size) = false := by simpa using h
    have hi : ¬ (t.size : Int) ≤ s.size := by omega
    go_enter Try.func32, Try.ntmps32
    go_wp2
    go_ret
    refine ⟨?_, rfl⟩
    show Ending.returned (Value.bool false) = _
    unfold hpB
    simp [h]

def roomN (z del ins : Int) : Int := if 1048576 < z - del + ins then 2 else 0
set_option maxHeartbeats 400000 in
theorem room_any (s : ByteArray) (a b : Int) (w : World) (hs : s.size ≤ 281474976710656) (ha : 0 ≤ a) (ha' : a ≤ 281474976710656) (hb : 0 ≤ b) (hb' : b ≤ 281474976710656) :
    Calls Try.prog 33 #[.string s, .int .i64 a, .int .i64 b] w fun e w' => e = .returned (.int .i64 (roomN s.size a b)) ∧ w' = w := by
  go_enter Try.func33, Try.ntmps33
  go_wp2
  · have h : 1048576 < (s.size : Int) - a + b := by assumption
    go_ret
    exact ⟨ret_int (by unfold roomN; rw [if_pos h]), rfl⟩
  · have h : (s.size : Int) - a + b ≤ 1048576 := by assumption
    go_ret
    exact ⟨ret_int (by unfold roomN; rw [if_neg (by omega)]), rfl⟩

section wrong
variable (s d n : ByteArray) (w : World)
set_option maxHeartbeats 400000 in
theorem wrong_1 (a : Int) (h : a < 0) :
    Calls Try.prog 16 #[.string s, .agg #[.int .i64 a, .string d, .string n]] w fun e w' => e = .returned (.int .i64 1) ∧ Below w.heap.size w w' := by
  have hd : decide (a < 0) = true := by simpa using h
  go_enter Try.func16, Try.ntmps16
  go_wp2
  go_quiet (fail)
  go_wp2
  go_ret
  exact ⟨rfl, below_drewN ((Below.refl _ _).alloc (Nat.le_refl _) _) _⟩
set_option maxHeartbeats 400000 in
theorem wrong_2 (a : Int) (h : 0 ≤ a) (h2 : (s.size : Int) < a) :
    Calls Try.prog 16 #[.string s, .agg #[.int .i64 a, .string d, .string n]] w fun e w' => e = .returned (.int .i64 1) ∧ Below w.heap.size w w' := by
  have hd : decide (a < 0) = false := by simpa using h
  have hd2 : decide ((s.size : Int) < a) = true := by simpa using h2
  go_enter Try.func16, Try.ntmps16
  go_wp2
  go_quiet (fail)
  go_wp2
  go_ret
  exact ⟨rfl, below_drewN ((Below.refl _ _).alloc (Nat.le_refl _) _) _⟩
set_option maxHeartbeats 400000 in
theorem wrong_3 (a : Nat) (h2 : (a : Int) ≤ s.size) (hs : s.size ≤ 281474976710656) (h3 : (s.size : Int) - a < d.size) :
    Calls Try.prog 16 #[.string s, .agg #[.int .i64 a, .string d, .string n]] w fun e w' => e = .returned (.int .i64 1) ∧ Below w.heap.size w w' := by
  have hd : decide ((a : Int) < 0) = false := by simp
  have hd2 : decide (s.size < a) = false := by simp; omega
  have hd3 : decide ((s.size : Int) - a < d.size) = true := by simpa using h3
  have hw1 : IntKind.i64.wrap ((s.size : Int) - a) = (s.size : Int) - a := IntWalk.i64_in _ (by omega)
  go_enter Try.func16, Try.ntmps16
  go_wp2
  go_quiet (fail)
  go_wp2
  go_ret
  exact ⟨rfl, below_drewN ((Below.refl _ _).alloc (Nat.le_refl _) _) _⟩
set_option maxHeartbeats 400000 in
theorem wrong_4 (a : Nat) (h3 : (a : Int) + d.size ≤ s.size) (hs : s.size ≤ 281474976710656) (hn : n.size ≤ 281474976710656) :
    Calls Try.prog 16 #[.string s, .agg #[.int .i64 a, .string d, .string n]] w fun e w' => e = .returned (.int .i64 (wrongN s a d n)) ∧ Below w.heap.size w w' := by
  have hd : decide ((a : Int) < 0) = false := by simp
  have hd2 : decide (s.size < a) = false := by simp; omega
  have hd3 : decide ((s.size : Int) - a < d.size) = false := by simp; omega
  have hw1 : IntKind.i64.wrap ((s.size : Int) - a) = (s.size : Int) - a := IntWalk.i64_in _ (by omega)
  have hw2 : IntKind.i64.wrap ((a : Int) + d.size) = ((a + d.size : Nat) : Int) := by rw [IntWalk.i64_in _ (by omega)]; simp
  by_cases hf : s.extract a (a + d.size) = d
  · have ht : ((s.extract a (a + d.size)).toList == d.toList) = true := by rw [bs_eqb]; simpa using hf
    have hfit : fits s ((a : Int)).toNat d := ⟨by simp; omega, by simpa using hf⟩
    have hl : (a : Int) ≤ s.size := by omega
    have H2 : Hid (s.extract a (a + d.size) = d) := Lib.hid hf
    clear hf
    go_enter Try.func16, Try.ntmps16
    go_wp2
    go_quiet (fail)
    go_wp2
    · have hlt : 1048576 < (s.size : Int) - d.size + n.size := by assumption
      go_ret
      exact ⟨ret_int (wrongN_2 (by omega) hl hfit hlt).symm, below_drewN ((Below.refl _ _).alloc (Nat.le_refl _) _) _⟩
    · have hle : (s.size : Int) - d.size + n.size ≤ 1048576 := by assumption
      go_ret
      exact ⟨ret_int (wrongN_mk0 (by omega) hl hfit hle).symm, below_drewN ((Below.refl _ _).alloc (Nat.le_refl _) _) _⟩
  · have ht : ((s.extract a (a + d.size)).toList == d.toList) = false := by rw [bs_eqb]; simpa using hf
    have hfit : ¬ fits s ((a : Int)).toNat d := fun h => hf (by simpa using h.2)
    go_enter Try.func16, Try.ntmps16
    go_wp2
    go_quiet (fail)
    go_wp2
    go_ret
    exact ⟨ret_int (by unfold wrongN; rw [if_pos (.inr (.inr hfit))]), below_drewN ((Below.refl _ _).alloc (Nat.le_refl _) _) _⟩
theorem wrong_any (a : Int) (hs : s.size ≤ 281474976710656) (hn : n.size ≤ 281474976710656) :
    Calls Try.prog 16 #[.string s, .agg #[.int .i64 a, .string d, .string n]] w fun e w' => e = .returned (.int .i64 (wrongN s a d n)) ∧ Below w.heap.size w w' := by
  by_cases h : a < 0
  · refine (wrong_1 s d n w a h).mono fun e w' ⟨he, hw⟩ => ⟨?_, hw⟩
    rw [he]; exact ret_int (by unfold wrongN; rw [if_pos (.inl h)])
  · by_cases h2 : (s.size : Int) < a
    · refine (wrong_2 s d n w a (by omega) h2).mono fun e w' ⟨he, hw⟩ => ⟨?_, hw⟩
      rw [he]; exact ret_int (by unfold wrongN; rw [if_pos (.inr (.inl h2))])
    · obtain ⟨k, rfl⟩ := Int.eq_ofNat_of_zero_le (by omega : 0 ≤ a)
      by_cases h3 : (s.size : Int) - k < d.size
      · refine (wrong_3 s d n w k (by omega) hs h3).mono fun e w' ⟨he, hw⟩ => ⟨?_, hw⟩
        rw [he]; exact ret_int (by unfold wrongN; rw [if_pos (.inr (.inr fun hf => by have := hf.1; simp at this; omega))])
      · exact wrong_4 s d n w k (by omega) hs hn
theorem wrong_eq (a : Int) (k : Int) (hk : wrongN s a d n = k) (hs : s.size ≤ 281474976710656) (hn : n.size ≤ 281474976710656) :
    Calls Try.prog 16 #[.string s, .agg #[.int .i64 a, .string d, .string n]] w fun e w' => e = .returned (.int .i64 k) ∧ Below w.heap.size w w' := by
  rw [← hk]; exact wrong_any s d n w a hs hn
end wrong

section refdo
set_option maxHeartbeats 400000 in
theorem refdo_any (s d n : ByteArray) (a : Nat) (w : World) (h2 : (a : Int) + d.size ≤ s.size) (hs : s.size ≤ 281474976710656) (hn : n.size ≤ 281474976710656) :
    Calls Try.prog 17 #[.string s, .agg #[.int .i64 a, .string d, .string n]] w fun e w' => e = .returned (.string (doB s a d n)) ∧ Below w.heap.size w w' := by
  have e0 : ¬ (s.extract 0 a).size + n.size > 9223372036854775807 := by simp; omega
  have e1 : ¬ (s.extract 0 a ++ n).size + (s.extract (a + d.size) s.size).size > 9223372036854775807 := by simp; omega
  have hl : (a : Int) ≤ s.size := by omega
  go_enter Try.func17, Try.ntmps17
  go_wp2
  go_quiet (fail)
  go_wp2
  go_ret
  exact ⟨rfl, below_drewN ((Below.refl _ _).alloc (Nat.le_refl _) _) _⟩
end refdo

section fault
variable (s d n : ByteArray) (w : World)
set_option maxHeartbeats 400000 in
theorem fault_1 (a : Int) (h : a < 0) :
    Calls Try.prog 28 #[.string s, .agg #[.int .i64 a, .string d, .string n]] w fun e w' => e = .returned (.int .i64 1) ∧ Below w.heap.size w w' := by
  have hd : decide (a < 0) = true := by simpa using h
  go_enter Try.func28, Try.ntmps28
  go_wp2
  go_quiet (fail)
  go_wp2
  go_ret
  exact ⟨rfl, below_drewN ((Below.refl _ _).alloc (Nat.le_refl _) _) _⟩
set_option maxHeartbeats 400000 in
theorem fault_2 (a : Int) (h : 0 ≤ a) (h2 : (s.size : Int) < a) :
    Calls Try.prog 28 #[.string s, .agg #[.int .i64 a, .string d, .string n]] w fun e w' => e = .returned (.int .i64 1) ∧ Below w.heap.size w w' := by
  have hd : decide (a < 0) = false := by simpa using h
  have hd2 : decide ((s.size : Int) < a) = true := by simpa using h2
  go_enter Try.func28, Try.ntmps28
  go_wp2
  go_quiet (fail)
  go_wp2
  go_ret
  exact ⟨rfl, below_drewN ((Below.refl _ _).alloc (Nat.le_refl _) _) _⟩
set_option maxHeartbeats 400000 in
theorem fault_3 (a : Nat) (h2 : (a : Int) ≤ s.size) (hs : s.size ≤ 281474976710656) (hds : d.size ≤ 281474976710656) (hns : n.size ≤ 281474976710656) :
    Calls Try.prog 28 #[.string s, .agg #[.int .i64 a, .string d, .string n]] w fun e w' => e = .returned (.int .i64 (wrongN s a d n)) ∧ Below w.heap.size w w' := by
  have hd : decide ((a : Int) < 0) = false := by simp
  have hd2 : decide (s.size < a) = false := by simp; omega
  have hx : (s.extract a s.size).size ≤ 281474976710656 := by simp; omega
  have hH := fits_hp s d a (by omega)
  have hE : wrongN s a d n = if ¬ fits s a d then 1 else roomN s.size d.size n.size := by
    unfold wrongN roomN
    by_cases hf : fits s a d
    · rw [if_neg (show ¬ ((a : Int) < 0 ∨ (s.size : Int) < (a : Int) ∨ ¬ fits s ((a : Int)).toNat d) from by
        rintro (h | h | h)
        · omega
        · omega
        · exact h hf), if_neg (Classical.not_not.2 hf)]
    · rw [if_pos (.inr (.inr (by simpa using hf))), if_pos hf]
  by_cases hf : fits s a d
  · have ht : hpB (s.extract a s.size) d = true := by rw [hH]; simpa using hf
    rw [hE, if_neg (by simp [hf])]
    clear hE hH
    go_enter Try.func28, Try.ntmps28
    go_wp2
    go_quiet ((go_at_call 32; exact Calls.quiet_of_same (hp_any _ _ _ hx hds)))
    go_wp2_with (go_at_call 33; refine (room_any _ _ _ _ hs (by omega) (by omega) (by omega) (by omega)).mono ?_; rintro e w' ⟨rfl, rfl⟩)
    go_ret
    exact ⟨rfl, below_drewN ((Below.refl _ _).alloc (Nat.le_refl _) _) _⟩
  · have ht : hpB (s.extract a s.size) d = false := by rw [hH]; simpa using hf
    rw [hE, if_pos hf]
    clear hE hH
    go_enter Try.func28, Try.ntmps28
    go_wp2
    go_quiet ((go_at_call 32; exact Calls.quiet_of_same (hp_any _ _ _ hx hds)))
    go_wp2
    go_ret
    exact ⟨rfl, below_drewN ((Below.refl _ _).alloc (Nat.le_refl _) _) _⟩
theorem fault_any (a : Int) (hs : s.size ≤ 281474976710656) (hds : d.size ≤ 281474976710656) (hns : n.size ≤ 281474976710656) :
    Calls Try.prog 28 #[.string s, .agg #[.int .i64 a, .string d, .string n]] w fun e w' => e = .returned (.int .i64 (wrongN s a d n)) ∧ Below w.heap.size w w' := by
  by_cases h : a < 0
  · refine (fault_1 s d n w a h).mono fun e w' ⟨he, hw⟩ => ⟨?_, hw⟩
    rw [he]; exact ret_int (by unfold wrongN; rw [if_pos (.inl h)])
  · by_cases h2 : (s.size : Int) < a
    · refine (fault_2 s d n w a (by omega) h2).mono fun e w' ⟨he, hw⟩ => ⟨?_, hw⟩
      rw [he]; exact ret_int (by unfold wrongN; rw [if_pos (.inr (.inl h2))])
    · obtain ⟨k, rfl⟩ := Int.eq_ofNat_of_zero_le (by omega : 0 ≤ a)
      exact fault_3 s d n w k (by omega) hs hds hns
theorem fault_eq (a : Int) (k : Int) (hk : wrongN s a d n = k) (hs : s.size ≤ 281474976710656) (hds : d.size ≤ 281474976710656) (hns : n.size ≤ 281474976710656) :
    Calls Try.prog 28 #[.string s, .agg #[.int .i64 a, .string d, .string n]] w fun e w' => e = .returned (.int .i64 k) ∧ Below w.heap.size w w' := by
  rw [← hk]; exact fault_any s d n w a hs hds hns
end fault

end Go.Proofs.Ytgdamapocomhkaa

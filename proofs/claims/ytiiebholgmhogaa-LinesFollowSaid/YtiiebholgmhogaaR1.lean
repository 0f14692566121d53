/- What the document's own Wrong and Do of layer 1 (edit) return, call by call: conditions: each text at most 2^48 bytes. -/
import Derived.Test.YtiiebholgmhogaaEdP
import Derived.Test.YtiiebholgmhogaaMem
import Derived.WalkSpells
import Derived.WalkLawsBesides
namespace Go.Proofs.Ytiiebholgmhogaa
open Go.RowKit
set_option linter.unusedVariables false

theorem ret_int {k : IntKind} {a b : Int} (h : a = b) : Ending.returned (.int k a) = .returned (.int k b) := by rw [h]
section wrong
variable (s d n : ByteArray) (w : World)
set_option maxHeartbeats 400000 in
theorem wrong_1 (a : Int) (h : a < 0) :
    Calls Try.prog 16 #[.string s, .agg #[.int .i64 a, .string d, .string n]] w fun e w' => e = .returned (.int .i64 1) ∧ Below w.heap.size w w' := by
  have hd : decide (a < 0) = true := by simpa using h
  go_enter Try.func16, Try.ntmps16
  go_wp2
  go_quiet (fail)
  go_wp2
  go_ret
  exact ⟨rfl, below_drewN ((Below.refl _ _).alloc (Nat.le_refl _) _) _⟩
set_option maxHeartbeats 400000 in
theorem wrong_2 (a : Int) (h : 0 ≤ a) (h2 : (s.size : Int) < a) :
    Calls Try.prog 16 #[.string s, .agg #[.int .i64 a, .string d, .string n]] w fun e w' => e = .returned (.int .i64 1) ∧ Below w.heap.size w w' := by
  have hd : decide (a < 0) = false := by simpa using h
  have hd2 : decide ((s.size : Int) < a) = true := by simpa using h2
  go_enter Try.func16, Try.ntmps16
  go_wp2
  go_quiet (fail)
  go_wp2
  go_ret
  exact ⟨rfl, below_drewN ((Below.refl _ _).alloc (Nat.le_refl _) _) _⟩
set_option maxHeartbeats 400000 in
theorem wrong_3 (a : Nat) (h2 : (a : Int) ≤ s.size) (hs : s.size ≤ 281474976710656) (h3 : (s.size : Int) - a < d.size) :
    Calls Try.prog 16 #[.string s, .agg #[.int .i64 a, .string d, .string n]] w fun e w' => e = .returned (.int .i64 1) ∧ Below w.heap.size w w' := by
  have hd : decide ((a : Int) < 0) = false := by simp
  have hd2 : decide (s.size < a) = false := by simp; omega
  have hd3 : decide ((s.size : Int) - a < d.size) = true := by simpa using h3
  have hw1 : IntKind.i64.wrap ((s.size : Int) - a) = (s.size : Int) - a := IntWalk.i64_in _ (by omega)
  go_enter Try.func16, Try.ntmps16
  go_wp2
  go_quiet (fail)
  go_wp2
  go_ret
  exact ⟨rfl, below_drewN ((Below.refl _ _).alloc (Nat.le_refl _) _) _⟩
set_option maxHeartbeats 400000 in
theorem wrong_4 (a : Nat) (h3 : (a : Int) + d.size ≤ s.size) (hs : s.size ≤ 281474976710656) (hn : n.size ≤ 281474976710656) :
    Calls Try.prog 16 #[.string s, .agg #[.int .i64 a, .string d, .string n]] w fun e w' => e = .returned (.int .i64 (wrongN s a d n)) ∧ Below w.heap.size w w' := by
  have hd : decide ((a : Int) < 0) = false := by simp
  have hd2 : decide (s.size < a) = false := by simp; omega
  have hd3 : decide ((s.size : Int) - a < d.size) = false := by simp; omega
  have hw1 : IntKind.i64.wrap ((s.size : Int) - a) = (s.size : Int) - a := IntWalk.i64_in _ (by omega)
  have hw2 : IntKind.i64.wrap ((a : Int) + d.size) = ((a + d.size : Nat) : Int) := by rw [IntWalk.i64_in _ (by omega)]; simp
  by_cases hf : s.extract a (a + d.size) = d
  · have ht : ((s.extract a (a + d.size)).toList == d.toList) = true := by rw [bs_eqb]; simpa using hf
    have hfit : fits s ((a : Int)).toNat d := ⟨by simp; omega, by simpa using hf⟩
    have hl : (a : Int) ≤ s.size := by omega
    have H2 : Hid (s.extract a (a + d.size) = d) := Lib.hid hf
    clear hf
    go_enter Try.func16, Try.ntmps16
    go_wp2
    go_quiet (fail)
    go_wp2
    · have hlt : 1048576 < (s.size : Int) - d.size + n.size := by assumption
      go_ret
      exact ⟨ret_int (wrongN_2 (by omega) hl hfit hlt).symm, below_drewN ((Below.refl _ _).alloc (Nat.le_refl _) _) _⟩
    · have hle : (s.size : Int) - d.size + n.size ≤ 1048576 := by assumption
      go_ret
      exact ⟨ret_int (wrongN_mk0 (by omega) hl hfit hle).symm, below_drewN ((Below.refl _ _).alloc (Nat.le_refl _) _) _⟩
  · have ht : ((s.extract a (a + d.size)).toList == d.toList) = false := by rw [bs_eqb]; simpa using hf
    have hfit : ¬ fits s ((a : Int)).toNat d := fun h => hf (by simpa using h.2)
    go_enter Try.func16, Try.ntmps16
    go_wp2
    go_quiet (fail)
    go_wp2
    go_ret
    exact ⟨ret_int (by unfold wrongN; rw [if_pos (.inr (.inr hfit))]), below_drewN ((Below.refl _ _).alloc (Nat.le_refl _) _) _⟩
theorem wrong_any (a : Int) (hs : s.size ≤ 281474976710656) (hn : n.size ≤ 281474976710656) :
    Calls Try.prog 16 #[.string s, .agg #[.int .i64 a, .string d, .string n]] w fun e w' => e = .returned (.int .i64 (wrongN s a d n)) ∧ Below w.heap.size w w' := by
  by_cases h : a < 0
  · refine (wrong_1 s d n w a h).mono fun e w' ⟨he, hw⟩ => ⟨?_, hw⟩
    rw [he]; exact ret_int (by unfold wrongN; rw [if_pos (.inl h)])
  · by_cases h2 : (s.size : Int) < a
    · refine (wrong_2 s d n w a (by omega) h2).mono fun e w' ⟨he, hw⟩ => ⟨?_, hw⟩
      rw [he]; exact ret_int (by unfold wrongN; rw [if_pos (.inr (.inl h2))])
    · obtain ⟨k, rfl⟩ := Int.eq_ofNat_of_zero_le (by omega : 0 ≤ a)
      by_cases h3 : (s.size : Int) - k < d.size
      · refine (wrong_3 s d n w k (by omega) hs h3).mono fun e w' ⟨he, hw⟩ => ⟨?_, hw⟩
        rw [he]; exact ret_int (by unfold wrongN; rw [if_pos (.inr (.inr fun hf => by have := hf.1; simp at this; omega))])
      · exact wrong_4 s d n w k (by omega) hs hn
theorem wrong_eq (a : Int) (k : Int) (hk : wrongN s a d n = k) (hs : s.size ≤ 281474976710656) (hn : n.size ≤ 281474976710656) :
    Calls Try.prog 16 #[.string s, .agg #[.int .i64 a, .string d, .string n]] w fun e w' => e = .returned (.int .i64 k) ∧ Below w.heap.size w w' := by
  rw [← hk]; exact wrong_any s d n w a hs hn
end wrong

section refdo
set_option maxHeartbeats 400000 in
theorem refdo_any (s d n : ByteArray) (a : Nat) (w : World) (h2 : (a : Int) + d.size ≤ s.size) (hs : s.size ≤ 281474976710656) (hn : n.size ≤ 281474976710656) :
    Calls Try.prog 18 #[.string s, .agg #[.int .i64 a, .string d, .string n]] w fun e w' => e = .returned (.string (doB s a d n)) ∧ Below w.heap.size w w' := by
  have e0 : ¬ (s.extract 0 a).size + n.size > 9223372036854775807 := by simp; omega
  have e1 : ¬ (s.extract 0 a ++ n).size + (s.extract (a + d.size) s.size).size > 9223372036854775807 := by simp; omega
  have hl : (a : Int) ≤ s.size := by omega
  go_enter Try.func18, Try.ntmps18
  go_wp2
  go_quiet (fail)
  go_wp2
  go_ret
  exact ⟨rfl, below_drewN ((Below.refl _ _).alloc (Nat.le_refl _) _) _⟩
end refdo

end Go.Proofs.Ytiiebholgmhogaa

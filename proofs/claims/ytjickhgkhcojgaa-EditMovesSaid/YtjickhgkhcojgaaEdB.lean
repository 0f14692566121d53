/- What Goes, Do and Inverse of layer 1 (edit) return, call by call: conditions: each text at most 2^48 bytes. -/
import Derived.Test.YtjickhgkhcojgaaEdA
import Derived.Test.YtjickhgkhcojgaaShelf
namespace Go.Proofs.Ytjickhgkhcojgaa
open Go.RowKit
set_option linter.unusedVariables false

section
variable (s d n : ByteArray) (w : World)
set_option maxHeartbeats 400000 in
theorem goes_any (a : Int) (hs : s.size ≤ 281474976710656) (hds : d.size ≤ 281474976710656) (hns : n.size ≤ 281474976710656) :
    Calls Try.prog 12 #[.string s, .agg #[.int .i64 a, .string d, .string n]] w fun e w' => e = .returned (.bool (decide (wrongN s a d n = 0))) ∧ Below w.heap.size w w' := by
  rcases wrongN_cases s a d n with h | h | h
  all_goals
    have H := Lib.hid h
    rw [h]
    clear h
    go_enter Try.func12, Try.ntmps12
    go_wp2_with (go_at_call 22; refine (fault_eq s d n _ a _ H.out hs hds hns).mono ?_; rintro e w1 ⟨rfl, hb⟩)
    go_ret
    exact ⟨rfl, below_new _ hb⟩

set_option maxHeartbeats 400000 in
theorem do_bad (a : Int) (k : Int) (h : wrongN s a d n = k) (h0 : k ≠ 0) (hs : s.size ≤ 281474976710656) (hds : d.size ≤ 281474976710656) (hns : n.size ≤ 281474976710656) :
    Calls Try.prog 10 #[.string s, .agg #[.int .i64 a, .string d, .string n]] w fun e w' => e = .returned (.tuple #[.string ⟨#[]⟩, .int .i64 k]) ∧ Below w.heap.size w w' := by
  have H := Lib.hid h
  clear h
  have h0' : (k == 0) = false := by simpa using h0
  go_enter Try.func10, Try.ntmps10
  go_wp2_with (go_at_call 22; refine (fault_eq s d n _ a _ H.out hs hds hns).mono ?_; rintro e w1 ⟨rfl, hb⟩)
  go_ret2
  exact ⟨rfl, below_new _ hb⟩

set_option maxHeartbeats 400000 in
theorem do_ok (a : Nat) (h : wrongN s a d n = 0) (hs : s.size ≤ 281474976710656) (hds : d.size ≤ 281474976710656) (hns : n.size ≤ 281474976710656) :
    Calls Try.prog 10 #[.string s, .agg #[.int .i64 a, .string d, .string n]] w fun e w' => e = .returned (.tuple #[.string (doB s a d n), .int .i64 0]) ∧ Below w.heap.size w w' := by
  have hf := (wrongN_0 h).2.2.1.1
  simp only [Int.toNat_natCast] at hf
  have e0 : ¬ (s.extract 0 a).size + n.size > 9223372036854775807 := by simp; omega
  have e1 : ¬ (s.extract 0 a ++ n).size + (s.extract (a + d.size) s.size).size > 9223372036854775807 := by simp; omega
  have hl : (a : Int) ≤ s.size := by omega
  have h2 : (a : Int) + d.size ≤ s.size := by omega
  have H := Lib.hid h
  clear h hf
  go_enter Try.func10, Try.ntmps10
  go_wp2_with (go_at_call 22; refine (fault_eq s d n _ a _ H.out hs hds hns).mono ?_; rintro e w1 ⟨rfl, hb⟩; obtain ⟨hc, hfr⟩ := bcell hb)
  go_quiet (fail)
  go_wp2
  go_ret2
  exact ⟨rfl, below_drewN (below_new _ hb) _⟩

set_option maxHeartbeats 400000 in
theorem inverse_any (a : Int) :
    Calls Try.prog 13 #[.agg #[.int .i64 a, .string d, .string n]] w fun e w' => e = .returned (.agg #[.int .i64 a, .string n, .string d]) ∧ Below w.heap.size w w' := by
  go_enter Try.func13, Try.ntmps13
  go_wp2
  exact bodyPost_ret (v := .agg #[.int .i64 a, .string n, .string d]) (by simp [results, Try.results13, go_sem]) rfl ⟨rfl, (((Below.refl _ _).alloc (Nat.le_refl _) _).alloc (by simp) _)⟩
end

set_option maxHeartbeats 400000 in
theorem clone_any (s : ByteArray) (w : World) (hlim : s.size ≤ 281474976710656) :
    Calls Try.prog 28 #[.string s] w fun e w' => e = .returned (.string s) ∧ Below w.heap.size w w' := by
  go_enter Try.func28, Try.ntmps28
  go_wp2_with (go_at_call 30; refine (Try.stringslite_Clone s _ hlim).mono ?_; rintro e w1 ⟨rfl, hb⟩)
  go_ret
  exact ⟨rfl, hb⟩

set_option maxHeartbeats 400000 in
theorem cut_any (s : ByteArray) (i j : Nat) (w : World) (hs : s.size ≤ 281474976710656) (hij : (i : Int) ≤ j) (hj : (j : Int) ≤ s.size) :
    Calls Try.prog 24 #[.string s, .int .i64 i, .int .i64 j] w fun e w' => e = .returned (.string (s.extract i j)) ∧ Below w.heap.size w w' := by
  have hx : (s.extract i j).size ≤ 281474976710656 := by simp; omega
  go_enter Try.func24, Try.ntmps24
  go_wp2_with (go_at_call 28; refine (clone_any _ _ hx).mono ?_; rintro e w1 ⟨rfl, hb⟩)
  go_ret
  exact ⟨rfl, hb⟩
end Go.Proofs.Ytjickhgkhcojgaa

/- What Do and Inverse of layer 1 (edit) return, call by call: conditions: each text at most 2^48 bytes. -/
import Derived.Test.YtgdamapocomhkaaEdA
namespace Go.Proofs.Ytgdamapocomhkaa
open Go.RowKit
set_option linter.unusedVariables false

section
variable (s d n : ByteArray) (w : World)
set_option maxHeartbeats 400000 in
theorem do_bad (a : Int) (k : Int) (h : wrongN s a d n = k) (h0 : k ≠ 0) (hs : s.size ≤ 281474976710656) (hds : d.size ≤ 281474976710656) (hns : n.size ≤ 281474976710656) :
    Calls Try.prog 18 #[.string s, .agg #[.int .i64 a, .string d, .string n]] w fun e w' => e = .returned (.tuple #[.string ⟨#[]⟩, .int .i64 k]) ∧ Below w.heap.size w w' := by
  have H := Lib.hid h
  clear h
  have h0' : (k == 0) = false := by simpa using h0
  go_enter Try.func18, Try.ntmps18
  go_wp2_with (go_at_call 28; refine (fault_eq s d n _ a _ H.out hs hds hns).mono ?_; rintro e w1 ⟨rfl, hb⟩)
  go_ret2
  exact ⟨rfl, below_new _ hb⟩

set_option maxHeartbeats 400000 in
theorem do_ok (a : Nat) (h : wrongN s a d n = 0) (hs : s.size ≤ 281474976710656) (hds : d.size ≤ 281474976710656) (hns : n.size ≤ 281474976710656) :
    Calls Try.prog 18 #[.string s, .agg #[.int .i64 a, .string d, .string n]] w fun e w' => e = .returned (.tuple #[.string (doB s a d n), .int .i64 0]) ∧ Below w.heap.size w w' := by
  have hf := (wrongN_0 h).2.2.1.1
  simp only [Int.toNat_natCast] at hf
  have e0 : ¬ (s.extract 0 a).size + n.size > 9223372036854775807 := by simp; omega
  have e1 : ¬ (s.extract 0 a ++ n).size + (s.extract (a + d.size) s.size).size > 9223372036854775807 := by simp; omega
  have hl : (a : Int) ≤ s.size := by omega
  have h2 : (a : Int) + d.size ≤ s.size := by omega
  have H := Lib.hid h
  clear h hf
  go_enter Try.func18, Try.ntmps18
  go_wp2_with (go_at_call 28; refine (fault_eq s d n _ a _ H.out hs hds hns).mono ?_; rintro e w1 ⟨rfl, hb⟩; obtain ⟨hc, hfr⟩ := bcell hb)
  go_quiet (fail)
  go_wp2
  go_ret2
  exact ⟨rfl, below_drewN (below_new _ hb) _⟩

set_option maxHeartbeats 400000 in
theorem inverse_any (a : Int) :
    Calls Try.prog 19 #[.agg #[.int .i64 a, .string d, .string n]] w fun e w' => e = .returned (.agg #[.int .i64 a, .string n, .string d]) ∧ Below w.heap.size w w' := by
  go_enter Try.func19, Try.ntmps19
  go_wp2
  exact bodyPost_ret (v := .agg #[.int .i64 a, .string n, .string d]) (by simp [results, Try.results19, go_sem]) rfl ⟨rfl, (((Below.refl _ _).alloc (Nat.le_refl _) _).alloc (by simp) _)⟩
end

end Go.Proofs.Ytgdamapocomhkaa

/- What Make of layer 1 (edit) returns, and the walk of the statement EditMakes: it returns true, and what lay in memory before stays as it was. No condition on the statement. -/
import Derived.Test.YtjickhgkhcojgaaEdF
namespace Go.Proofs.Ytjickhgkhcojgaa
open Go.RowKit
set_option linter.unusedVariables false

section
variable (s n : ByteArray) (w : World)
set_option maxHeartbeats 400000 in
theorem make_bad (i j : Int) (h : i < 0 ∨ (0 ≤ i ∧ j < i) ∨ (0 ≤ i ∧ i ≤ j ∧ (s.size : Int) < j)) :
    Calls Try.prog 15 #[.string s, .int .i64 i, .int .i64 j, .string n] w fun e w' => e = .returned (.tuple #[.agg #[.int .i64 0, .string ⟨#[]⟩, .string ⟨#[]⟩], .int .i64 1]) ∧ Below w.heap.size w w' := by
  rcases h with h | ⟨h, h2⟩ | ⟨h, h2, h3⟩
  · go_enter Try.func15, Try.ntmps15
    go_wp2
    exact bodyPost_ret (v := .tuple #[.agg #[.int .i64 0, .string ⟨#[]⟩, .string ⟨#[]⟩], .int .i64 1]) (by simp [results, Try.results15, go_sem]) rfl ⟨rfl, (((Below.refl _ _).alloc (Nat.le_refl _) _))⟩
  · have h' : ¬ i < 0 := by omega
    go_enter Try.func15, Try.ntmps15
    go_wp2
    exact bodyPost_ret (v := .tuple #[.agg #[.int .i64 0, .string ⟨#[]⟩, .string ⟨#[]⟩], .int .i64 1]) (by simp [results, Try.results15, go_sem]) rfl ⟨rfl, (((Below.refl _ _).alloc (Nat.le_refl _) _))⟩
  · have h' : ¬ i < 0 := by omega
    have h2' : ¬ j < i := by omega
    go_enter Try.func15, Try.ntmps15
    go_wp2
    exact bodyPost_ret (v := .tuple #[.agg #[.int .i64 0, .string ⟨#[]⟩, .string ⟨#[]⟩], .int .i64 1]) (by simp [results, Try.results15, go_sem]) rfl ⟨rfl, (((Below.refl _ _).alloc (Nat.le_refl _) _))⟩

set_option maxHeartbeats 1000000 in
theorem make_ok (i j : Nat) (h : (i : Int) ≤ j) (h2 : (j : Int) ≤ s.size) (hs : s.size ≤ 281474976710656) (hn : n.size ≤ 281474976710656) (hl : (s.size : Int) - (j - i) + n.size ≤ 1048576) :
    Calls Try.prog 15 #[.string s, .int .i64 i, .int .i64 j, .string n] w fun e w' => e = .returned (.tuple #[.agg #[.int .i64 i, .string (s.extract i j), .string n], .int .i64 0]) ∧ Below w.heap.size w w' := by
  have hr : roomN s.size ((j : Int) - i) n.size = 0 := by unfold roomN; rw [if_neg (by omega)]
  have HR := Lib.hid hr
  clear hr
  have g1 : ¬ (j : Int) < i := by omega
  have g2 : ¬ (s.size : Int) < j := by omega
  go_enter Try.func15, Try.ntmps15
  go_wp2_with fail
  refine (room_any _ _ _ _ hs (by omega) (by omega) (by omega) (by omega)).mono ?_
  rw [HR.out]
  rintro e w1 ⟨rfl, rfl⟩
  go_wp2_with fail
  refine (cut_any s i j _ hs h h2).mono ?_
  rintro e w2 ⟨rfl, hb2⟩
  obtain ⟨hc1, hf1⟩ := bcell hb2
  have hz1 : w.heap.size < w2.heap.size := by have := hb2.size; simp at this; omega
  have hB := below_new _ hb2
  clear hb2
  go_wp2
  refine bodyPost_ret (v := .tuple #[.agg #[.int .i64 i, .string (s.extract i j), .string n], .int .i64 0]) (by simp [results, Try.results15, go_sem, *]) rfl ?_
  exact ⟨rfl, ((hB.setCell (Nat.le_refl _) _).setCell (Nat.le_refl _) _).setCell (Nat.le_refl _) _⟩

set_option maxHeartbeats 1000000 in
theorem makes_large (i j : Int) (h : 300 < s.size ∨ 300 < n.size) :
    Calls Try.prog 4 #[.string s, .int .i64 i, .int .i64 j, .string n] w fun e w' => e = .returned (.bool true) ∧ Below w.heap.size w w' := by
  go_enter Try.func4, Try.ntmps4
  go_wp2_with fail
  refine (awake_any _).mono ?_
  rintro e w1 ⟨rfl, hb1⟩
  by_cases h1 : (300 : Int) < s.size
  · go_wp2
    go_ret
    exact ⟨rfl, hb1⟩
  · have h3 : (300 : Int) < n.size := by omega
    go_wp2
    go_ret
    exact ⟨rfl, hb1⟩

set_option maxHeartbeats 1000000 in
theorem makes_bad (i j : Int) (hs : s.size ≤ 300) (hn : n.size ≤ 300) (h : i < 0 ∨ (0 ≤ i ∧ j < i) ∨ (0 ≤ i ∧ i ≤ j ∧ (s.size : Int) < j)) :
    Calls Try.prog 4 #[.string s, .int .i64 i, .int .i64 j, .string n] w fun e w' => e = .returned (.bool true) ∧ Below w.heap.size w w' := by
  have H := Lib.hid h
  have i1 : ¬ (300 : Int) < s.size := by omega
  have i3 : ¬ (300 : Int) < n.size := by omega
  rcases h with h | ⟨h, h2⟩ | ⟨h, h2, h3⟩
  · go_enter Try.func4, Try.ntmps4
    go_wp2_with fail
    refine (awake_any _).mono ?_
    rintro e w1 ⟨rfl, hb1⟩
    go_wp2_with fail
    refine (make_bad s n _ i j H.out).mono ?_
    rintro e w2 ⟨rfl, hb2⟩
    have hB := hb1.trans (hb2.mono hb1.size)
    have hz := hB.size
    clear hb1 hb2
    go_wp2
    go_ret
    exact ⟨rfl, hB.alloc hz _⟩
  · have h' : ¬ i < 0 := by omega
    go_enter Try.func4, Try.ntmps4
    go_wp2_with fail
    refine (awake_any _).mono ?_
    rintro e w1 ⟨rfl, hb1⟩
    go_wp2_with fail
    refine (make_bad s n _ i j H.out).mono ?_
    rintro e w2 ⟨rfl, hb2⟩
    have hB := hb1.trans (hb2.mono hb1.size)
    have hz := hB.size
    clear hb1 hb2
    go_wp2
    go_ret
    exact ⟨rfl, hB.alloc hz _⟩
  · have h' : ¬ i < 0 := by omega
    have h2' : ¬ j < i := by omega
    go_enter Try.func4, Try.ntmps4
    go_wp2_with fail
    refine (awake_any _).mono ?_
    rintro e w1 ⟨rfl, hb1⟩
    go_wp2_with fail
    refine (make_bad s n _ i j H.out).mono ?_
    rintro e w2 ⟨rfl, hb2⟩
    have hB := hb1.trans (hb2.mono hb1.size)
    have hz := hB.size
    clear hb1 hb2
    go_wp2
    go_ret
    exact ⟨rfl, hB.alloc hz _⟩

set_option maxHeartbeats 1000000 in
theorem makes_ok (i j : Nat) (hs : s.size ≤ 300) (hn : n.size ≤ 300) (h : (i : Int) ≤ j) (h2 : (j : Int) ≤ s.size) :
    Calls Try.prog 4 #[.string s, .int .i64 i, .int .i64 j, .string n] w fun e w' => e = .returned (.bool true) ∧ Below w.heap.size w w' := by
  have i1 : ¬ (300 : Int) < s.size := by omega
  have i3 : ¬ (300 : Int) < n.size := by omega
  have g1 : ¬ (j : Int) < i := by omega
  have g2 : ¬ (s.size : Int) < j := by omega
  go_enter Try.func4, Try.ntmps4
  go_wp2_with fail
  refine (awake_any _).mono ?_
  rintro e w1 ⟨rfl, hb1⟩
  go_wp2_with fail
  refine (make_ok s n _ i j h h2 (by omega) (by omega) (by omega)).mono ?_
  rintro e w2 ⟨rfl, hb2⟩
  have hB := hb1.trans (hb2.mono hb1.size)
  have hz := hB.size
  clear hb1 hb2
  go_wp2
  go_quiet (fail)
  go_wp2
  go_ret
  exact ⟨rfl, below_drewN (hB.alloc hz _) _⟩

theorem makes_any (i j : Int) :
    Calls Try.prog 4 #[.string s, .int .i64 i, .int .i64 j, .string n] w fun e w' => e = .returned (.bool true) ∧ Below w.heap.size w w' := by
  by_cases h : 300 < s.size ∨ 300 < n.size
  · exact makes_large s n w i j h
  · by_cases h1 : i < 0 ∨ (0 ≤ i ∧ j < i) ∨ (0 ≤ i ∧ i ≤ j ∧ (s.size : Int) < j)
    · exact makes_bad s n w i j (by omega) (by omega) h1
    · obtain ⟨a, rfl⟩ := Int.eq_ofNat_of_zero_le (by omega : 0 ≤ i)
      obtain ⟨b, rfl⟩ := Int.eq_ofNat_of_zero_le (by omega : 0 ≤ j)
      exact makes_ok s n w a b (by omega) (by omega) (by omega) (by omega)
end
end Go.Proofs.Ytjickhgkhcojgaa

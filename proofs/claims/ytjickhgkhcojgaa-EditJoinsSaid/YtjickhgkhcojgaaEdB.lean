/- What Goes, Do and Inverse of layer 1 (edit) return, call by call: conditions: each text at most 2^48 bytes. -/
import Derived.Test.YtjickhgkhcojgaaEdA
import Derived.Lib.Strings
import Derived.Lib.Walk
import Derived.Lib.BufferWrite
import Derived.Lib.UnsafeStr
import Derived.Laws.MakeOwn
import Derived.KernelRfl
namespace Go.Proofs.Ytjickhgkhcojgaa
open Go.RowKit
set_option linter.unusedVariables false

section
variable (s d n : ByteArray) (w : World)
set_option maxHeartbeats 400000 in
theorem goes_any (a : Int) (hs : s.size ≤ 281474976710656) (hds : d.size ≤ 281474976710656) (hns : n.size ≤ 281474976710656) :
    Calls Try.prog 12 #[.string s, .agg #[.int .i64 a, .string d, .string n]] w fun e w' => e = .returned (.bool (decide (wrongN s a d n = 0))) ∧ Below w.heap.size w w' := by
  rcases wrongN_cases s a d n with h | h | h
  all_goals
    have H := Lib.hid h
    rw [h]
    clear h
    go_enter Try.func12, Try.ntmps12
    go_wp2_with (go_at_call 22; refine (fault_eq s d n _ a _ H.out hs hds hns).mono ?_; rintro e w1 ⟨rfl, hb⟩)
    go_ret
    exact ⟨rfl, below_new _ hb⟩

set_option maxHeartbeats 400000 in
theorem do_bad (a : Int) (k : Int) (h : wrongN s a d n = k) (h0 : k ≠ 0) (hs : s.size ≤ 281474976710656) (hds : d.size ≤ 281474976710656) (hns : n.size ≤ 281474976710656) :
    Calls Try.prog 10 #[.string s, .agg #[.int .i64 a, .string d, .string n]] w fun e w' => e = .returned (.tuple #[.string ⟨#[]⟩, .int .i64 k]) ∧ Below w.heap.size w w' := by
  have H := Lib.hid h
  clear h
  have h0' : (k == 0) = false := by simpa using h0
  go_enter Try.func10, Try.ntmps10
  go_wp2_with (go_at_call 22; refine (fault_eq s d n _ a _ H.out hs hds hns).mono ?_; rintro e w1 ⟨rfl, hb⟩)
  go_ret2
  exact ⟨rfl, below_new _ hb⟩

set_option maxHeartbeats 400000 in
theorem do_ok (a : Nat) (h : wrongN s a d n = 0) (hs : s.size ≤ 281474976710656) (hds : d.size ≤ 281474976710656) (hns : n.size ≤ 281474976710656) :
    Calls Try.prog 10 #[.string s, .agg #[.int .i64 a, .string d, .string n]] w fun e w' => e = .returned (.tuple #[.string (doB s a d n), .int .i64 0]) ∧ Below w.heap.size w w' := by
  have hf := (wrongN_0 h).2.2.1.1
  simp only [Int.toNat_natCast] at hf
  have e0 : ¬ (s.extract 0 a).size + n.size > 9223372036854775807 := by simp; omega
  have e1 : ¬ (s.extract 0 a ++ n).size + (s.extract (a + d.size) s.size).size > 9223372036854775807 := by simp; omega
  have hl : (a : Int) ≤ s.size := by omega
  have h2 : (a : Int) + d.size ≤ s.size := by omega
  have H := Lib.hid h
  clear h hf
  go_enter Try.func10, Try.ntmps10
  go_wp2_with (go_at_call 22; refine (fault_eq s d n _ a _ H.out hs hds hns).mono ?_; rintro e w1 ⟨rfl, hb⟩; obtain ⟨hc, hfr⟩ := bcell hb)
  go_quiet (fail)
  go_wp2
  go_ret2
  exact ⟨rfl, below_drewN (below_new _ hb) _⟩

set_option maxHeartbeats 400000 in
theorem inverse_any (a : Int) :
    Calls Try.prog 13 #[.agg #[.int .i64 a, .string d, .string n]] w fun e w' => e = .returned (.agg #[.int .i64 a, .string n, .string d]) ∧ Below w.heap.size w w' := by
  go_enter Try.func13, Try.ntmps13
  go_wp2
  exact bodyPost_ret (v := .agg #[.int .i64 a, .string n, .string d]) (by simp [results, Try.results13, go_sem]) rfl ⟨rfl, (((Below.refl _ _).alloc (Nat.le_refl _) _).alloc (by simp) _)⟩
end

theorem Try.infoU8 : (Try.prog.info? 5).map (fun i => (i.zero, i.size, i.bytes)) = some (some (.int .u8 0), 1, 1) := by kernel_rfl

set_option maxHeartbeats 1000000 in
set_option maxRecDepth 100000 in
/-- strings.Clone's inner call: the same bytes; a new row is laid where there are any. -/
theorem clone_inner (s : ByteArray) (w : World) (hlim : s.size ≤ 281474976710656) :
    Calls Try.prog 30 #[.string s] w fun e w' => e = .returned (.string s) ∧ Below w.heap.size w w' := by
  by_cases h0 : s.size = 0
  · have hs : s = ⟨#[]⟩ := by
      apply ByteArray.ext
      exact Array.eq_empty_of_size_eq_zero h0
    subst hs
    go_enter Try.func30, Try.ntmps30
    go_wp2
    go_ret
    exact ⟨rfl, Below.refl _ _⟩
  · obtain ⟨i0, hi, hz0, hz1, hz2⟩ := info_parts Try.infoU8
    have hinfo : (Try.prog.info? 5).map (·.size) = some 1 := by rw [hi]; simp [hz1]
    have hco : Try.prog.cellsOf 5 = 1 := by simp [Program.cellsOf, hi, hz1]
    obtain ⟨M, hM⟩ : ∃ M, M = madeCells (Value.int .u8 0).cells (((s.size : Nat) : Int).toNat * i0.size) := ⟨_, rfl⟩
    have hMs : M.size = s.size := by rw [hM, size_madeCells, hz1]; simp
    have hmk : ∀ W : World, (Instr.makeSlice 55 (.int .i64 (s.size : Int)) (.int .i64 (s.size : Int))).run Try.prog W = .ok (.slice (some ⟨W.heap.size, 0, none⟩) s.size s.size) (W.alloc (.cells M 5)) := fun W => by
      have h := run_make (P := Try.prog) W 55 5 i0 (.int .u8 0) Try.underlying55 hi hz0 .i64 .i64 (s.size : Int) (s.size : Int) (by omega) (by omega) (by rw [hz2]; omega) (by omega)
      rw [← hM] at h
      simpa using h
    clear hM
    have hcp := Lib.run_copy_row_string (P := Try.prog) (w.alloc (.cells M 5)) 55 9 3 5 w.heap.size 0 s.size s.size s M 5 Try.underlying55 hinfo (heap_alloc_new w _) (Nat.le_refl _) (by omega)
    obtain ⟨Y, hY⟩ : ∃ Y, Y = (M.toList.take 0 ++ Lib.byteCells s.data.toList ++ M.toList.drop (0 + s.size)).toArray := ⟨_, rfl⟩
    rw [← hY] at hcp
    have hYl : Y.toList = Lib.byteCells s.data.toList := by
      rw [hY, List.toList_toArray, List.take_zero, List.nil_append, List.drop_of_length_le (by rw [Array.length_toList]; omega), List.append_nil]
    have hYs : Y.size = s.size := by rw [← Array.length_toList, hYl, Lib.byteCells_length, ← Lib.size_eq]
    have hgY : ((w.alloc (.cells M 5)).setRow w.heap.size Y).heap[w.heap.size]? = some (.cells Y 5 (0, 0)) := setRow_heap _ _ M _ 5 (0, 0) (heap_alloc_new w _)
    have hne : s.data.toList ≠ [] := fun e => h0 (by rw [Lib.size_eq, e]; rfl)
    have hUS := Lib.run_unsafeString_row (P := Try.prog) ((w.alloc (.cells M 5)).setRow w.heap.size Y) 56 3 9 5 Try.underlying56 hco w.heap.size Y.size (by unfold World.shape?; rw [hgY]) s.data.toList hne (by rw [← Lib.size_eq]; omega) (by rw [← Lib.size_eq]; omega)
      (fun j x hx => Lib.cells_of_row hgY Y.size j _ (by rw [List.take_of_length_le (by rw [Array.length_toList]; exact Nat.le_refl _), hYl]; simp [Lib.byteCells, hx]))
    rw [← Lib.size_eq] at hUS
    clear hY
    go_enter Try.func30, Try.ntmps30
    go_wp2
    go_ret
    have hb1 : Below w.heap.size w (w.alloc (.cells M 5)) := (Below.refl _ w).alloc (Nat.le_refl _) _
    have hb2 : Below w.heap.size (w.alloc (.cells M 5)) ((w.alloc (.cells M 5)).setRow w.heap.size Y) := ⟨rfl, rfl, rfl, by simp, fun k hk => setRow_other _ _ _ _ (by omega)⟩
    exact ⟨rfl, Lib.below_freeze (hb1.trans hb2) (p := ⟨w.heap.size, 0, none⟩) (Nat.le_refl _) _⟩

set_option maxHeartbeats 400000 in
theorem clone_any (s : ByteArray) (w : World) (hlim : s.size ≤ 281474976710656) :
    Calls Try.prog 28 #[.string s] w fun e w' => e = .returned (.string s) ∧ Below w.heap.size w w' := by
  go_enter Try.func28, Try.ntmps28
  go_wp2_with (go_at_call 30; refine (clone_inner s _ hlim).mono ?_; rintro e w1 ⟨rfl, hb⟩)
  go_ret
  exact ⟨rfl, hb⟩

set_option maxHeartbeats 400000 in
theorem cut_any (s : ByteArray) (i j : Nat) (w : World) (hs : s.size ≤ 281474976710656) (hij : (i : Int) ≤ j) (hj : (j : Int) ≤ s.size) :
    Calls Try.prog 24 #[.string s, .int .i64 i, .int .i64 j] w fun e w' => e = .returned (.string (s.extract i j)) ∧ Below w.heap.size w w' := by
  have hx : (s.extract i j).size ≤ 281474976710656 := by simp; omega
  go_enter Try.func24, Try.ntmps24
  go_wp2_with (go_at_call 28; refine (clone_any _ _ hx).mono ?_; rintro e w1 ⟨rfl, hb⟩)
  go_ret
  exact ⟨rfl, hb⟩
end Go.Proofs.Ytjickhgkhcojgaa

/- What New, Undo and Redo of layer 2 (undo) return, and what they leave in memory: conditions: the journal at hand lies in memory as such, with at most a million steps. -/
import Derived.Test.YtgdamapocomhkaaUnM
namespace Go.Proofs.Ytgdamapocomhkaa
open Go.RowKit Go.Shelf
set_option linter.unusedVariables false

set_option maxHeartbeats 400000 in
theorem new_bad (n : Int) (w : World) (h : n < 1 ∨ 100000 < n) :
    Calls Try.prog 8 #[.int .i64 n] w fun e w' => e = .returned (.pointer none) ∧ w' = w := by
  by_cases h1 : n < 1
  · go_enter Try.func8, Try.ntmps8
    go_wp2
    go_ret
    exact ⟨rfl, rfl⟩
  · have h2 : 100000 < n := by omega
    go_enter Try.func8, Try.ntmps8
    go_wp2
    go_ret
    exact ⟨rfl, rfl⟩

set_option maxHeartbeats 400000 in
theorem new_good (n : Nat) (w : World) (h1 : 1 ≤ n) (h2 : n ≤ 100000) :
    Calls Try.prog 8 #[.int .i64 n] w fun e w' => e = .returned (.pointer (some ⟨w.heap.size, 0, none⟩)) ∧ Jn w' w.heap.size n (.slice none 0 0) [] 0 ∧ Below w.heap.size w w' := by
  have h1' : ¬ (n : Int) < 1 := by omega
  have h2' : ¬ (100000 : Int) < n := by omega
  go_enter Try.func8, Try.ntmps8
  go_wp2
  go_ret
  exact ⟨rfl, ⟨Blk.new _ _ _, Nat.le_refl _, .inl ⟨rfl, rfl⟩⟩, (Below.refl _ _).alloc (Nat.le_refl _) _⟩

section
variable (jb most : Nat) (sv : Value) (steps : List St) (w : World)

set_option maxHeartbeats 1000000 in
theorem undo_none (hJ : Jn w jb most sv steps 0) :
    Calls Try.prog 11 #[.pointer (some ⟨jb, 0, none⟩)] w fun e w' => e = .returned (.tuple #[St.zero.val, .bool false]) ∧ Below w.heap.size w w' := by
  have c2 : w.cell? ⟨jb, 2, none⟩ = some (.int .i64 0) := hJ.obj.cell 2
  have hl := hJ.obj.lt
  go_enter Try.func11, Try.ntmps11
  go_wp2
  exact bodyPost_ret (v := .tuple #[St.zero.val, .bool false]) (by simp [results, Try.results11, go_sem, St.val, St.zero, *]) rfl ⟨rfl, (Below.refl _ _).alloc (Nat.le_refl _) _⟩

set_option maxHeartbeats 1000000 in
theorem undo_some (done : Nat) (hJ : Jn w jb most sv steps (done + 1)) (hlen : steps.length ≤ 1000000) :
    Calls Try.prog 11 #[.pointer (some ⟨jb, 0, none⟩)] w fun e w' => e = .returned (.tuple #[(steps[done]?.getD St.zero).val, .bool true]) ∧ Jn w' jb most sv steps done ∧ Frm (· = jb) w w' := by
  have hle := hJ.le
  rcases hJ.row with ⟨_, h0⟩ | ⟨b, off, cap, cs, rfl, hlc, hbj, hB, hfit, hsteps⟩
  · rw [h0] at hle; simp at hle
  · have c0 : w.cell? ⟨jb, 0, none⟩ = some (.int .i64 most) := hJ.obj.cell 0
    have c1 : w.cell? ⟨jb, 1, none⟩ = some (.slice (some ⟨b, off, none⟩) steps.length cap) := hJ.obj.cell 1
    have c2 : w.cell? ⟨jb, 2, none⟩ = some (.int .i64 (done + 1 : Nat)) := hJ.obj.cell 2
    have f2 := hJ.obj.frozen 2
    have hl := hJ.obj.lt
    have hbl := hB.lt
    obtain ⟨s0, s1, s2, s3, s4⟩ := hsteps done (by omega)
    have n1 := World.new_ne w ⟨jb, 0, none⟩ c0
    have n2 := World.new_ne w ⟨b, _, none⟩ s0
    obtain ⟨x, hx⟩ : ∃ x, steps[done]?.getD St.zero = x := ⟨_, rfl⟩
    rw [hx] at s0 s1 s2 s3 s4 ⊢
    have o1 := hJ.obj.set 2 (.int .i64 (done : Int))
    have k1 : (w.setCell ⟨jb, 2, none⟩ (.int .i64 (done : Int))).cell? ⟨jb, 1, none⟩ = some (.slice (some ⟨b, off, none⟩) steps.length cap) := o1.cell 1
    have k2 : (w.setCell ⟨jb, 2, none⟩ (.int .i64 (done : Int))).cell? ⟨jb, 2, none⟩ = some (.int .i64 done) := o1.cell 2
    have kt : ∀ o, (w.setCell ⟨jb, 2, none⟩ (.int .i64 (done : Int))).cell? ⟨b, o, none⟩ = w.cell? ⟨b, o, none⟩ := fun o => World.cell?_of_block (Below.heap_setCell w _ _ b hbj)
    have q1 : IntKind.i64.wrap (((done + 1 : Nat) : Int) - 1) = done := by rw [IntWalk.i64_in] <;> omega
    have q2 : (0 : Int) ≤ (done : Int) := by omega
    have q3 : (done : Int) < (steps.length : Int) := by omega
    go_enter Try.func11, Try.ntmps11
    go_wp2
    go_region_held3 (fun w' => w'.cell? ⟨jb, 1, none⟩ = some (.slice (some ⟨b, off, none⟩) steps.length cap) ∧ w'.cell? ⟨jb, 2, none⟩ = some (.int .i64 done) ∧
      w'.cell? ⟨b, off + done * 5, none⟩ = some (.int .i64 x.pos) ∧ w'.cell? ⟨b, off + done * 5 + 1, none⟩ = some (.string x.del) ∧ w'.cell? ⟨b, off + done * 5 + 2, none⟩ = some (.string x.ins) ∧ w'.cell? ⟨b, off + done * 5 + 3, none⟩ = some (.int .i64 x.ahead) ∧ w'.cell? ⟨b, off + done * 5 + 4, none⟩ = some (.int .i64 x.behind)) (go_keep) (fail)
    go_wp2
    have hF : Frm (· = jb) w (((w.setCell ⟨jb, 2, none⟩ (.int .i64 (done : Int))).alloc (.cells #[.int .i64 x.pos, .string x.del, .string x.ins, .int .i64 x.ahead, .int .i64 x.behind] 31)).drew) := (((Frm.refl (· = jb) w).setCell (b := jb) 2 (.inl rfl) _).alloc _).drew
    exact bodyPost_ret (v := .tuple #[x.val, .bool true]) (by simp [results, Try.results11, go_sem, St.val, *]) rfl ⟨rfl, ⟨(o1.alloc _).drew, by omega, hJ.row.frm hF (fun k hk => hJ.row.lt k hk |>.2)⟩, hF⟩

set_option maxHeartbeats 1000000 in
theorem redo_none (hJ : Jn w jb most sv steps steps.length) (hlen : steps.length ≤ 1000000) :
    Calls Try.prog 12 #[.pointer (some ⟨jb, 0, none⟩)] w fun e w' => e = .returned (.tuple #[St.zero.val, .bool false]) ∧ Below w.heap.size w w' := by
  obtain ⟨a, cap, rfl⟩ := hJ.row.form
  have c1 : w.cell? ⟨jb, 1, none⟩ = some (.slice a steps.length cap) := hJ.obj.cell 1
  have c2 : w.cell? ⟨jb, 2, none⟩ = some (.int .i64 (steps.length : Nat)) := hJ.obj.cell 2
  have hl := hJ.obj.lt
  have n1 := World.new_ne w ⟨jb, 0, none⟩ (hJ.obj.cell 0)
  go_enter Try.func12, Try.ntmps12
  go_wp2
  go_quiet (fail)
  obtain ⟨W1, hW1⟩ : ∃ W1, W1 = (w.alloc (.cells #[.int .i64 0, .string ⟨#[]⟩, .string ⟨#[]⟩, .int .i64 0, .int .i64 0] 31)).drewN nq := ⟨_, rfl⟩
  have hF1 : Frm (fun _ => False) w W1 := hW1 ▸ ((Frm.refl _ w).alloc _).drewN nq
  have r1 : Blk W1 w.heap.size #[.int .i64 0, .string ⟨#[]⟩, .string ⟨#[]⟩, .int .i64 0, .int .i64 0] 31 := hW1 ▸ (Blk.new w _ _).drewN nq
  rw [← hW1]
  clear hW1
  have z0 := r1.cell 0
  have z1 := r1.cell 1
  have z2 := r1.cell 2
  have z3 := r1.cell 3
  have z4 := r1.cell 4
  simp at z0 z1 z2 z3 z4
  have zf := fun o => r1.frozen o
  have d1 : W1.cell? ⟨jb, 1, none⟩ = some (.slice a steps.length cap) := (hF1.cell hl (fun h => h)).trans c1
  go_wp2
  exact bodyPost_ret (v := .tuple #[St.zero.val, .bool false]) (by simp [results, Try.results12, go_sem, St.val, St.zero, *]) rfl ⟨rfl, ((((((hF1.setCell 0 (.inr (Nat.le_refl _)) _).setCell 1 (.inr (Nat.le_refl _)) _).setCell 2 (.inr (Nat.le_refl _)) _).setCell 3 (.inr (Nat.le_refl _)) _).setCell 4 (.inr (Nat.le_refl _)) _).below (Nat.le_refl _) (fun _ h => h.elim))⟩

set_option maxHeartbeats 1000000 in
theorem redo_some (done : Nat) (hJ : Jn w jb most sv steps done) (hd : done < steps.length) (hlen : steps.length ≤ 1000000) :
    Calls Try.prog 12 #[.pointer (some ⟨jb, 0, none⟩)] w fun e w' => e = .returned (.tuple #[(steps[done]?.getD St.zero).val, .bool true]) ∧ Jn w' jb most sv steps (done + 1) ∧ Frm (· = jb) w w' := by
  have hle := hJ.le
  rcases hJ.row with ⟨_, h0⟩ | ⟨b, off, cap, cs, rfl, hlc, hbj, hB, hfit, hsteps⟩
  · rw [h0] at hd; simp at hd
  · have c0 : w.cell? ⟨jb, 0, none⟩ = some (.int .i64 most) := hJ.obj.cell 0
    have c1 : w.cell? ⟨jb, 1, none⟩ = some (.slice (some ⟨b, off, none⟩) steps.length cap) := hJ.obj.cell 1
    have c2 : w.cell? ⟨jb, 2, none⟩ = some (.int .i64 (done : Nat)) := hJ.obj.cell 2
    have f2 := hJ.obj.frozen 2
    have hl := hJ.obj.lt
    have hbl := hB.lt
    obtain ⟨s0, s1, s2, s3, s4⟩ := hsteps done (by omega)
    have n1 := World.new_ne w ⟨jb, 0, none⟩ c0
    have n2 := World.new_ne w ⟨b, _, none⟩ s0
    obtain ⟨x, hx⟩ : ∃ x, steps[done]?.getD St.zero = x := ⟨_, rfl⟩
    rw [hx] at s0 s1 s2 s3 s4 ⊢
    have q1 : IntKind.i64.wrap ((done : Int) + 1 - 1) = done := by rw [IntWalk.i64_in] <;> omega
    have q5 : IntKind.i64.wrap (done : Int) = done := by rw [IntWalk.i64_in] <;> omega
    have q4 : ¬ (done : Int) = (steps.length : Int) := by omega
    have q2 : (0 : Int) ≤ (done : Int) := by omega
    have q3 : (done : Int) < (steps.length : Int) := by omega
    go_enter Try.func12, Try.ntmps12
    go_wp2
    go_quiet (fail)
    obtain ⟨W1, hW1⟩ : ∃ W1, W1 = (w.alloc (.cells #[.int .i64 0, .string ⟨#[]⟩, .string ⟨#[]⟩, .int .i64 0, .int .i64 0] 31)).drewN nq := ⟨_, rfl⟩
    have hF1 : Frm (fun _ => False) w W1 := hW1 ▸ ((Frm.refl _ w).alloc _).drewN nq
    have r1 : Blk W1 w.heap.size #[.int .i64 0, .string ⟨#[]⟩, .string ⟨#[]⟩, .int .i64 0, .int .i64 0] 31 := hW1 ▸ (Blk.new w _ _).drewN nq
    rw [← hW1]
    clear hW1
    have z0 := r1.cell 0
    have z1 := r1.cell 1
    have z2 := r1.cell 2
    have z3 := r1.cell 3
    have z4 := r1.cell 4
    simp at z0 z1 z2 z3 z4
    have zf := fun o => r1.frozen o
    have j1 : Blk W1 jb #[.int .i64 most, .slice (some ⟨b, off, none⟩) steps.length cap, .int .i64 done] 65 := hJ.obj.frm hF1 (fun h => h)
    have d1 : W1.cell? ⟨jb, 1, none⟩ = some (.slice (some ⟨b, off, none⟩) steps.length cap) := j1.cell 1
    have d2 : W1.cell? ⟨jb, 2, none⟩ = some (.int .i64 done) := j1.cell 2
    have df := j1.frozen 2
    have o1 := j1.set 2 (.int .i64 ((done : Int) + 1))
    have k1 : (W1.setCell ⟨jb, 2, none⟩ (.int .i64 ((done : Int) + 1))).cell? ⟨jb, 1, none⟩ = some (.slice (some ⟨b, off, none⟩) steps.length cap) := o1.cell 1
    have k2 : (W1.setCell ⟨jb, 2, none⟩ (.int .i64 ((done : Int) + 1))).cell? ⟨jb, 2, none⟩ = some (.int .i64 ((done : Int) + 1)) := o1.cell 2
    have kt : ∀ o, (W1.setCell ⟨jb, 2, none⟩ (.int .i64 ((done : Int) + 1))).cell? ⟨b, o, none⟩ = w.cell? ⟨b, o, none⟩ := fun o => (World.cell?_of_block (Below.heap_setCell W1 _ _ b hbj)).trans (hF1.cell hbl (fun h => h))
    have kr : Blk (W1.setCell ⟨jb, 2, none⟩ (.int .i64 ((done : Int) + 1))) w.heap.size #[.int .i64 0, .string ⟨#[]⟩, .string ⟨#[]⟩, .int .i64 0, .int .i64 0] 31 := r1.other 2 _ n1
    have y0 := kr.cell 0
    have y1 := kr.cell 1
    have y2 := kr.cell 2
    have y3 := kr.cell 3
    have y4 := kr.cell 4
    simp at y0 y1 y2 y3 y4
    have yf := fun o => kr.frozen o
    go_wp2
    go_region_held3 (fun w' => w'.cell? ⟨jb, 1, none⟩ = some (.slice (some ⟨b, off, none⟩) steps.length cap) ∧ w'.cell? ⟨jb, 2, none⟩ = some (.int .i64 ((done : Int) + 1)) ∧
      w'.cell? ⟨b, off + done * 5, none⟩ = some (.int .i64 x.pos) ∧ w'.cell? ⟨b, off + done * 5 + 1, none⟩ = some (.string x.del) ∧ w'.cell? ⟨b, off + done * 5 + 2, none⟩ = some (.string x.ins) ∧ w'.cell? ⟨b, off + done * 5 + 3, none⟩ = some (.int .i64 x.ahead) ∧ w'.cell? ⟨b, off + done * 5 + 4, none⟩ = some (.int .i64 x.behind)) (go_keep) (fail)
    go_wp2
    have hF2 : Frm (· = jb) w (W1.setCell ⟨jb, 2, none⟩ (.int .i64 ((done : Int) + 1))) := Frm.setCell (p := (· = jb)) (b := jb) (hF1.mono (fun _ _ h => h.elim)) 2 (.inl rfl) _
    have hF := (hF2.five (.inr (Nat.le_refl _)) (.int .i64 x.pos) (.string x.del) (.string x.ins) (.int .i64 x.ahead) (.int .i64 x.behind)).drew
    have ob := (o1.five (Ne.symm n1) (.int .i64 x.pos) (.string x.del) (.string x.ins) (.int .i64 x.ahead) (.int .i64 x.behind)).drew
    exact bodyPost_ret (v := .tuple #[x.val, .bool true]) (by simp [results, Try.results12, go_sem, St.val, *]) rfl ⟨rfl, ⟨by simpa using ob, by omega, hJ.row.frm hF (fun k hk => hJ.row.lt k hk |>.2)⟩, hF⟩
end
end Go.Proofs.Ytgdamapocomhkaa

/- What joined of layer 2 (undo) returns: one step for the last one that was done and the new one, where they are one edit; else the new one. Conditions: the journal at hand lies in memory as such, with at most a million steps, texts below a million. -/
import Derived.Test.YtgdamapocomhkaaUnF
namespace Go.Proofs.Ytgdamapocomhkaa
open Go.RowKit Go.Shelf
set_option linter.unusedVariables false

def stepCells (s : St) : Array Value := #[.int .i64 s.pos, .string s.del, .string s.ins, .int .i64 s.ahead, .int .i64 s.behind]
theorem Blk.new1 (w : World) (o : Obj) (cs : Array Value) (t : TypeId) : Blk ((w.alloc o).alloc (.cells cs t)) (w.heap.size + 1) cs t := by
  have := Blk.new (w.alloc o) cs t
  rwa [World.size_alloc] at this
theorem Blk.new2 (w : World) (o o' : Obj) (cs : Array Value) (t : TypeId) : Blk (((w.alloc o).alloc o').alloc (.cells cs t)) (w.heap.size + 1 + 1) cs t := by
  have := Blk.new1 (w.alloc o) o' cs t
  rwa [World.size_alloc] at this
section
variable (jb most : Nat) (sv : Value) (steps : List St) (w : World) (s : St)

set_option maxHeartbeats 1000000 in
theorem joined_zero (hJ : Jn w jb most sv steps 0) :
    Calls Try.prog 24 #[.pointer (some ⟨jb, 0, none⟩), .agg #[.int .i64 s.pos, .string s.del, .string s.ins, .int .i64 s.ahead, .int .i64 s.behind]] w fun e w' => e = .returned (.tuple #[s.val, .int .i64 0]) ∧ Below w.heap.size w w' := by
  have c2 : w.cell? ⟨jb, 2, none⟩ = some (.int .i64 0) := hJ.obj.cell 2
  have hl := hJ.obj.lt
  have n1 := World.new_ne w ⟨jb, 0, none⟩ (hJ.obj.cell 0)
  go_enter Try.func24, Try.ntmps24
  go_wp2
  exact bodyPost_ret (v := .tuple #[s.val, .int .i64 0]) (by simp [results, Try.results24, go_sem, St.val, *]) rfl ⟨rfl, ((Below.refl _ _).alloc (Nat.le_refl _) _).alloc (by simp) _⟩

theorem joinSt_ends {a b e : St} (h : joinSt a b = some e) : e.ahead = a.ahead ∧ e.behind = b.behind := by
  unfold joinSt at h
  split at h
  · cases h
  · split at h
    · cases h
    · split at h
      · cases h
      · split at h
        · split at h <;> (cases h; exact ⟨rfl, rfl⟩)
        · split at h <;> (cases h; exact ⟨rfl, rfl⟩)

set_option maxHeartbeats 1000000 in
theorem joined_none (done : Nat) (hJ : Jn w jb most sv steps (done + 1)) (hlen : steps.length ≤ 1000000) (x : St) (hx : steps[done]?.getD St.zero = x) (hj : joinSt x s = none)
    (h1 : x.del.size ≤ 1000000) (h2 : x.ins.size ≤ 1000000) (h3 : s.del.size ≤ 1000000) (h4 : s.ins.size ≤ 1000000) :
    Calls Try.prog 24 #[.pointer (some ⟨jb, 0, none⟩), .agg #[.int .i64 s.pos, .string s.del, .string s.ins, .int .i64 s.ahead, .int .i64 s.behind]] w fun e w' => e = .returned (.tuple #[s.val, .int .i64 (done + 1 : Nat)]) ∧ Below w.heap.size w w' := by
  have hle := hJ.le
  rcases hJ.row with ⟨_, h0⟩ | ⟨b, off, cap, cs, rfl, hlc, hbj, hB, hfit, hsteps⟩
  · rw [h0] at hle; simp at hle
  · have c1 : w.cell? ⟨jb, 1, none⟩ = some (.slice (some ⟨b, off, none⟩) steps.length cap) := hJ.obj.cell 1
    have c2 : w.cell? ⟨jb, 2, none⟩ = some (.int .i64 ((done : Int) + 1)) := hJ.obj.cell 2
    have hl := hJ.obj.lt
    have hbl := hB.lt
    obtain ⟨s0, s1, s2, s3, s4⟩ := hsteps done (by omega)
    rw [hx] at s0 s1 s2 s3 s4
    have n1 := World.new_ne w ⟨jb, 0, none⟩ (hJ.obj.cell 0)
    have n2 := World.new_ne w ⟨b, _, none⟩ s0
    have n3 : ¬ w.heap.size + 1 = jb := by omega
    have n4 : ¬ w.heap.size + 1 = b := by omega
    have n5 : ¬ w.heap.size + 1 + 1 = jb := by omega
    have n6 : ¬ w.heap.size + 1 + 1 = b := by omega
    have n7 : ¬ w.heap.size + 2 = jb := by omega
    have n8 : ¬ w.heap.size + 2 = b := by omega
    have q1 : IntKind.i64.wrap ((done : Int) + 1 - 1) = done := by rw [IntWalk.i64_in] <;> omega
    have q5 : IntKind.i64.wrap (done : Int) = done := by rw [IntWalk.i64_in] <;> omega
    have q0 : ¬ (done : Int) + 1 = 0 := by omega
    have q2 : (0 : Int) ≤ (done : Int) := by omega
    have q3 : (done : Int) < (steps.length : Int) := by omega
    have hcon : ∀ W, Calls Try.prog 10 #[.agg #[.int .i64 x.pos, .string x.del, .string x.ins], .agg #[.int .i64 s.pos, .string s.del, .string s.ins]] W fun e w' => e = .returned (.tuple #[.agg #[.int .i64 0, .string ⟨#[]⟩, .string ⟨#[]⟩], .bool false]) ∧ Below W.heap.size W w' := fun W => by
      have := join_any x s W h1 h2 h3 h4
      rw [hj] at this
      exact this
    have kp7 : ∀ W, Below w.heap.size w W → (W.cell? ⟨jb, 1, none⟩ = some (.slice (some ⟨b, off, none⟩) steps.length cap) ∧ W.cell? ⟨jb, 2, none⟩ = some (.int .i64 ((done : Int) + 1)) ∧ W.cell? ⟨b, off + done * 5, none⟩ = some (.int .i64 x.pos) ∧ W.cell? ⟨b, off + done * 5 + 1, none⟩ = some (.string x.del) ∧ W.cell? ⟨b, off + done * 5 + 2, none⟩ = some (.string x.ins) ∧ W.cell? ⟨b, off + done * 5 + 3, none⟩ = some (.int .i64 x.ahead) ∧ W.cell? ⟨b, off + done * 5 + 4, none⟩ = some (.int .i64 x.behind)) := fun W hb => ⟨(hb.cell (p := ⟨jb, 1, none⟩) hl).trans c1, (hb.cell (p := ⟨jb, 2, none⟩) hl).trans c2, (hb.cell (p := ⟨b, _, none⟩) hbl).trans s0, (hb.cell (p := ⟨b, _, none⟩) hbl).trans s1, (hb.cell (p := ⟨b, _, none⟩) hbl).trans s2, (hb.cell (p := ⟨b, _, none⟩) hbl).trans s3, (hb.cell (p := ⟨b, _, none⟩) hbl).trans s4⟩
    go_enter Try.func24, Try.ntmps24
    go_wp2
    go_region_held3 (fun W => W.cell? ⟨jb, 1, none⟩ = some (.slice (some ⟨b, off, none⟩) steps.length cap) ∧ W.cell? ⟨jb, 2, none⟩ = some (.int .i64 ((done : Int) + 1)) ∧ W.cell? ⟨b, off + done * 5, none⟩ = some (.int .i64 x.pos) ∧ W.cell? ⟨b, off + done * 5 + 1, none⟩ = some (.string x.del) ∧ W.cell? ⟨b, off + done * 5 + 2, none⟩ = some (.string x.ins) ∧ W.cell? ⟨b, off + done * 5 + 3, none⟩ = some (.int .i64 x.ahead) ∧ W.cell? ⟨b, off + done * 5 + 4, none⟩ = some (.int .i64 x.behind))
      ((refine kp7 _ ?_; repeat (with_reducible (first | refine Below.drew ?_ | refine Below.alloc ?_ (by simp <;> omega) _ | refine Below.setCell ?_ (by simp <;> omega) _ | exact Below.refl _ _)))) (fail)
    go_wp2_with (go_at_call 10; refine (hcon _).mono ?_; rintro e w1 ⟨rfl, hb⟩; have b3 : Blk w1 w.heap.size #[.int .i64 s.pos, .string s.del, .string s.ins, .int .i64 s.ahead, .int .i64 s.behind] 31 := Blk.below (by exact ((Blk.new w _ _).alloc _).alloc _) hb; have b4 : Blk w1 (w.heap.size + 1) #[.int .i64 0, .string ⟨#[]⟩, .string ⟨#[]⟩, .int .i64 0, .int .i64 0] 31 := Blk.below (by exact (Blk.new1 w _ _ _).alloc _) hb; have b6 : Blk w1 (w.heap.size + 1 + 1) #[.int .i64 x.pos, .string x.del, .string x.ins, .int .i64 x.ahead, .int .i64 x.behind] 31 := Blk.below (by exact Blk.new2 w _ _ _ _) hb; have hB1 : Below w.heap.size w w1 := Below.trans (((((Below.refl _ w).alloc (Nat.le_refl _) _).alloc (by simp) _).alloc (by simp; omega) _).drew) (hb.mono (by simp; omega)); have hsz : w.heap.size + 3 ≤ w1.heap.size := Nat.le_trans (by simp) hb.size)
    obtain ⟨W2, hW2⟩ : ∃ W2, W2 = w1.alloc (.cells #[.int .i64 0, .string ⟨#[]⟩, .string ⟨#[]⟩] 29) := ⟨_, rfl⟩
    have d3 := b3.alloc (.cells #[.int .i64 0, .string ⟨#[]⟩, .string ⟨#[]⟩] 29)
    have d4 := b4.alloc (.cells #[.int .i64 0, .string ⟨#[]⟩, .string ⟨#[]⟩] 29)
    have hB2 : Below w.heap.size w W2 := hW2 ▸ hB1.alloc (by omega) _
    rw [← hW2] at d3 d4 ⊢
    clear hW2 hb
    have kp6 : ∀ W, Frm (fun k => k = w.heap.size + 1) W2 W → (W.cell? ⟨w.heap.size, 0, none⟩ = some (.int .i64 s.pos) ∧ W.cell? ⟨w.heap.size, 1, none⟩ = some (.string s.del) ∧ W.cell? ⟨w.heap.size, 2, none⟩ = some (.string s.ins) ∧ W.cell? ⟨w.heap.size, 3, none⟩ = some (.int .i64 s.ahead) ∧ W.cell? ⟨w.heap.size, 4, none⟩ = some (.int .i64 s.behind) ∧ W.cell? ⟨jb, 2, none⟩ = some (.int .i64 ((done : Int) + 1))) := fun W hf => by
      have e3 := d3.frm hf (by omega)
      refine ⟨e3.cell 0, e3.cell 1, e3.cell 2, e3.cell 3, e3.cell 4, ?_⟩
      exact (hf.cell (a := ⟨jb, 2, none⟩) (Nat.lt_of_lt_of_le hl hB2.size) (by show ¬ jb = _; omega)).trans ((hB2.cell (p := ⟨jb, 2, none⟩) hl).trans c2)
    have z0 := d4.cell 0
    have z1 := d4.cell 1
    have z2 := d4.cell 2
    have z3 := d4.cell 3
    have z4 := d4.cell 4
    simp at z0 z1 z2 z3 z4
    have zf := fun o => d4.frozen o
    go_region_held3 (fun W => W.cell? ⟨w.heap.size, 0, none⟩ = some (.int .i64 s.pos) ∧ W.cell? ⟨w.heap.size, 1, none⟩ = some (.string s.del) ∧ W.cell? ⟨w.heap.size, 2, none⟩ = some (.string s.ins) ∧ W.cell? ⟨w.heap.size, 3, none⟩ = some (.int .i64 s.ahead) ∧ W.cell? ⟨w.heap.size, 4, none⟩ = some (.int .i64 s.behind) ∧ W.cell? ⟨jb, 2, none⟩ = some (.int .i64 ((done : Int) + 1)))
      ((refine kp6 _ ?_; repeat (with_reducible (first | refine Frm.put ?_ _ _ | refine Frm.drew ?_ | refine Frm.alloc ?_ _ | exact Frm.refl _ _)))) (fail)
    go_wp2
    have hB3 : Below w.heap.size w ((((((W2.setCell ⟨w.heap.size + 1, 0, none⟩ (.int .i64 s.pos)).setCell ⟨w.heap.size + 1, 1, none⟩ (.string s.del)).setCell ⟨w.heap.size + 1, 2, none⟩ (.string s.ins)).setCell ⟨w.heap.size + 1, 3, none⟩ (.int .i64 s.ahead)).setCell ⟨w.heap.size + 1, 4, none⟩ (.int .i64 s.behind)).drew) :=
      ((((((hB2.setCell (p := ⟨w.heap.size + 1, 0, none⟩) (Nat.le_succ _) _).setCell (p := ⟨w.heap.size + 1, 1, none⟩) (Nat.le_succ _) _).setCell (p := ⟨w.heap.size + 1, 2, none⟩) (Nat.le_succ _) _).setCell (p := ⟨w.heap.size + 1, 3, none⟩) (Nat.le_succ _) _).setCell (p := ⟨w.heap.size + 1, 4, none⟩) (Nat.le_succ _) _).drew)
    exact bodyPost_ret (v := .tuple #[s.val, .int .i64 ((done : Int) + 1)]) (by simp [results, Try.results24, go_sem, St.val, *]) rfl ⟨rfl, hB3⟩

set_option maxHeartbeats 1000000 in
theorem joined_some (done : Nat) (hJ : Jn w jb most sv steps (done + 1)) (hlen : steps.length ≤ 1000000) (x : St) (hx : steps[done]?.getD St.zero = x) (e : St) (hj : joinSt x s = some e)
    (h1 : x.del.size ≤ 1000000) (h2 : x.ins.size ≤ 1000000) (h3 : s.del.size ≤ 1000000) (h4 : s.ins.size ≤ 1000000) :
    Calls Try.prog 24 #[.pointer (some ⟨jb, 0, none⟩), .agg #[.int .i64 s.pos, .string s.del, .string s.ins, .int .i64 s.ahead, .int .i64 s.behind]] w fun e' w' => e' = .returned (.tuple #[e.val, .int .i64 (done : Nat)]) ∧ Below w.heap.size w w' := by
  have hle := hJ.le
  rcases hJ.row with ⟨_, h0⟩ | ⟨b, off, cap, cs, rfl, hlc, hbj, hB, hfit, hsteps⟩
  · rw [h0] at hle; simp at hle
  · have c1 : w.cell? ⟨jb, 1, none⟩ = some (.slice (some ⟨b, off, none⟩) steps.length cap) := hJ.obj.cell 1
    have c2 : w.cell? ⟨jb, 2, none⟩ = some (.int .i64 ((done : Int) + 1)) := hJ.obj.cell 2
    have hl := hJ.obj.lt
    have hbl := hB.lt
    obtain ⟨s0, s1, s2, s3, s4⟩ := hsteps done (by omega)
    rw [hx] at s0 s1 s2 s3 s4
    have n1 := World.new_ne w ⟨jb, 0, none⟩ (hJ.obj.cell 0)
    have n2 := World.new_ne w ⟨b, _, none⟩ s0
    have n3 : ¬ w.heap.size + 1 = jb := by omega
    have n4 : ¬ w.heap.size + 1 = b := by omega
    have n5 : ¬ w.heap.size + 1 + 1 = jb := by omega
    have n6 : ¬ w.heap.size + 1 + 1 = b := by omega
    have n7 : ¬ w.heap.size + 2 = jb := by omega
    have n8 : ¬ w.heap.size + 2 = b := by omega
    have q1 : IntKind.i64.wrap ((done : Int) + 1 - 1) = done := by rw [IntWalk.i64_in] <;> omega
    have q5 : IntKind.i64.wrap (done : Int) = done := by rw [IntWalk.i64_in] <;> omega
    have q0 : ¬ (done : Int) + 1 = 0 := by omega
    have q2 : (0 : Int) ≤ (done : Int) := by omega
    have q3 : (done : Int) < (steps.length : Int) := by omega
    have hcon : ∀ W, Calls Try.prog 10 #[.agg #[.int .i64 x.pos, .string x.del, .string x.ins], .agg #[.int .i64 s.pos, .string s.del, .string s.ins]] W fun e' w' => e' = .returned (.tuple #[.agg #[.int .i64 e.pos, .string e.del, .string e.ins], .bool true]) ∧ Below W.heap.size W w' := fun W => by
      have := join_any x s W h1 h2 h3 h4
      rw [hj] at this
      exact this
    have kp7 : ∀ W, Below w.heap.size w W → (W.cell? ⟨jb, 1, none⟩ = some (.slice (some ⟨b, off, none⟩) steps.length cap) ∧ W.cell? ⟨jb, 2, none⟩ = some (.int .i64 ((done : Int) + 1)) ∧ W.cell? ⟨b, off + done * 5, none⟩ = some (.int .i64 x.pos) ∧ W.cell? ⟨b, off + done * 5 + 1, none⟩ = some (.string x.del) ∧ W.cell? ⟨b, off + done * 5 + 2, none⟩ = some (.string x.ins) ∧ W.cell? ⟨b, off + done * 5 + 3, none⟩ = some (.int .i64 x.ahead) ∧ W.cell? ⟨b, off + done * 5 + 4, none⟩ = some (.int .i64 x.behind)) := fun W hb => ⟨(hb.cell (p := ⟨jb, 1, none⟩) hl).trans c1, (hb.cell (p := ⟨jb, 2, none⟩) hl).trans c2, (hb.cell (p := ⟨b, _, none⟩) hbl).trans s0, (hb.cell (p := ⟨b, _, none⟩) hbl).trans s1, (hb.cell (p := ⟨b, _, none⟩) hbl).trans s2, (hb.cell (p := ⟨b, _, none⟩) hbl).trans s3, (hb.cell (p := ⟨b, _, none⟩) hbl).trans s4⟩
    go_enter Try.func24, Try.ntmps24
    go_wp2
    go_region_held3 (fun W => W.cell? ⟨jb, 1, none⟩ = some (.slice (some ⟨b, off, none⟩) steps.length cap) ∧ W.cell? ⟨jb, 2, none⟩ = some (.int .i64 ((done : Int) + 1)) ∧ W.cell? ⟨b, off + done * 5, none⟩ = some (.int .i64 x.pos) ∧ W.cell? ⟨b, off + done * 5 + 1, none⟩ = some (.string x.del) ∧ W.cell? ⟨b, off + done * 5 + 2, none⟩ = some (.string x.ins) ∧ W.cell? ⟨b, off + done * 5 + 3, none⟩ = some (.int .i64 x.ahead) ∧ W.cell? ⟨b, off + done * 5 + 4, none⟩ = some (.int .i64 x.behind))
      ((refine kp7 _ ?_; repeat (with_reducible (first | refine Below.drew ?_ | refine Below.alloc ?_ (by simp <;> omega) _ | refine Below.setCell ?_ (by simp <;> omega) _ | exact Below.refl _ _)))) (fail)
    go_wp2_with (go_at_call 10; refine (hcon _).mono ?_; rintro e' w1 ⟨rfl, hb⟩; have b3 : Blk w1 w.heap.size #[.int .i64 s.pos, .string s.del, .string s.ins, .int .i64 s.ahead, .int .i64 s.behind] 31 := Blk.below (by exact ((Blk.new w _ _).alloc _).alloc _) hb; have b4 : Blk w1 (w.heap.size + 1) #[.int .i64 0, .string ⟨#[]⟩, .string ⟨#[]⟩, .int .i64 0, .int .i64 0] 31 := Blk.below (by exact (Blk.new1 w _ _ _).alloc _) hb; have b6 : Blk w1 (w.heap.size + 1 + 1) #[.int .i64 x.pos, .string x.del, .string x.ins, .int .i64 x.ahead, .int .i64 x.behind] 31 := Blk.below (by exact Blk.new2 w _ _ _ _) hb; have hB1 : Below w.heap.size w w1 := Below.trans (((((Below.refl _ w).alloc (Nat.le_refl _) _).alloc (by simp) _).alloc (by simp; omega) _).drew) (hb.mono (by simp; omega)); have hsz : w.heap.size + 3 ≤ w1.heap.size := Nat.le_trans (by simp) hb.size)
    obtain ⟨W2, hW2⟩ : ∃ W2, W2 = w1.alloc (.cells #[.int .i64 e.pos, .string e.del, .string e.ins] 29) := ⟨_, rfl⟩
    have d3 := b3.alloc (.cells #[.int .i64 e.pos, .string e.del, .string e.ins] 29)
    have d4 := b4.alloc (.cells #[.int .i64 e.pos, .string e.del, .string e.ins] 29)
    have hB2 : Below w.heap.size w W2 := hW2 ▸ hB1.alloc (by omega) _
    have d6 := b6.alloc (.cells #[.int .i64 e.pos, .string e.del, .string e.ins] 29)
    have d7 := Blk.new w1 #[.int .i64 e.pos, .string e.del, .string e.ins] 29
    rw [← hW2] at d3 d4 d6 d7 ⊢
    clear hW2 hb
    have kp6 : ∀ W, Frm (fun k => k = w.heap.size + 1) W2 W → (W.cell? ⟨w1.heap.size, 0, none⟩ = some (.int .i64 e.pos) ∧ W.cell? ⟨w1.heap.size, 1, none⟩ = some (.string e.del) ∧ W.cell? ⟨w1.heap.size, 2, none⟩ = some (.string e.ins) ∧ W.cell? ⟨w.heap.size + 1 + 1, 3, none⟩ = some (.int .i64 x.ahead) ∧ W.cell? ⟨w.heap.size, 4, none⟩ = some (.int .i64 s.behind) ∧ W.cell? ⟨jb, 2, none⟩ = some (.int .i64 ((done : Int) + 1))) := fun W hf => by
      have e3 := d3.frm hf (by omega)
      have e6 := d6.frm hf (by omega)
      have e7 := d7.frm hf (by omega)
      refine ⟨e7.cell 0, e7.cell 1, e7.cell 2, e6.cell 3, e3.cell 4, ?_⟩
      exact (hf.cell (a := ⟨jb, 2, none⟩) (Nat.lt_of_lt_of_le hl hB2.size) (by show ¬ jb = _; omega)).trans ((hB2.cell (p := ⟨jb, 2, none⟩) hl).trans c2)
    have z0 := d4.cell 0
    have z1 := d4.cell 1
    have z2 := d4.cell 2
    have z3 := d4.cell 3
    have z4 := d4.cell 4
    simp at z0 z1 z2 z3 z4
    have zf := fun o => d4.frozen o
    go_region_held3 (fun W => W.cell? ⟨w1.heap.size, 0, none⟩ = some (.int .i64 e.pos) ∧ W.cell? ⟨w1.heap.size, 1, none⟩ = some (.string e.del) ∧ W.cell? ⟨w1.heap.size, 2, none⟩ = some (.string e.ins) ∧ W.cell? ⟨w.heap.size + 1 + 1, 3, none⟩ = some (.int .i64 x.ahead) ∧ W.cell? ⟨w.heap.size, 4, none⟩ = some (.int .i64 s.behind) ∧ W.cell? ⟨jb, 2, none⟩ = some (.int .i64 ((done : Int) + 1)))
      ((refine kp6 _ ?_; repeat (with_reducible (first | refine Frm.put ?_ _ _ | refine Frm.drew ?_ | refine Frm.alloc ?_ _ | exact Frm.refl _ _)))) (fail)
    go_wp2
    obtain ⟨g1, g2⟩ := joinSt_ends hj
    have hB3 : Below w.heap.size w ((((((W2.setCell ⟨w.heap.size + 1, 0, none⟩ (.int .i64 e.pos)).setCell ⟨w.heap.size + 1, 1, none⟩ (.string e.del)).setCell ⟨w.heap.size + 1, 2, none⟩ (.string e.ins)).setCell ⟨w.heap.size + 1, 3, none⟩ (.int .i64 x.ahead)).setCell ⟨w.heap.size + 1, 4, none⟩ (.int .i64 s.behind)).drew) :=
      ((((((hB2.setCell (p := ⟨w.heap.size + 1, 0, none⟩) (Nat.le_succ _) _).setCell (p := ⟨w.heap.size + 1, 1, none⟩) (Nat.le_succ _) _).setCell (p := ⟨w.heap.size + 1, 2, none⟩) (Nat.le_succ _) _).setCell (p := ⟨w.heap.size + 1, 3, none⟩) (Nat.le_succ _) _).setCell (p := ⟨w.heap.size + 1, 4, none⟩) (Nat.le_succ _) _).drew)
    exact bodyPost_ret (v := .tuple #[e.val, .int .i64 (done : Int)]) (by simp [results, Try.results24, go_sem, St.val, *]) rfl ⟨rfl, hB3⟩
end
end Go.Proofs.Ytgdamapocomhkaa

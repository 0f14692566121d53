/- What awake of the statements of layer 2 (undo) returns: true. No condition. -/
import Derived.Test.YtgdamapocomhkaaUnP
namespace Go.Proofs.Ytgdamapocomhkaa
open Go.RowKit Go.Shelf
set_option linter.unusedVariables false

theorem new_five (w : World) : Calls Try.prog 8 #[.int .i64 5] w fun e w' => e = .returned (.pointer (some ⟨w.heap.size, 0, none⟩)) ∧ Jn w' w.heap.size 5 (.slice none 0 0) [] 0 ∧ Below w.heap.size w w' :=
  new_good 5 w (by omega) (by omega)

def sA : St := ⟨0, ⟨#[]⟩, ⟨#[97]⟩, 0, 1⟩
theorem push_a (jb : Nat) (w : World) (hJ : Jn w jb 5 (.slice none 0 0) [] 0) :
    Calls Try.prog 9 #[.pointer (some ⟨jb, 0, none⟩), .agg #[.int .i64 0, .string ⟨#[]⟩, .string ⟨#[97]⟩, .int .i64 0, .int .i64 1], .bool false] w fun e w' => (∃ v, e = .returned v) ∧ ∃ sv', Jn w' jb 5 sv' [sA] 1 ∧ Frm (fun k => k = jb) w w' ∧ (∀ k, sv'.ownBlock = some k → w.heap.size ≤ k) := by
  refine (push_core jb 5 (.slice none 0 0) [] w sA 0 hJ (by decide) (by omega) (by simp) (by simp) (by decide) (by decide) false sA 0 (by rfl)).mono ?_
  rintro e w' ⟨hv, sv', h1, h2, h3⟩
  refine ⟨hv, sv', h1, h2.mono (fun i hi hp => ?_), fun k hk => ?_⟩
  · rcases hp with rfl | hp
    · rfl
    · simp [Value.ownBlock] at hp
  · rcases h3 k hk with h | h
    · simp [Value.ownBlock] at h
    · exact h

theorem jn_below {w w' : World} {jb most : Nat} {sv : Value} {steps : List St} {done : Nat} (h : Jn w jb most sv steps done) (hb : Below w.heap.size w w') : Jn w' jb most sv steps done :=
  h.frm (Frm.of_below (p := fun _ => False) hb) (fun _ _ h => h)

theorem undo_a (jb : Nat) (sv : Value) (w : World) (hJ : Jn w jb 5 sv [sA] 1) :
    Calls Try.prog 11 #[.pointer (some ⟨jb, 0, none⟩)] w fun e w' => e = .returned (.tuple #[.agg #[.int .i64 0, .string ⟨#[]⟩, .string ⟨#[97]⟩, .int .i64 0, .int .i64 1], .bool true]) ∧ Jn w' jb 5 sv [sA] 0 ∧ Frm (fun k => k = jb) w w' :=
  undo_some jb 5 sv [sA] w 0 hJ (by decide)
theorem redo_a (jb : Nat) (sv : Value) (w : World) (hJ : Jn w jb 5 sv [sA] 0) :
    Calls Try.prog 12 #[.pointer (some ⟨jb, 0, none⟩)] w fun e w' => e = .returned (.tuple #[.agg #[.int .i64 0, .string ⟨#[]⟩, .string ⟨#[97]⟩, .int .i64 0, .int .i64 1], .bool true]) ∧ Jn w' jb 5 sv [sA] 1 ∧ Frm (fun k => k = jb) w w' :=
  redo_some jb 5 sv [sA] w 0 hJ (by decide) (by decide)
theorem done_a (jb : Nat) (sv : Value) (w : World) (hJ : Jn w jb 5 sv [sA] 1) :
    Calls Try.prog 14 #[.pointer (some ⟨jb, 0, none⟩)] w fun e w' => (∃ a cap, e = .returned (.slice a 1 cap)) ∧ Below w.heap.size w w' := by
  refine (done_any jb 5 sv [sA] w 1 hJ (by decide)).mono ?_
  rintro e w' ⟨v, rfl, ho, hb⟩
  obtain ⟨g, cap, rfl⟩ := ownsRow_succ (k := 0) ho
  exact ⟨⟨_, _, rfl⟩, hb⟩

set_option maxRecDepth 100000 in
set_option maxHeartbeats 2000000 in
theorem awake_any (w : World) : Calls Try.prog 6 #[] w fun e w' => e = .returned (.bool true) ∧ Below w.heap.size w w' := by
  go_enter Try.func6, Try.ntmps6
  go_wp2_with (first
    | (go_at_call 8; refine (new_five _).mono ?_; rintro e w1 ⟨rfl, hJ1, hB1⟩)
    | (go_at_call 9; refine (push_a w.heap.size _ (jn_below hJ1 ((Below.refl _ _).alloc (Nat.le_refl _) _))).mono ?_; rintro e w2 ⟨⟨v2, rfl⟩, sv2, hJ2, hF2, ho2⟩)
    | (go_at_call 11; refine (undo_a w.heap.size sv2 _ hJ2).mono ?_; rintro e w3 ⟨rfl, hJ3, hF3⟩; have hs1 := hJ1.obj.lt; have bS2 := (Blk.new w1 #[.int .i64 0, .string ⟨#[]⟩, .string ⟨#[97]⟩, .int .i64 0, .int .i64 1] 31).frm hF2 (by omega); have bS3 := bS2.frm hF3 (by omega))
    | (go_at_call 12; refine (redo_a w.heap.size sv2 _ (jn_below hJ3 ((Below.refl _ _).alloc (Nat.le_refl _) _))).mono ?_; rintro e w4 ⟨rfl, hJ4, hF4⟩; have hs3 := hJ3.obj.lt; have bS4 := (bS3.alloc _).frm hF4 (by omega); have bA4 := (Blk.new w3 #[.int .i64 0, .string ⟨#[]⟩, .string ⟨#[97]⟩, .int .i64 0, .int .i64 1] 31).frm hF4 (by omega); have y0 := bS4.cell 0; have y1 := bS4.cell 1; have y2 := bS4.cell 2; have y3 := bS4.cell 3; have y4 := bS4.cell 4; have z0 := bA4.cell 0; have z1 := bA4.cell 1; have z2 := bA4.cell 2; have z3 := bA4.cell 3; have z4 := bA4.cell 4; simp at y0 y1 y2 y3 y4 z0 z1 z2 z3 z4; have x1 := bS4.lt; have x2 := bA4.lt)
    | (go_at_call 14; refine (done_a w.heap.size sv2 _ (jn_below hJ4 ((Below.refl _ _).alloc (Nat.le_refl _) _))).mono ?_; rintro e w5 ⟨⟨a5, c5, rfl⟩, hB5⟩))
  have n1 : w.heap.size ≤ w1.heap.size := hB1.size
  have n2 : w.heap.size ≤ w2.heap.size := Nat.le_of_lt hJ2.obj.lt
  have n3 : w.heap.size ≤ w3.heap.size := Nat.le_of_lt hJ3.obj.lt
  have n4 : w.heap.size ≤ w4.heap.size := Nat.le_of_lt hJ4.obj.lt
  have e2 : Below w.heap.size w w2 := (hB1.alloc n1 _).trans (hF2.below (by simp; omega) (fun k hk => by omega))
  have e3 : Below w.heap.size w w3 := e2.trans (hF3.below n2 (fun k hk => by omega))
  have e4 : Below w.heap.size w w4 := (e3.alloc n3 _).trans (hF4.below (by simp; omega) (fun k hk => by omega))
  go_ret
  exact ⟨rfl, (e4.alloc n4 _).trans (hB5.mono (by simp; omega))⟩
end Go.Proofs.Ytgdamapocomhkaa

/- A part of a row as it is read; the part around a part: plain facts. -/
import Derived.Test.YtholjhdjlhkocaaPtU
namespace Go.Proofs.Ytholjhdjlhkocaa
open Go.RowKit
set_option linter.unusedVariables false

theorem RdP.get {w : World} {oa : Option Addr} {n : Nat} {L : List Prt} (h : RdP w oa n L) {i : Nat} {p : Prt} (hp : L[i]? = some p) : ∃ ob, oa = some ⟨ob, 0, none⟩ ∧ ob < w.heap.size ∧ w.cell? ⟨ob, i * 5, none⟩ = some (.int .i64 (p.mode : Int)) ∧ w.cell? ⟨ob, i * 5 + 1, none⟩ = some (.int .i64 (p.frm : Int)) ∧ w.cell? ⟨ob, i * 5 + 2, none⟩ = some (.int .i64 (p.to : Int)) ∧ w.cell? ⟨ob, i * 5 + 3, none⟩ = some (.int .i64 p.up) ∧ w.cell? ⟨ob, i * 5 + 4, none⟩ = some (.bool p.op) := by
  obtain ⟨ob, h1, h2, h3⟩ := h.cells i p hp
  have h0 := h3 0 _ rfl
  rw [Nat.add_zero] at h0
  exact ⟨ob, h1, h2, h0, h3 1 _ rfl, h3 2 _ rfl, h3 3 _ rfl, h3 4 _ rfl⟩
theorem prt_up (s : ByteArray) (f : Nat) : (prt s f).up = upI s f := by
  unfold prt
  split
  · rw [(closeP_frm _ _ _ _).2.2, (prtK_frm _ _ _).2.1]
  · exact (prtK_frm _ _ _).2.1
theorem lastU_le (s : ByteArray) (f : Nat) : ∀ k : Nat, -1 ≤ lastU s f k ∧ lastU s f k < k ∨ lastU s f k = -1
  | 0 => .inr rfl
  | k + 1 => by
    unfold lastU
    split
    · left; omega
    · rcases lastU_le s f k with h | h
      · left; omega
      · exact .inr h

end Go.Proofs.Ytholjhdjlhkocaa

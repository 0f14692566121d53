/- The machine of layer 6 (modes) in memory: its block, the block of its frames; what mode, shut and turn do to it. Condition: a machine of at most a million frames. -/
import Derived.Test.YtdjcidackkogjaaGreatDoorQa
import Derived.Test.YtdjcidackkogjaaGreatDoorQb
namespace Go.Proofs.YtdjcidackkogjaaGreatDoor
open Go.RowKit
set_option linter.unusedVariables false

def cellsF (l : List Fr) : List Value := l.flatMap fun x => [.int .i64 (x.1 : Int), .int .i64 (x.2 : Int)]
theorem cellsF_length (l : List Fr) : (cellsF l).length = l.length * 2 := by
  induction l with
  | nil => rfl
  | cons a l ih => unfold cellsF at ih ⊢; rw [List.flatMap_cons]; simp only [List.length_append, List.length_cons, List.length_nil, ih]; omega
theorem cellsF_append (l k : List Fr) : cellsF (l ++ k) = cellsF l ++ cellsF k := by unfold cellsF; rw [List.flatMap_append]
theorem cellsF_at : ∀ {l : List Fr} {j : Nat} {x : Fr}, l[j]? = some x → (cellsF l)[j * 2]? = some (.int .i64 (x.1 : Int)) ∧ (cellsF l)[j * 2 + 1]? = some (.int .i64 (x.2 : Int))
  | [], j, x, h => by simp at h
  | a :: l, 0, x, h => by
    simp at h
    subst h
    exact ⟨rfl, rfl⟩
  | a :: l, j + 1, x, h => by
    have h' : l[j]? = some x := by simpa using h
    have ih := cellsF_at h'
    have e : cellsF (a :: l) = .int .i64 (a.1 : Int) :: .int .i64 (a.2 : Int) :: cellsF l := rfl
    rw [e, show (j + 1) * 2 = j * 2 + 1 + 1 from by omega]
    exact ih
theorem cellsF_one (l : List Fr) : ∀ v ∈ cellsF l, v.oneCell' = true := by
  intro v hv
  obtain ⟨s, _, hs⟩ := List.mem_flatMap.1 hv
  simp at hs
  rcases hs with rfl | rfl <;> rfl

def Fw (w : World) (g cap : Nat) (l : List Fr) : Prop :=
  ∃ cs, Blk w g cs 174 ∧ l.length ≤ cap ∧ cap ≤ maxLen ∧ cs.size = cap * 2 ∧ cs.toList.take (l.length * 2) = cellsF l
theorem Fw.lt {w : World} {g cap : Nat} {l : List Fr} (h : Fw w g cap l) : g < w.heap.size := by obtain ⟨cs, h, _⟩ := h; exact h.lt
theorem Fw.le {w : World} {g cap : Nat} {l : List Fr} (h : Fw w g cap l) : l.length ≤ cap := by obtain ⟨cs, _, h, _⟩ := h; exact h
theorem Fw.frm {p : Nat → Prop} {w w' : World} {g cap : Nat} {l : List Fr} (h : Fw w g cap l) (hf : Frm p w w') (hp : ¬ p g) : Fw w' g cap l := by
  obtain ⟨cs, h1, h2⟩ := h
  exact ⟨cs, h1.frm hf hp, h2⟩
theorem Fw.owns {w : World} {g cap : Nat} {l : List Fr} (h : Fw w g cap l) : w.ownsRow 0 174 2 (.slice (some ⟨g, 0, none⟩) l.length cap) l.length (cellsF l) := by
  obtain ⟨cs, h1, h2, h3, h4, h5⟩ := h
  exact ⟨by rw [cellsF_length], .inr ⟨g, cap, cs, rfl, Nat.zero_le _, h1, h2, h3, h4, h5⟩⟩
theorem Fw.of_owns {w : World} {b : Nat} {v : Value} {n : Nat} {l : List Fr} (h : w.ownsRow b 174 2 v n (cellsF l)) (hn : n = l.length) (h0 : 0 < n) : ∃ g cap, v = .slice (some ⟨g, 0, none⟩) n cap ∧ b ≤ g ∧ Fw w g cap l := by
  subst hn
  rcases h.2 with ⟨_, h1⟩ | ⟨g, cap, cs, h1, h2, h3, h4, h5, h6, h7⟩
  · omega
  · exact ⟨g, cap, h1, h2, cs, h3, h4, h5, h6, h7⟩
theorem Fw.cell {w : World} {g cap : Nat} {l : List Fr} (h : Fw w g cap l) {j : Nat} {x : Fr} (hj : l[j]? = some x) :
    w.cell? ⟨g, j * 2, none⟩ = some (.int .i64 (x.1 : Int)) ∧ w.cell? ⟨g, j * 2 + 1, none⟩ = some (.int .i64 (x.2 : Int)) := by
  obtain ⟨cs, h1, h2, h3, h4, h5⟩ := h
  have hl : j < l.length := (List.getElem?_eq_some_iff.1 hj).1
  obtain ⟨a, b⟩ := cellsF_at hj
  rw [← h5] at a b
  rw [List.getElem?_take_of_lt (by omega)] at a b
  rw [h1.cell, h1.cell]
  simp at a b
  exact ⟨a, b⟩
theorem Fw.frozen {w : World} {g cap : Nat} {l : List Fr} (h : Fw w g cap l) (o : Nat) : w.frozen? ⟨g, o, none⟩ = false := by obtain ⟨cs, h1, _⟩ := h; exact h1.frozen o
theorem Fw.init {w : World} {g cap : Nat} {l k : List Fr} (h : Fw w g cap (l ++ k)) : Fw w g cap l := by
  obtain ⟨cs, h1, h2, h3, h4, h5⟩ := h
  simp at h2
  refine ⟨cs, h1, by omega, h3, h4, ?_⟩
  have h6 := congrArg (fun x => x.take (l.length * 2)) h5
  simp only [List.take_take, cellsF_append] at h6
  rw [Nat.min_eq_left (by simp; omega)] at h6
  rw [h6, List.take_append_of_le_length (by rw [cellsF_length]; exact Nat.le_refl _), ← cellsF_length, List.take_length]
theorem Fw.turn {w : World} {g cap : Nat} {l : List Fr} {m f : Nat} (h : Fw w g cap (l ++ [(m, f)])) (n : Nat) : Fw (w.setCell ⟨g, l.length * 2, none⟩ (.int .i64 (n : Int))) g cap (l ++ [(n, f)]) := by
  have hI := h.init
  obtain ⟨cs0, g1, g2, g3, g4, g5⟩ := hI
  obtain ⟨cs, h1, h2, h3, h4, h5⟩ := h
  obtain rfl : cs0 = cs := by
    have := g1.symm.trans h1
    simpa using this
  simp only [List.length_append, List.length_cons, List.length_nil, Nat.zero_add] at h2 h5 ⊢
  refine ⟨_, h1.set _ _, by simpa using h2, h3, by simpa using h4, ?_⟩
  have hz : l.length * 2 + 1 < cs0.toList.length := by simp; omega
  have e2 : cs0.toList[l.length * 2 + 1]? = some (.int .i64 (f : Int)) := by
    have hh : (cellsF (l ++ [(m, f)]))[l.length * 2 + 1]? = some (.int .i64 (f : Int)) := (cellsF_at (l := l ++ [(m, f)]) (j := l.length) (x := (m, f)) (by simp)).2
    rw [← h5, List.getElem?_take_of_lt (by omega)] at hh
    exact hh
  rw [Array.toList_setIfInBounds, List.length_append, List.length_cons, List.length_nil, show (l.length + (0 + 1)) * 2 = l.length * 2 + 1 + 1 from by omega, List.take_add_one, List.take_add_one, List.take_set_of_le (Nat.le_refl _), g5, cellsF_append]
  rw [List.getElem?_set_self (by omega), List.getElem?_set_ne (by omega), e2]
  simp [cellsF]

structure Mc (w : World) (mb g cap : Nat) (x : Ms) (p : Nat) : Prop where
  obj : Blk w mb #[.slice (some ⟨g, 0, none⟩) x.st.length cap, .bool x.fresh, .int .i64 (p : Int)] 204
  ne : g ≠ mb
  row : Fw w g cap x.st.reverse
def mfoot (mb g k : Nat) : Prop := k = mb ∨ k = g
theorem Mc.frm {p : Nat → Prop} {w w' : World} {mb g cap : Nat} {x : Ms} {n : Nat} (h : Mc w mb g cap x n) (hf : Frm p w w') (h1 : ¬ p mb) (h2 : ¬ p g) : Mc w' mb g cap x n :=
  ⟨h.obj.frm hf h1, h.ne, h.row.frm hf h2⟩
theorem Mc.drew {w w' : World} {mb g cap : Nat} {x : Ms} {n : Nat} (h : Mc w mb g cap x n) (k : Nat) : Mc (w.drewN k) mb g cap x n := h.frm ((Frm.refl (fun _ => False) w).drewN k) (fun h => h) (fun h => h)

def McTo (w : World) (mb g : Nat) (x : Ms) (p : Nat) (w' : World) : Prop :=
  ∃ g' cap', Mc w' mb g' cap' x p ∧ Frm (mfoot mb g) w w' ∧ (g' = g ∨ w.heap.size ≤ g')

section
variable (mb g cap p : Nat) (w : World)
set_option maxHeartbeats 1000000 in
theorem mode_any (m f : Nat) (r : List Fr) (fresh : Bool) (hM : Mc w mb g cap ⟨(m, f) :: r, fresh⟩ p) (hl : r.length ≤ 1000000) :
    Calls Tryz.prog 142 #[.pointer (some ⟨mb, 0, none⟩)] w fun e w' => e = .returned (.int .i64 (m : Int)) ∧ ∃ q, w' = w.drewN q := by
  obtain ⟨z, hz⟩ : ∃ z, z = r.length + 1 := ⟨_, rfl⟩
  have c0 : w.cell? ⟨mb, 0, none⟩ = some (.slice (some ⟨g, 0, none⟩) z cap) := by rw [hz]; exact hM.obj.cell 0
  have c1 := (hM.row.cell (j := r.length) (x := (m, f)) (by simp)).1
  simp only at c1
  have e1 : IntKind.i64.wrap ((z : Int) - 1) = (r.length : Int) := by rw [IntWalk.i64_in _ (by omega)]; omega
  have q1 : (r.length : Int) < (z : Int) := by omega
  have q0 : (0 : Int) ≤ (r.length : Int) := by omega
  generalize r.length = k at *
  have HZ := Lib.hid hz
  clear hz
  go_enter Tryz.func142, Tryz.ntmps142
  go_wp2
  go_quiet (fail)
  go_wp2
  go_ret
  exact ⟨rfl, _, rfl⟩
end
end Go.Proofs.YtdjcidackkogjaaGreatDoor

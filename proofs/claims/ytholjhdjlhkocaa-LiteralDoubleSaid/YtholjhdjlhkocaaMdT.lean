/- What opened, quoted, braced, arith, dollar and plain of layer 6 (modes) leave of a machine in memory. Condition: a byte; a machine of at most a million frames. -/
import Derived.Test.YtholjhdjlhkocaaMdO
namespace Go.Proofs.Ytholjhdjlhkocaa
open Go.RowKit
set_option linter.unusedVariables false

theorem Mc.to {w : World} {mb g cap : Nat} {x : Ms} {p : Nat} (h : Mc w mb g cap x p) : McTo w mb g x p w := ⟨g, cap, h, Frm.refl _ _, .inl rfl⟩
theorem Mc.fr {w : World} {mb g cap : Nat} {st : List Fr} {fresh : Bool} {p : Nat} (h : Mc w mb g cap ⟨st, fresh⟩ p) (v : Bool) : Mc (w.setCell ⟨mb, 1, none⟩ (.bool v)) mb g cap ⟨st, v⟩ p :=
  ⟨h.obj.set 1 _, h.ne, h.row.frm (Frm.setCell (p := fun k => k = mb) (Frm.refl _ _) 1 (.inl rfl) _) h.ne⟩
theorem Mc.at {w : World} {mb g cap : Nat} {x : Ms} {p : Nat} (h : Mc w mb g cap x p) (q : Nat) : Mc (w.setCell ⟨mb, 2, none⟩ (.int .i64 (q : Int))) mb g cap x q :=
  ⟨h.obj.set 2 _, h.ne, h.row.frm (Frm.setCell (p := fun k => k = mb) (Frm.refl _ _) 2 (.inl rfl) _) h.ne⟩
theorem McTo.fr {w w' : World} {mb g : Nat} {st : List Fr} {fresh : Bool} {p : Nat} (h : McTo w mb g ⟨st, fresh⟩ p w') (v : Bool) : McTo w mb g ⟨st, v⟩ p (w'.setCell ⟨mb, 1, none⟩ (.bool v)) := by
  obtain ⟨g', cap', h1, h2, h3⟩ := h
  exact ⟨g', cap', h1.fr v, h2.setCell 1 (.inl (.inl rfl)) _, h3⟩
theorem McTo.at {w w' : World} {mb g : Nat} {x : Ms} {p : Nat} (h : McTo w mb g x p w') (q : Nat) : McTo w mb g x q (w'.setCell ⟨mb, 2, none⟩ (.int .i64 (q : Int))) := by
  obtain ⟨g', cap', h1, h2, h3⟩ := h
  exact ⟨g', cap', h1.at q, h2.setCell 2 (.inl (.inl rfl)) _, h3⟩
theorem McTo.drewN {w w' : World} {mb g : Nat} {x : Ms} {p : Nat} (h : McTo w mb g x p w') (q : Nat) : McTo w mb g x p (w'.drewN q) := by
  obtain ⟨g', cap', h1, h2, h3⟩ := h
  exact ⟨g', cap', h1.frm ((Frm.refl (fun _ => False) w').drewN q) (fun h => h) (fun h => h), h2.drewN q, h3⟩
theorem McTo.trans {w w1 w2 : World} {mb g g1 : Nat} {x y : Ms} {p q : Nat} (hF : Frm (mfoot mb g) w w1) (hg : g1 = g ∨ w.heap.size ≤ g1) (k : McTo w1 mb g1 y q w2) : McTo w mb g y q w2 := by
  obtain ⟨g2, cap2, k1, k2, k3⟩ := k
  refine ⟨g2, cap2, k1, hF.trans k2 ?_, ?_⟩
  · intro i hi hh
    rcases hh with hh | hh
    · exact .inl hh
    · rcases hg with hg | hg
      · exact .inr (hh.trans hg)
      · omega
  · have := hF.size
    omega
theorem McTo.cast {w w' : World} {mb g : Nat} {x y : Ms} {p : Nat} (h : McTo w mb g x p w') (e : x = y) : McTo w mb g y p w' := e ▸ h

def openedN (b : Nat) : Nat := if b = 39 then 4 else if b = 34 then 5 else if b = 96 then 6 else if b = 36 then 12 else 13
set_option maxHeartbeats 1000000 in
theorem opened_any (b : Nat) (w : World) : Calls Try.prog 97 #[.int .u8 b] w fun e w' => e = .returned (.int .i64 (openedN b : Nat)) ∧ w' = w := by
  go_enter Try.func97, Try.ntmps97
  go_wp2
  all_goals
    go_ret
    refine ⟨ret_int ?_, rfl⟩
    simp only [beq_iff_eq, beq_eq_false_iff_ne, ne_eq] at *
    unfold openedN
    (repeat' split) <;> omega
set_option maxHeartbeats 1000000 in
theorem braced_any (m : Nat) (w : World) : Calls Try.prog 99 #[.int .i64 m] w fun e w' => e = .returned (.int .i64 (brace m : Nat)) ∧ w' = w := by
  go_enter Try.func99, Try.ntmps99
  go_wp2
  all_goals
    go_ret
    refine ⟨ret_int ?_, rfl⟩
    try simp only [beq_iff_eq, beq_eq_false_iff_ne, ne_eq] at *
    unfold brace
    (repeat' split) <;> omega

section
variable (mb g cap p : Nat) (w : World)
set_option maxHeartbeats 1000000 in
theorem quoted_any (b sh : Nat) (op : ByteArray) (a : Fr) (r : List Fr) (fresh : Bool) (hM : Mc w mb g cap ⟨a :: r, fresh⟩ p) (hl : r.length ≤ 100000) (hb : b < 256) :
    Calls Try.prog 86 #[.pointer (some ⟨mb, 0, none⟩), .int .u8 b, .int .u8 sh, .string op] w fun e w' => (∃ v, e = .returned v) ∧
      McTo w mb g ⟨if b = sh then r else if inB b op = true then (openedN b, p) :: a :: r else a :: r, fresh⟩ p w' := by
  by_cases h1 : b = sh
  · rw [if_pos h1]
    subst h1
    go_enter Try.func86, Try.ntmps86
    go_wp2_with fail
    refine (shut_any mb g cap p _ a r fresh hM (by omega)).mono ?_
    rintro e w1 ⟨⟨v, rfl⟩, hM1, hF⟩
    go_wp2
    refine bodyPost_end (results_none rfl _ _ _) rfl ?_
    exact ⟨⟨_, rfl⟩, _, _, hM1, hF, .inl rfl⟩
  · rw [if_neg h1]
    have t1 : ((b : Int) == (sh : Int)) = false := beq_eq_false_iff_ne.2 (by omega)
    by_cases h2 : inB b op = true
    · rw [if_pos h2]
      go_enter Try.func86, Try.ntmps86
      go_wp2_with fail
      refine (index_inB _ _ hb _).mono ?_
      rintro e w1 ⟨⟨x, rfl, hx⟩, rfl⟩
      rw [h2] at hx
      go_wp2_with fail
      refine (opened_any b _).mono ?_
      rintro e w1 ⟨rfl, rfl⟩
      go_wp2_with fail
      refine (open_any mb g cap p _ (openedN b) _ fresh hM (by simp; omega)).mono ?_
      rintro e w1 ⟨⟨v, rfl⟩, hM1⟩
      go_wp2
      refine bodyPost_end (results_none rfl _ _ _) rfl ?_
      exact ⟨⟨_, rfl⟩, hM1⟩
    · rw [if_neg h2]
      have h2' : inB b op = false := by simpa using h2
      go_enter Try.func86, Try.ntmps86
      go_wp2_with fail
      refine (index_inB _ _ hb _).mono ?_
      rintro e w1 ⟨⟨x, rfl, hx⟩, rfl⟩
      rw [h2'] at hx
      go_wp2
      refine bodyPost_end (results_none rfl _ _ _) rfl ?_
      exact ⟨⟨_, rfl⟩, hM.to⟩

set_option maxHeartbeats 1000000 in
theorem arith_any (b m f : Nat) (r : List Fr) (fresh : Bool) (hM : Mc w mb g cap ⟨(m, f) :: r, fresh⟩ p) (hl : r.length ≤ 100000) (hb : b < 256) (hm : m = 9 ∨ m = 10) :
    Calls Try.prog 87 #[.pointer (some ⟨mb, 0, none⟩), .int .i64 m, .int .u8 b] w fun e w' => (∃ v, e = .returned v) ∧ McTo w mb g (plainF ((m, f) :: r) fresh b p) p w' := by
  have hq : ∀ b, inB b ⟨#[92, 36, 96]⟩ = decide (opn b ≠ 15) := by
    intro b
    rw [Bool.eq_iff_iff, decide_eq_true_iff]
    simp [inB]
    unfold opn
    (repeat' split) <;> omega
  have hop : opn b ≠ 15 → openedN b = opn b := by
    intro h
    unfold opn openedN at *
    (repeat' split) <;> simp_all
  by_cases h1 : b = 40
  · subst h1
    have e : plainF ((m, f) :: r) fresh 40 p = ⟨(10, p) :: (m, f) :: r, fresh⟩ := by rcases hm with rfl | rfl <;> rfl
    rw [e]
    go_enter Try.func87, Try.ntmps87
    go_wp2_with fail
    refine (open_any mb g cap p _ 10 _ fresh hM (by simp; omega)).mono ?_
    rintro e w1 ⟨⟨v, rfl⟩, hM1⟩
    go_wp2
    refine bodyPost_end (results_none rfl _ _ _) rfl ?_
    exact ⟨⟨_, rfl⟩, hM1⟩
  · by_cases h2 : b = 41 ∧ m = 9
    · obtain ⟨rfl, rfl⟩ := h2
      have e : plainF ((9, f) :: r) fresh 41 p = ⟨(11, f) :: r, fresh⟩ := rfl
      rw [e]
      go_enter Try.func87, Try.ntmps87
      go_wp2_with fail
      refine (turn_any mb g cap p _ 9 f 11 r fresh hM (by omega)).mono ?_
      rintro e w1 ⟨⟨v, rfl⟩, hM1, hF⟩
      go_wp2
      refine bodyPost_end (results_none rfl _ _ _) rfl ?_
      exact ⟨⟨_, rfl⟩, _, _, hM1, hF, .inl rfl⟩
    · have t1 : ((b : Int) == 40) = false := beq_eq_false_iff_ne.2 (by omega)
      have e : plainF ((m, f) :: r) fresh b p = ⟨if b = 41 then r else if inB b ⟨#[92, 36, 96]⟩ = true then (openedN b, p) :: (m, f) :: r else (m, f) :: r, fresh⟩ := by
        show fin (mv m b fresh) ((m, f) :: r) p = _
        rw [hq]
        by_cases h3 : b = 41
        · obtain rfl : m = 10 := by omega
          subst h3
          rfl
        · rw [if_neg h3]
          by_cases h4 : opn b = 15
          · have e : mv m b fresh = (.keep, fresh) := by rcases hm with rfl | rfl <;> simp [mv, isProg, h1, h3, h4]
            rw [e]
            simp [h4, fin, Mv.run]
          · have e : mv m b fresh = (.push (opn b), fresh) := by rcases hm with rfl | rfl <;> simp [mv, isProg, h4]
            rw [e]
            simp [h4, fin, Mv.run, hop h4]
      obtain ⟨X, hX⟩ : ∃ X, plainF ((m, f) :: r) fresh b p = X := ⟨_, rfl⟩
      rw [hX] at e ⊢
      have HE := Lib.hid e
      clear hq e hop hX
      have key : (b = 41 ∧ ((b : Int) == 41) = true ∧ ((m : Int) == 9) = false) ∨ (b ≠ 41 ∧ ((b : Int) == 41) = false) := by
        by_cases h : b = 41
        · exact .inl ⟨h, beq_iff_eq.2 (by omega), beq_eq_false_iff_ne.2 (by omega)⟩
        · exact .inr ⟨h, beq_eq_false_iff_ne.2 (by omega)⟩
      have hcall := quoted_any mb g cap p w b 41 ⟨#[92, 36, 96]⟩ (m, f) r fresh hM hl hb
      rw [← HE.out] at hcall
      clear h2
      rcases key with ⟨h41, _, t3⟩ | ⟨_, t2⟩
      · subst h41
        go_enter Try.func87, Try.ntmps87
        go_wp2_with fail
        refine hcall.mono ?_
        rintro e w1 ⟨⟨v, rfl⟩, hM1⟩
        go_wp2
        refine bodyPost_end (results_none rfl _ _ _) rfl ?_
        exact ⟨⟨_, rfl⟩, hM1⟩
      · go_enter Try.func87, Try.ntmps87
        go_wp2_with fail
        refine hcall.mono ?_
        rintro e w1 ⟨⟨v, rfl⟩, hM1⟩
        go_wp2
        refine bodyPost_end (results_none rfl _ _ _) rfl ?_
        exact ⟨⟨_, rfl⟩, hM1⟩
end
end Go.Proofs.Ytholjhdjlhkocaa

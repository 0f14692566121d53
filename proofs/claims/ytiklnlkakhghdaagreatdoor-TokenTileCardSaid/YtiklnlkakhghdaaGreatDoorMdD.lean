/- The plain facts on what shuts all that is open. No condition: nothing here speaks of the program. -/
import Derived.Test.YtiklnlkakhghdaaGreatDoorMdQ
namespace Go.Proofs.YtiklnlkakhghdaaGreatDoor
open Go.RowKit
set_option linter.unusedVariables false

/-- What shuts a mode. -/
def closeB (m : Nat) : List UInt8 :=
  if m = 4 then [39] else if m = 5 then [34] else if m = 6 then [96] else if m = 7 ∨ m = 8 then [125]
  else if m = 1 ∨ m = 3 ∨ m = 2 ∨ m = 10 ∨ m = 11 then [41] else if m = 9 then [41, 41] else if m = 13 ∨ m = 14 then [10] else []
/-- What shuts a stack, its last frame first. -/
def closeL (st : List Fr) : List UInt8 := st.flatMap fun x => closeB x.1
/-- A row of bytes comes. -/
def runB (x : Ms) (p : Nat) : List UInt8 → Ms
  | [] => x
  | b :: l => runB (feed x b.toNat p) (p + 1) l
theorem runB_app (l k : List UInt8) : ∀ (x : Ms) (p : Nat), runB x p (l ++ k) = runB (runB x p l) (p + l.length) k := by
  induction l with
  | nil => intro x p; rfl
  | cons b l ih =>
    intro x p
    show runB (feed x b.toNat p) (p + 1) (l ++ k) = runB (runB (feed x b.toNat p) (p + 1) l) (p + (l.length + 1)) k
    rw [ih, show p + 1 + l.length = p + (l.length + 1) by omega]
theorem runB_inv {x : Ms} (h : Inv x) : ∀ (l : List UInt8) (p : Nat), Inv (runB x p l) := by
  intro l
  induction l generalizing x with
  | nil => intro p; exact h
  | cons b l ih => intro p; exact ih (feed_inv h _ _) _
theorem runB_G (l : List UInt8) (x : Ms) (p : Nat) (β : Nat → Nat) (h : ∀ i (hi : i < l.length), β i = (l[i]).toNat) : runB x p l = runG x β p l.length := by
  induction l generalizing x p β with
  | nil => rfl
  | cons b l ih =>
    have h0 : β 0 = b.toNat := h 0 (by simp)
    have hr := runG_add x β p 1 l.length
    rw [List.length_cons, Nat.add_comm l.length 1, hr]
    show runB (feed x b.toNat p) (p + 1) l = runG (feed x (β 0) (p + 0)) (fun i => β (1 + i)) (p + 1) l.length
    rw [h0, Nat.add_zero]
    exact ih _ _ _ fun i hi => by
      have := h (i + 1) (by simp; omega)
      rw [Nat.add_comm 1 i, this]
      simp

/-- What a mode's bytes shut. -/
theorem close_one {m f : Nat} {r : List Fr} {fr : Bool} (hg : good ((m, f) :: r)) (h0 : m ≠ 0) (h12 : m ≠ 12) (p : Nat) : ∃ fr2, runB ⟨(m, f) :: r, fr⟩ p (closeB m) = ⟨r, fr2⟩ := by
  have hle := good_le hg
  have : m = 1 ∨ m = 2 ∨ m = 3 ∨ m = 4 ∨ m = 5 ∨ m = 6 ∨ m = 7 ∨ m = 8 ∨ m = 9 ∨ m = 10 ∨ m = 11 ∨ m = 13 ∨ m = 14 := by omega
  rcases this with rfl | rfl | rfl | rfl | rfl | rfl | rfl | rfl | rfl | rfl | rfl | rfl | rfl <;> exact ⟨_, rfl⟩
theorem closeB_head {m : Nat} (hm : m ≤ 14) (h0 : m ≠ 0) (h12 : m ≠ 12) : ∃ b l, closeB m = b :: l ∧ b.toNat ≠ 40 ∧ b.toNat ≠ 123 ∧ b.toNat ≠ 36 := by
  have : m = 1 ∨ m = 2 ∨ m = 3 ∨ m = 4 ∨ m = 5 ∨ m = 6 ∨ m = 7 ∨ m = 8 ∨ m = 9 ∨ m = 10 ∨ m = 11 ∨ m = 13 ∨ m = 14 := by omega
  rcases this with rfl | rfl | rfl | rfl | rfl | rfl | rfl | rfl | rfl | rfl | rfl | rfl | rfl <;> exact ⟨_, _, rfl, by decide, by decide, by decide⟩
/-- All is shut, where no dollar stands last. -/
theorem close_all : ∀ {st : List Fr} {fr : Bool} (hg : good st) (h12 : top st ≠ 12) (p : Nat), ∃ y fr2, runB ⟨st, fr⟩ p (closeL st) = ⟨[y], fr2⟩
  | [], fr, hg, _, _ => absurd hg (by simp [good])
  | [(m, f)], fr, hg, _, p => by
    have : m = 0 := hg
    subst this
    exact ⟨(0, f), fr, rfl⟩
  | (m, f) :: (m2, f2) :: r, fr, hg, h12, p => by
    obtain ⟨ho, hg2⟩ := good_two hg
    have h0 : m ≠ 0 := by
      intro e
      subst e
      simp [over] at ho
    have hB := over_base ho
    unfold base at hB
    rw [decide_eq_true_iff] at hB
    obtain ⟨fr1, e1⟩ := close_one (fr := fr) hg h0 h12 p
    obtain ⟨y, fr2, e2⟩ := close_all (fr := fr1) hg2 (show m2 ≠ 12 from hB.2.2.2.1) (p + (closeB m).length)
    refine ⟨y, fr2, ?_⟩
    show runB _ p (closeB m ++ closeL ((m2, f2) :: r)) = _
    rw [runB_app, e1, e2]
/-- What is left open behind what shuts all: nothing, or a dollar at the text's own end. -/
theorem closes {x : Ms} (hI : Inv x) (p : Nat) : (runB x p (closeL x.st)).st.length = 1 ∨ (closeL x.st = [] ∧ (runB x p (closeL x.st)).st.length = 2 ∧ top (runB x p (closeL x.st)).st = 12) := by
  obtain ⟨st, fr⟩ := x
  have hg := hI.good
  by_cases h12 : top st = 12
  · cases st with
    | nil => exact absurd hg (by simp [good])
    | cons a r =>
      obtain ⟨m, f⟩ := a
      have hm : m = 12 := h12
      subst hm
      obtain ⟨m2, f2, r2, rfl, ho, hg2⟩ := good_more hg (by omega)
      have hB := over_base ho
      unfold base at hB
      rw [decide_eq_true_iff] at hB
      by_cases h0 : m2 = 0
      · subst h0
        have := good_zero hg2
        subst this
        exact .inr ⟨rfl, rfl, rfl⟩
      · obtain ⟨b, l, e, n1, n2, n3⟩ := closeB_head (good_le hg2) h0 (by omega)
        obtain ⟨y, fr2, e2⟩ := close_all (fr := fr) hg2 (show m2 ≠ 12 from hB.2.2.2.1) p
        left
        have ec : closeL ((12, f) :: (m2, f2) :: r2) = b :: (l ++ closeL r2) := by
          show closeB 12 ++ (closeB m2 ++ closeL r2) = _
          rw [e]
          rfl
        have ec2 : closeL ((m2, f2) :: r2) = b :: (l ++ closeL r2) := by
          show closeB m2 ++ closeL r2 = _
          rw [e]
          rfl
        have ef : feed ⟨(12, f) :: (m2, f2) :: r2, fr⟩ b.toNat p = feed ⟨(m2, f2) :: r2, fr⟩ b.toNat p := by
          rw [feed_plain' (m := m2) hB.1 hB.2.2.1 hB.2.2.2.1]
          unfold feed
          simp [n1, n2, n3]
        show (runB _ p (closeL ((12, f) :: (m2, f2) :: r2))).st.length = 1
        rw [ec2] at e2
        rw [ec]
        show (runB (feed _ b.toNat p) (p + 1) (l ++ closeL r2)).st.length = 1
        rw [ef]
        have e3 : runB (feed ⟨(m2, f2) :: r2, fr⟩ b.toNat p) (p + 1) (l ++ closeL r2) = ⟨[y], fr2⟩ := e2
        rw [e3]
        rfl
  · obtain ⟨y, fr2, e⟩ := close_all (fr := fr) hg h12 p
    left
    show (runB ⟨st, fr⟩ p (closeL st)).st.length = 1
    rw [e]
    rfl
def closeT (l : List UInt8) : ByteArray := ⟨l.toArray⟩
theorem closeT_size (l : List UInt8) : (closeT l).size = l.length := by
  show l.toArray.size = _
  simp
theorem runK_close (s : ByteArray) (l : List UInt8) : runK (s ++ closeT l) (s ++ closeT l).size = runB (runK s s.size) s.size l := by
  have hz : (s ++ closeT l).size = s.size + l.length := by rw [ByteArray.size_append, closeT_size]
  rw [hz, runK_app s _ (by rw [closeT_size]; exact Nat.le_refl _)]
  refine (runB_G l _ _ _ fun i hi => ?_).symm
  have h1 : i < (closeT l).size := by rw [closeT_size]; exact hi
  unfold by8
  rw [bt_eq h1, ByteArray.getElem_eq_getElem_data]
  simp [closeT]
theorem closeB_len (m : Nat) : (closeB m).length ≤ 2 := by
  unfold closeB
  repeat' split
  all_goals simp
theorem closeL_len (st : List Fr) : (closeL st).length ≤ 2 * st.length := by
  induction st with
  | nil => exact Nat.le_refl _
  | cons a r ih =>
    have := closeB_len a.1
    show (closeB a.1 ++ closeL r).length ≤ _
    rw [List.length_append, List.length_cons]
    omega
end Go.Proofs.YtiklnlkakhghdaaGreatDoor

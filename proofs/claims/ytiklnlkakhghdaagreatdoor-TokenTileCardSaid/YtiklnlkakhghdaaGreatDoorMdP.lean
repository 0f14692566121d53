/- The plain facts on the machine of modes: what a byte does to a stack, which stacks there are, what lies behind texts. No condition: nothing here speaks of the program. -/
import Derived.Test.YtiklnlkakhghdaaGreatDoorClP
namespace Go.Proofs.YtiklnlkakhghdaaGreatDoor
open Go.RowKit
set_option linter.unusedVariables false

/-- A frame: its mode and the place of its byte. -/
abbrev Fr := Nat × Nat
/-- A stack, its last frame first, and whether it is fresh. -/
structure Ms where
  st : List Fr
  fresh : Bool
def Ms.start : Ms := ⟨[(0, 0)], true⟩

/-- What happens to a stack. -/
inductive Mv
  | keep
  | push (m : Nat)
  | pop
  | turn (m : Nat)
def Mv.run (v : Mv) (st : List Fr) (p : Nat) : List Fr :=
  match v with
  | .keep => st
  | .push m => (m, p) :: st
  | .pop => st.tail
  | .turn m => match st with
    | [] => []
    | (_, f) :: r => (m, f) :: r
/-- What a byte opens in most modes; 15: nothing. -/
def opn (b : Nat) : Nat := if b = 92 then 13 else if b = 36 then 12 else if b = 96 then 6 else 15
theorem opn_cases (b : Nat) : opn b = 13 ∨ opn b = 12 ∨ opn b = 6 ∨ opn b = 15 := by
  unfold opn
  repeat' split
  all_goals omega
def isProg (m : Nat) : Bool := decide (m = 0 ∨ m = 1 ∨ m = 2)
/-- A byte comes to a mode that takes it. -/
def mv (m b : Nat) (fresh : Bool) : Mv × Bool :=
  if isProg m then
    if b = 92 then (.push 13, fresh) else if b = 39 then (.push 4, false) else if b = 34 then (.push 5, false)
    else if b = 96 ∨ b = 36 then (.push (opn b), false)
    else if b = 35 ∧ fresh = true then (.push 14, fresh)
    else if b = 40 then (if m = 0 then (.keep, true) else (.push 2, true))
    else if b = 41 then (if m = 0 then (.keep, true) else (.pop, decide (m = 2)))
    else (.keep, endsB b)
  else if m = 13 then (.pop, if b = 10 then fresh else false)
  else if m = 4 then (if b = 39 then (.pop, fresh) else (.keep, fresh))
  else if m = 14 then (if b = 10 then (.pop, true) else (.keep, fresh))
  else if m = 6 then (if b = 96 then (.pop, fresh) else if b = 92 then (.push 13, fresh) else (.keep, fresh))
  else if opn b ≠ 15 then (.push (opn b), fresh)
  else if m = 9 ∨ m = 10 then
    if b = 40 then (.push 10, fresh) else if b = 41 ∧ m = 10 then (.pop, fresh) else if b = 41 then (.turn 11, fresh) else (.keep, fresh)
  else if m = 5 then (if b = 34 then (.pop, fresh) else (.keep, fresh))
  else if b = 34 then (.push 5, fresh)
  else if b = 125 then (.pop, fresh)
  else if b = 39 ∧ m = 7 then (.push 4, fresh)
  else (.keep, fresh)
def fin (v : Mv × Bool) (st : List Fr) (p : Nat) : Ms := ⟨v.1.run st p, v.2⟩
def plainF (st : List Fr) (fresh : Bool) (b p : Nat) : Ms :=
  match st with
  | [] => ⟨[], fresh⟩
  | (m, f) :: r => fin (mv m b fresh) ((m, f) :: r) p
/-- The mode of the last frame. -/
def top (st : List Fr) : Nat := match st with
  | [] => 0
  | (m, _) :: _ => m
def brace (m : Nat) : Nat := if m = 5 ∨ m = 8 then 8 else 7
/-- A byte comes. -/
def feed (x : Ms) (b p : Nat) : Ms :=
  match x.st with
  | [] => x
  | (m, f) :: r =>
    if m = 12 then
      if b = 40 then ⟨(3, f) :: r, true⟩
      else if b = 123 then ⟨(brace (top r), f) :: r, x.fresh⟩
      else if b = 36 then ⟨r, x.fresh⟩
      else plainF r x.fresh b p
    else if m = 3 then
      if b = 40 then ⟨(9, f) :: r, false⟩ else plainF ((1, f) :: r) x.fresh b p
    else if m = 11 then
      if b = 41 then ⟨r, x.fresh⟩ else plainF ((9, f) :: r) x.fresh b p
    else plainF ((m, f) :: r) x.fresh b p

/-- May a mode stand under another one? -/
def base (m : Nat) : Bool := decide (m ≠ 3 ∧ m ≠ 4 ∧ m ≠ 11 ∧ m ≠ 12 ∧ m ≠ 13 ∧ m ≠ 14 ∧ m ≤ 14)
def over (m2 m : Nat) : Bool := base m2 && decide (m ≠ 0 ∧ m ≤ 14) && (decide (m ≠ 2) || decide (m2 = 1 ∨ m2 = 2)) && (decide (m ≠ 14) || isProg m2)
/-- Which stacks there are. -/
def good : List Fr → Prop
  | [] => False
  | [(m, _)] => m = 0
  | (m, _) :: (m2, f2) :: r => over m2 m = true ∧ good ((m2, f2) :: r)
/-- When they are fresh. -/
def frOK (st : List Fr) (fresh : Bool) : Prop :=
  (top st = 14 → fresh = true) ∧ (fresh = true → isProg (top st) = true ∨ top st = 3 ∨ top st = 14 ∨ (top st = 13 ∧ isProg (top st.tail) = true))
structure Inv (x : Ms) : Prop where
  good : good x.st
  fr : frOK x.st x.fresh

theorem Inv.start : Inv Ms.start := ⟨rfl, by unfold frOK Ms.start; decide⟩
theorem good_le {m f : Nat} {r : List Fr} (h : good ((m, f) :: r)) : m ≤ 14 := by
  cases r with
  | nil => simp [good] at h; omega
  | cons a r => simp [good, over] at h; omega
theorem good_two {m f m2 f2 : Nat} {r : List Fr} (h : good ((m, f) :: (m2, f2) :: r)) : over m2 m = true ∧ good ((m2, f2) :: r) := h
theorem good_more {m f : Nat} {r : List Fr} (h : good ((m, f) :: r)) (hm : m ≠ 0) : ∃ m2 f2 r2, r = (m2, f2) :: r2 ∧ over m2 m = true ∧ good ((m2, f2) :: r2) := by
  cases r with
  | nil => exact absurd h hm
  | cons a r => exact ⟨a.1, a.2, r, rfl, h⟩
theorem good_zero {f : Nat} {r : List Fr} (h : good ((0, f) :: r)) : r = [] := by
  cases r with
  | nil => rfl
  | cons a r => simp [good, over] at h
theorem over_base {a b : Nat} (h : over a b = true) : base a = true := by
  unfold over at h; simp only [Bool.and_eq_true] at h; exact h.1.1.1
/-- A frame of another mode. -/
theorem good_turn {m f : Nat} {r : List Fr} (h : good ((m, f) :: r)) (hm : m ≠ 0) (n : Nat) (hn : n ≠ 0 ∧ n ≤ 14 ∧ n ≠ 2 ∧ n ≠ 14) (g : Nat) : good ((n, g) :: r) := by
  obtain ⟨m2, f2, r2, rfl, h1, h2⟩ := good_more h hm
  refine ⟨?_, h2⟩
  have := over_base h1
  unfold over
  simp [this, hn]
theorem good_push {m f : Nat} {r : List Fr} (h : good ((m, f) :: r)) (n p : Nat) (ho : over m n = true) : good ((n, p) :: (m, f) :: r) := ⟨ho, h⟩

/-- A byte that comes to a mode that takes it leaves a stack. -/
theorem plain_inv {m f : Nat} {r : List Fr} {fresh : Bool} {b p : Nat} (hg : good ((m, f) :: r)) (hf : frOK ((m, f) :: r) fresh) (h3 : m ≠ 3) (h11 : m ≠ 11) (h12 : m ≠ 12) : Inv (plainF ((m, f) :: r) fresh b p) := by
  have hle := good_le hg
  have htop : top ((m, f) :: r) = m := rfl
  unfold frOK at hf
  rw [htop] at hf
  obtain ⟨hf1, hf2⟩ := hf
  have htl : top ((m, f) :: r).tail = top r := rfl
  rw [htl] at hf2
  clear htl
  have hb : base m = true ∨ m = 13 ∨ m = 4 ∨ m = 14 := by
    unfold base; rw [decide_eq_true_iff]; omega
  -- a new frame
  have push : ∀ n fr, over m n = true → frOK ((n, p) :: (m, f) :: r) fr → Inv ⟨(n, p) :: (m, f) :: r, fr⟩ := fun n fr ho hk => ⟨⟨ho, hg⟩, hk⟩
  have keep : ∀ fr, frOK ((m, f) :: r) fr → Inv ⟨(m, f) :: r, fr⟩ := fun fr hk => ⟨hg, hk⟩
  have pop : ∀ fr, m ≠ 0 → (∀ m2, over m2 m = true → top r = m2 → (fr = true → isProg m2 = true)) → Inv ⟨r, fr⟩ := by
    intro fr hm hk
    obtain ⟨m2, f2, r2, rfl, h1, h2⟩ := good_more hg hm
    refine ⟨h2, ?_, ?_⟩
    · intro e
      have e' : m2 = 14 := e
      subst e'
      have := over_base h1
      simp [base] at this
    · intro e
      exact .inl (hk m2 h1 rfl e)
  show Inv (fin (mv m b fresh) ((m, f) :: r) p)
  unfold mv
  by_cases hP : isProg m = true
  · have hP' : m = 0 ∨ m = 1 ∨ m = 2 := by unfold isProg at hP; simpa using hP
    have hB : base m = true := by unfold base; rw [decide_eq_true_iff]; omega
    rw [if_pos hP]
    have ov : ∀ n, n ≠ 0 → n ≤ 14 → n ≠ 2 → over m n = true := by
      intro n h1 h2 h3
      unfold over
      simp [hB, hP, h1, h2, h3]
    split
    · exact push 13 _ (ov _ (by omega) (by omega) (by omega)) ⟨fun e => by simp [top] at e, fun e => .inr (.inr (.inr ⟨rfl, hP⟩))⟩
    split
    · exact push 4 _ (ov _ (by omega) (by omega) (by omega)) ⟨fun e => by simp [top] at e, fun e => by simp at e⟩
    split
    · exact push 5 _ (ov _ (by omega) (by omega) (by omega)) ⟨fun e => by simp [top] at e, fun e => by simp at e⟩
    split
    · rename_i h
      have ho : opn b = 12 ∨ opn b = 6 := by unfold opn; rcases h with rfl | rfl <;> simp
      exact push (opn b) _ (ov _ (by omega) (by omega) (by omega)) ⟨fun e => by simp [top] at e; omega, fun e => by simp at e⟩
    split
    · rename_i h
      exact push 14 _ (ov _ (by omega) (by omega) (by omega)) ⟨fun e => h.2, fun e => .inr (.inr (.inl rfl))⟩
    split
    · split
      · exact keep _ ⟨fun e => rfl, fun e => .inl hP⟩
      · rename_i hm
        exact push 2 _ (by unfold over; simp [hB]; omega) ⟨fun e => rfl, fun e => .inl rfl⟩
    split
    · split
      · exact keep _ ⟨fun e => rfl, fun e => .inl hP⟩
      · rename_i hm
        refine pop _ hm fun m2 ho _ e => ?_
        have e2 : m = 2 := by simpa using e
        subst e2
        unfold over at ho
        unfold isProg
        simp at ho ⊢
        omega
    · exact keep _ ⟨fun e => by have e' : m = 14 := e; omega, fun e => .inl hP⟩
  · rw [if_neg hP]
    have hP' : ¬ (m = 0 ∨ m = 1 ∨ m = 2) := by unfold isProg at hP; simpa using hP
    by_cases h13 : m = 13
    · rw [if_pos h13]
      refine pop _ (by omega) fun m2 ho ht e => ?_
      have hfr : fresh = true := by
        split at e
        · exact e
        · simp at e
      rcases hf2 hfr with h | h | h | h
      · exact absurd h hP
      · omega
      · omega
      · rw [← ht]; exact h.2
    rw [if_neg h13]
    by_cases h4 : m = 4
    · rw [if_pos h4]
      have hfr : fresh = false := by
        rw [Bool.eq_false_iff]
        intro e
        rcases hf2 e with h | h | h | h
        · exact absurd h hP
        · omega
        · omega
        · omega
      split
      · exact pop _ (by omega) fun m2 ho _ e => by rw [hfr] at e; simp at e
      · exact keep _ ⟨hf1, hf2⟩
    rw [if_neg h4]
    by_cases h14 : m = 14
    · rw [if_pos h14]
      split
      · refine pop _ (by omega) fun m2 ho _ e => ?_
        unfold over at ho
        simp [h14] at ho
        exact ho.2
      · exact keep _ ⟨hf1, hf2⟩
    rw [if_neg h14]
    have hB : base m = true := by unfold base; rw [decide_eq_true_iff]; omega
    have hfr : fresh = false := by
      rw [Bool.eq_false_iff]
      intro e
      rcases hf2 e with h | h | h | h
      · exact absurd h hP
      · omega
      · omega
      · omega
    subst hfr
    have ov : ∀ n, n ≠ 0 → n ≤ 14 → n ≠ 2 → n ≠ 14 → over m n = true := by
      intro n h1 h2 h3 h4
      unfold over
      simp [hB, h1, h2, h3, h4]
    have PUSH : ∀ n, n ≠ 0 → n ≤ 14 → n ≠ 2 → n ≠ 14 → Inv ⟨(n, p) :: (m, f) :: r, false⟩ := fun n h1 h2 h3 h4 => push n false (ov n h1 h2 h3 h4) ⟨fun e => absurd e h4, fun e => by simp at e⟩
    have KEEP : Inv ⟨(m, f) :: r, false⟩ := keep false ⟨hf1, hf2⟩
    have POP : Inv ⟨r, false⟩ := pop false (by omega) fun m2 _ _ e => by simp at e
    have TURN : Inv ⟨(11, f) :: r, false⟩ := ⟨good_turn hg (by omega) 11 (by decide) f, fun e => by simp [top] at e, fun e => by simp at e⟩
    have ho : opn b ≠ 15 → opn b ≠ 0 ∧ opn b ≤ 14 ∧ opn b ≠ 2 ∧ opn b ≠ 14 := by
      intro _
      rcases opn_cases b with e | e | e | e <;> omega
    split
    · split
      · exact POP
      split
      · exact PUSH 13 (by omega) (by omega) (by omega) (by omega)
      · exact KEEP
    split
    · rename_i h
      have := ho h
      exact PUSH _ this.1 this.2.1 this.2.2.1 this.2.2.2
    split
    · split
      · exact PUSH 10 (by omega) (by omega) (by omega) (by omega)
      split
      · exact POP
      split
      · exact TURN
      · exact KEEP
    split
    · split
      · exact POP
      · exact KEEP
    split
    · exact PUSH 5 (by omega) (by omega) (by omega) (by omega)
    split
    · exact POP
    split
    · exact PUSH 4 (by omega) (by omega) (by omega) (by omega)
    · exact KEEP

/-- A byte that comes leaves a stack. -/
theorem feed_inv {x : Ms} (h : Inv x) (b p : Nat) : Inv (feed x b p) := by
  obtain ⟨st, fresh⟩ := x
  obtain ⟨hg, hf⟩ := h
  cases st with
  | nil => exact absurd hg (by simp [good])
  | cons a r =>
    obtain ⟨m, f⟩ := a
    simp only at hg hf
    unfold feed
    simp only
    have hfr : m = 12 ∨ m = 11 → fresh = false := by
      intro hm
      rw [Bool.eq_false_iff]
      intro e
      rcases hf.2 e with h | h | h | h
      · have h' : isProg m = true := h
        unfold isProg at h'
        rw [decide_eq_true_iff] at h'
        omega
      · have h' : m = 3 := h; omega
      · have h' : m = 14 := h; omega
      · have h' : m = 13 := h.1; omega
    by_cases h12 : m = 12
    · rw [if_pos h12]
      have hfr := hfr (.inl h12)
      subst hfr
      split
      · exact ⟨good_turn hg (by omega) 3 (by decide) f, fun e => by simp [top] at e, fun e => .inr (.inl rfl)⟩
      split
      · refine ⟨good_turn hg (by omega) _ (by unfold brace; split <;> decide) f, fun e => ?_, fun e => by simp at e⟩
        have e' : brace (top r) = 14 := e
        unfold brace at e'
        split at e' <;> omega
      obtain ⟨m2, f2, r2, rfl, h1, h2⟩ := good_more hg (by omega)
      have hb := over_base h1
      unfold base at hb
      rw [decide_eq_true_iff] at hb
      have hk : frOK ((m2, f2) :: r2) false := ⟨fun e => by have e' : m2 = 14 := e; omega, fun e => by simp at e⟩
      split
      · exact ⟨h2, hk⟩
      · exact plain_inv h2 hk (by omega) (by omega) (by omega)
    rw [if_neg h12]
    by_cases h3 : m = 3
    · rw [if_pos h3]
      split
      · exact ⟨good_turn hg (by omega) 9 (by decide) f, fun e => by simp [top] at e, fun e => by simp at e⟩
      · exact plain_inv (good_turn hg (by omega) 1 (by decide) f) ⟨fun e => by simp [top] at e, fun e => .inl rfl⟩ (by omega) (by omega) (by omega)
    rw [if_neg h3]
    by_cases h11 : m = 11
    · rw [if_pos h11]
      have hfr := hfr (.inr h11)
      subst hfr
      split
      · obtain ⟨m2, f2, r2, rfl, h1, h2⟩ := good_more hg (by omega)
        have hb := over_base h1
        unfold base at hb
        rw [decide_eq_true_iff] at hb
        exact ⟨h2, fun e => by have e' : m2 = 14 := e; omega, fun e => by simp at e⟩
      · exact plain_inv (good_turn hg (by omega) 9 (by decide) f) ⟨fun e => by simp [top] at e, fun e => by simp at e⟩ (by omega) (by omega) (by omega)
    rw [if_neg h11]
    exact plain_inv hg hf h3 h11 h12
end Go.Proofs.YtiklnlkakhghdaaGreatDoor

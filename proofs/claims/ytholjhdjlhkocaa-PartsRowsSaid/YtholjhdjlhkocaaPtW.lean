/- The plain facts on the rows of bytes of one part. No condition: nothing here speaks of the program. -/
import Derived.Test.YtholjhdjlhkocaaPtU
import Derived.Test.YtholjhdjlhkocaaPtLb0
namespace Go.Proofs.Ytholjhdjlhkocaa
open Go.RowKit
set_option linter.unusedVariables false

/-- The number of a byte's part, so far as the first k tell. -/
def byI (s : ByteArray) (a : Nat) : Nat → Int
  | 0 => -1
  | k + 1 => match (PL s)[k]? with
    | none => byI s a k
    | some p => if p.frm ≤ a ∧ a < p.to then (k : Nat) else byI s a k
def byP (s : ByteArray) (a : Nat) : Int := byI s a (PL s).length
theorem byI_succ {s : ByteArray} {a k : Nat} {p : Prt} (h : (PL s)[k]? = some p) : byI s a (k + 1) = if p.frm ≤ a ∧ a < p.to then ((k : Nat) : Int) else byI s a k := by
  show (match (PL s)[k]? with
    | none => byI s a k
    | some p => if p.frm ≤ a ∧ a < p.to then ((k : Nat) : Int) else byI s a k) = _
  rw [h]
theorem byI_none {s : ByteArray} {a k : Nat} (h : (PL s)[k]? = none) : byI s a (k + 1) = byI s a k := by
  show (match (PL s)[k]? with
    | none => byI s a k
    | some p => if p.frm ≤ a ∧ a < p.to then ((k : Nat) : Int) else byI s a k) = _
  rw [h]
theorem byI_lo {s : ByteArray} {a : Nat} : ∀ k, -1 ≤ byI s a k ∧ byI s a k < (k : Nat)
  | 0 => ⟨by show (-1 : Int) ≤ -1; omega, by show (-1 : Int) < _; omega⟩
  | k + 1 => by
    have ih := byI_lo (s := s) (a := a) k
    cases h : (PL s)[k]? with
    | none => rw [byI_none h]; omega
    | some p =>
      rw [byI_succ h]
      split <;> omega
theorem byI_holds {s : ByteArray} {a : Nat} : ∀ {k j : Nat}, byI s a k = (j : Nat) → ∃ p, (PL s)[j]? = some p ∧ p.frm ≤ a ∧ a < p.to
  | 0, j, h => by have : (-1 : Int) = (j : Nat) := h; omega
  | k + 1, j, h => by
    cases hp : (PL s)[k]? with
    | none => rw [byI_none hp] at h; exact byI_holds h
    | some p =>
      rw [byI_succ hp] at h
      by_cases e : p.frm ≤ a ∧ a < p.to
      · rw [if_pos e] at h
        obtain rfl : k = j := by omega
        exact ⟨p, hp, e⟩
      · rw [if_neg e] at h
        exact byI_holds h
theorem byI_skip {s : ByteArray} {a j : Nat} : ∀ {k : Nat}, j ≤ k → (∀ i p, j ≤ i → i < k → (PL s)[i]? = some p → ¬ (p.frm ≤ a ∧ a < p.to)) → byI s a k = byI s a j
  | 0, h, _ => by obtain rfl : j = 0 := by omega
                  rfl
  | k + 1, h, hn => by
    rcases Nat.eq_or_lt_of_le h with e | e
    · rw [e]
    · have ih := byI_skip (k := k) (by omega) (fun i p h1 h2 h3 => hn i p h1 (by omega) h3)
      cases hp : (PL s)[k]? with
      | none => rw [byI_none hp]; exact ih
      | some p => rw [byI_succ hp, if_neg (hn k p (by omega) (by omega) hp)]; exact ih
theorem byI_hit {s : ByteArray} {a j : Nat} {p : Prt} (h : (PL s)[j]? = some p) (h1 : p.frm ≤ a) (h2 : a < p.to) : byI s a (j + 1) = (j : Nat) := by rw [byI_succ h, if_pos ⟨h1, h2⟩]
theorem PL_inc {s : ByteArray} {i j : Nat} {p q : Prt} (hp : (PL s)[i]? = some p) (hq : (PL s)[j]? = some q) (h : i < j) : p.frm < q.frm := by
  obtain ⟨f, hf, _, _, _, e, _, _⟩ := PL_get hp
  obtain ⟨g, hg, _, _, _, e2, _, _⟩ := PL_get hq
  rw [e, e2]
  obtain ⟨h1, _, hb1⟩ := idx_get hf
  obtain ⟨h2, _, hb2⟩ := idx_get hg
  apply Classical.byContradiction
  intro gg
  rcases Nat.eq_or_lt_of_le (Nat.le_of_not_lt gg) with e | e
  · rw [e] at h2; omega
  · have := idx_mono hb2 e; omega
theorem PL_gt {s : ByteArray} {i : Nat} {p : Prt} (hp : (PL s)[i]? = some p) : p.frm < p.to ∧ p.to ≤ s.size := by
  obtain ⟨f, hf, rfl, h1, h2, e, h3, _⟩ := PL_get hp
  rw [prt_frm]
  exact ⟨to_gt h2 h1, h3⟩
theorem lastU_lo {s : ByteArray} {f : Nat} : ∀ k, -1 ≤ lastU s f k ∧ lastU s f k < (k : Nat)
  | 0 => ⟨by show (-1 : Int) ≤ -1; omega, by show (-1 : Int) < _; omega⟩
  | k + 1 => by
    have ih := lastU_lo (s := s) (f := f) k
    show -1 ≤ (if f < (prt s ((bornL s s.size)[k]?.getD 0)).to then ((k : Nat) : Int) else lastU s f k) ∧ (if f < (prt s ((bornL s s.size)[k]?.getD 0)).to then ((k : Nat) : Int) else lastU s f k) < _
    split <;> omega
theorem lastU_gap {s : ByteArray} {f : Nat} : ∀ {k j : Nat}, lastU s f k < (j : Nat) → j < k → ¬ f < (prt s ((bornL s s.size)[j]?.getD 0)).to
  | 0, j, _, h => by omega
  | k + 1, j, h, hj => by
    have e : lastU s f (k + 1) = (if f < (prt s ((bornL s s.size)[k]?.getD 0)).to then ((k : Nat) : Int) else lastU s f k) := rfl
    rw [e] at h
    by_cases c : f < (prt s ((bornL s s.size)[k]?.getD 0)).to
    · rw [if_pos c] at h; omega
    · rw [if_neg c] at h
      rcases Nat.eq_or_lt_of_le (Nat.le_of_lt_succ hj) with e | e
      · rw [e]; exact c
      · exact lastU_gap h e
/-- The part around a part: the last one ahead of it that goes beyond its beginning. -/
theorem PL_up {s : ByteArray} {i : Nat} {p : Prt} (hp : (PL s)[i]? = some p) : -1 ≤ p.up ∧ p.up < (i : Nat) ∧ ∀ j q, p.up < (j : Nat) → j < i → (PL s)[j]? = some q → q.to ≤ p.frm := by
  obtain ⟨f, hf, rfl, h1, h2, e, h3, _⟩ := PL_get hp
  obtain ⟨hi, _, _⟩ := idx_get hf
  have hu : (prt s f).up = lastU s f i := by rw [prt_up, ← lastU_up h2 h1, hi]
  rw [hu]
  refine ⟨(lastU_lo i).1, (lastU_lo i).2, fun j q hj hji hq => ?_⟩
  obtain ⟨g, hg, rfl, _⟩ := PL_get hq
  have := lastU_gap hj hji
  rw [hg, Option.getD_some] at this
  rw [prt_frm]
  omega
/-- What has ended at a place is left for the part around it. -/
theorem hold_step {s : ByteArray} {v a : Nat} {p : Prt} (hp : (PL s)[v]? = some p) (h1 : p.frm ≤ a) (h2 : ¬ a < p.to) : byI s a (v + 1) = byI s a (p.up + 1).toNat := by
  obtain ⟨u1, u2, u3⟩ := PL_up hp
  refine byI_skip (by omega) (fun i q hi hiv hq h => ?_)
  rcases Nat.eq_or_lt_of_le (Nat.le_of_lt_succ hiv) with e | e
  · rw [e, hp] at hq
    cases hq
    exact h2 h.2
  · have := u3 i q (by omega) e hq
    omega

/-- Where the rows' walk stands ahead of a place .. -/
structure RI (s : ByteArray) (part : Int) (begun frm : Nat) : Prop where
  lo : -1 ≤ part
  hi : part < (begun : Nat)
  le : begun ≤ (PL s).length
  old : ∀ i p, i < begun → (PL s)[i]? = some p → p.frm < frm
  new : ∀ p, (PL s)[begun]? = some p → frm ≤ p.frm
  gap : ∀ (i : Nat) p, part < (i : Nat) → i < begun → (PL s)[i]? = some p → p.to ≤ frm
/-- .. and where one that begins there is counted. -/
structure RJ (s : ByteArray) (part : Int) (begun frm : Nat) : Prop where
  lo : -1 ≤ part
  hi : part < (begun : Nat)
  le : begun ≤ (PL s).length
  old : ∀ i p, i < begun → (PL s)[i]? = some p → p.frm ≤ frm
  new : ∀ p, (PL s)[begun]? = some p → frm < p.frm
  gap : ∀ (i : Nat) p, part < (i : Nat) → i < begun → (PL s)[i]? = some p → p.to ≤ frm
theorem RI.start (s : ByteArray) : RI s (-1) 0 0 := ⟨by omega, by omega, Nat.zero_le _, fun i p h => by omega, fun p _ => Nat.zero_le _, fun i p _ h => by omega⟩
theorem RI.begins {s : ByteArray} {part : Int} {b f : Nat} (h : RI s part b f) {p : Prt} (hp : (PL s)[b]? = some p) (he : p.frm = f) : RJ s (b : Nat) (b + 1) f := by
  have hb := (List.getElem?_eq_some_iff.1 hp).1
  refine ⟨by omega, by omega, by omega, fun i q hi hq => ?_, fun q hq => ?_, fun i q h1 h2 _ => by omega⟩
  · rcases Nat.eq_or_lt_of_le (Nat.le_of_lt_succ hi) with e | e
    · rw [e, hp] at hq; cases hq; omega
    · have := h.old i q e hq; omega
  · have := PL_inc hp hq (by omega); omega
theorem RI.goes {s : ByteArray} {part : Int} {b f : Nat} (h : RI s part b f) (hn : ∀ p, (PL s)[b]? = some p → ¬ p.frm = f) : RJ s part b f :=
  ⟨h.lo, h.hi, h.le, fun i p hi hp => Nat.le_of_lt (h.old i p hi hp), fun p hp => by have := h.new p hp; have := hn p hp; omega, h.gap⟩
/-- No part from begun on is a byte's, where they all begin behind it. -/
theorem byP_begun {s : ByteArray} {b a : Nat} (hb : b ≤ (PL s).length) (hn : ∀ p, (PL s)[b]? = some p → a < p.frm) : byP s a = byI s a b := by
  refine byI_skip hb (fun i p h1 h2 hp h => ?_)
  rcases Nat.eq_or_lt_of_le h1 with e | e
  · subst e; have := hn p hp; omega
  · have hbl : b < (PL s).length := by omega
    have h3 := hn _ (List.getElem?_eq_getElem hbl)
    have h4 := PL_inc (List.getElem?_eq_getElem hbl) hp e
    omega
theorem RJ.byte {s : ByteArray} {part : Int} {b f : Nat} (h : RJ s part b f) : byP s f = byI s f (part + 1).toNat := by
  rw [byP_begun h.le h.new]
  have h1 := h.lo
  have h2 := h.hi
  refine byI_skip (by omega) (fun i p hi hib hp hh => ?_)
  have := h.gap i p (by omega) hib hp
  omega
/-- A row: from its beginning to its end all bytes are of one part, the next one isn't. -/
theorem RJ.row {s : ByteArray} {part : Int} {b f t : Nat} (h : RJ s part b f) (hf : f < s.size)
    (ht : (t : Int) = (match (PL s)[b]? with | none => id | some q => fun x : Int => min x (q.frm : Nat)) (if byP s f < 0 then (s.size : Int) else match (PL s)[(byP s f).toNat]? with | none => (s.size : Int) | some p => (p.to : Nat))) :
    f < t ∧ t ≤ s.size ∧ (∀ a, f ≤ a → a < t → byP s a = byP s f) ∧ (t < s.size → byP s t ≠ byP s f) ∧ RI s (byP s f) b t := by
  obtain ⟨P, hP⟩ : ∃ P, byP s f = P := ⟨_, rfl⟩
  have hlo := byI_lo (s := s) (a := f) b
  have hb0 := byP_begun h.le h.new
  rw [← hb0, hP] at hlo
  -- what ends the row, whatever it is
  have hcore : ∃ m : Nat, (m ≤ s.size ∧ f < m ∧ (P < 0 → m = s.size) ∧ ∀ p, (PL s)[P.toNat]? = some p → 0 ≤ P → p.frm ≤ f ∧ p.to = m) ∧ (t : Int) = (match (PL s)[b]? with | none => id | some q => fun x : Int => min x (q.frm : Nat)) (m : Int) := by
    rw [hP] at ht
    by_cases hp : P < 0
    · rw [if_pos hp] at ht
      exact ⟨s.size, ⟨Nat.le_refl _, hf, fun _ => rfl, fun p _ h => by omega⟩, ht⟩
    · rw [if_neg hp] at ht
      obtain ⟨j, rfl⟩ : ∃ j : Nat, P = (j : Nat) := ⟨P.toNat, by omega⟩
      obtain ⟨p, hp1, hp2, hp3⟩ := byI_holds (hb0.symm.trans hP)
      rw [Int.toNat_natCast, hp1] at ht
      exact ⟨p.to, ⟨(PL_gt hp1).2, hp3, fun h => by omega, fun q hq _ => by rw [Int.toNat_natCast, hp1] at hq; cases hq; exact ⟨hp2, rfl⟩⟩, ht⟩
  obtain ⟨m, ⟨hm1, hm2, hm3, hm4⟩, htm⟩ := hcore
  have htt : f < t ∧ t ≤ m ∧ (∀ q, (PL s)[b]? = some q → t ≤ q.frm) ∧ (t = m ∨ ∃ q, (PL s)[b]? = some q ∧ t = q.frm) := by
    cases hq : (PL s)[b]? with
    | none =>
      rw [hq] at htm
      have e : (t : Int) = (m : Int) := htm
      obtain rfl : m = t := by omega
      exact ⟨hm2, Nat.le_refl _, (fun q h => by cases h), .inl rfl⟩
    | some q =>
      rw [hq] at htm
      have e : (t : Int) = min (m : Int) (q.frm : Nat) := htm
      have h1 := h.new q hq
      refine ⟨by omega, by omega, (fun q' h' => by cases h'; omega), ?_⟩
      rcases Int.le_total (m : Int) (q.frm : Nat) with g | g
      · left; omega
      · exact .inr ⟨q, rfl, by omega⟩
  obtain ⟨ht1, ht2, ht3, ht4⟩ := htt
  have hgap : ∀ (i : Nat) p, P < (i : Nat) → i < b → (PL s)[i]? = some p → p.to ≤ f := by
    intro i p h1 h2 hp
    have h3 := h.old i p h2 hp
    apply Classical.byContradiction
    intro hc
    have h4 : byI s f b = byI s f b := rfl
    have h5 : (i : Int) ≤ byI s f b := by
      have : ∀ k, i < k → (i : Int) ≤ byI s f k := by
        intro k
        induction k with
        | zero => intro h; omega
        | succ k ih =>
          intro hk
          rcases Nat.eq_or_lt_of_le (Nat.le_of_lt_succ hk) with e | e
          · subst e; rw [byI_hit hp h3 (by omega)]; exact Int.le_refl _
          · have := ih e
            cases hq : (PL s)[k]? with
            | none => rw [byI_none hq]; exact this
            | some q => rw [byI_succ hq]; split <;> omega
      exact this b h2
    rw [← hb0, hP] at h5
    omega
  have hsame : ∀ a, f ≤ a → a < t → byP s a = P := by
    intro a h1 h2
    rw [byP_begun h.le (fun q hq => by have := ht3 q hq; omega)]
    by_cases hp : P < 0
    · obtain rfl : P = -1 := by omega
      exact byI_skip (j := 0) (Nat.zero_le _) (fun i p _ hi hpi hh => by have := hgap i p (by omega) hi hpi; omega)
    · obtain ⟨j, rfl⟩ : ∃ j : Nat, P = (j : Nat) := ⟨P.toNat, by omega⟩
      obtain ⟨p, hp1, hp2, hp3⟩ := byI_holds (hb0.symm.trans hP)
      have h4 := hm4 p (by rw [Int.toNat_natCast]; exact hp1) (by omega)
      rw [byI_skip (j := j + 1) (by omega) (fun i q hi hib hq hh => by have := hgap i q (by omega) hib hq; omega)]
      exact byI_hit hp1 (by omega) (by omega)
  refine ⟨ht1, by omega, fun a h1 h2 => (hsame a h1 h2).trans hP.symm, fun hts he => ?_, ?_⟩
  · rw [hP] at he
    rcases ht4 with e | ⟨q, hq, e⟩
    · by_cases hp : P < 0
      · have := hm3 hp; omega
      · obtain ⟨j, rfl⟩ : ∃ j : Nat, P = (j : Nat) := ⟨P.toNat, by omega⟩
        obtain ⟨p, hp1, hp2, hp3⟩ := byI_holds he
        have h4 := hm4 p (by rw [Int.toNat_natCast]; exact hp1) (by omega)
        omega
    · have h1 : (b : Int) ≤ byP s t := by
        have hbl := (List.getElem?_eq_some_iff.1 hq).1
        have : ∀ k, b < k → (b : Int) ≤ byI s t k := by
          intro k
          induction k with
          | zero => intro h; omega
          | succ k ih =>
            intro hk
            rcases Nat.eq_or_lt_of_le (Nat.le_of_lt_succ hk) with e2 | e2
            · subst e2; rw [byI_hit hq (by omega) (by have := (PL_gt hq).1; omega)]; exact Int.le_refl _
            · have := ih e2
              cases hq2 : (PL s)[k]? with
              | none => rw [byI_none hq2]; exact this
              | some q2 => rw [byI_succ hq2]; split <;> omega
        exact this _ hbl
      omega
  · rw [hP]
    refine ⟨hlo.1, hlo.2, h.le, fun i p hi hp => by have := h.old i p hi hp; omega, ht3, fun i p h1 h2 hp => by have := hgap i p h1 h2 hp; omega⟩

/-- A row of bytes of one part: its number, where it begins and ends. -/
structure PRn where
  c : Int
  f : Nat
  t : Nat
/-- These rows tile the text's first k bytes. -/
inductive PTil (s : ByteArray) : List PRn → Nat → Prop
  | nil : PTil s [] 0
  | snoc {l : List PRn} {a t : Nat} : PTil s l a → a < t → t ≤ s.size → (∀ b, a ≤ b → b < t → byP s b = byP s a) → (t < s.size → byP s t ≠ byP s a) → PTil s (l ++ [⟨byP s a, a, t⟩]) t
theorem PTil.le {s : ByteArray} {l : List PRn} {k : Nat} (h : PTil s l k) : k ≤ s.size := by
  induction h with
  | nil => exact Nat.zero_le _
  | snoc _ _ h _ _ _ => exact h
theorem PTil.len {s : ByteArray} {l : List PRn} {k : Nat} (h : PTil s l k) : l.length ≤ k := by
  induction h with
  | nil => exact Nat.le_refl _
  | snoc _ h _ _ _ ih => simp; omega
end Go.Proofs.Ytholjhdjlhkocaa

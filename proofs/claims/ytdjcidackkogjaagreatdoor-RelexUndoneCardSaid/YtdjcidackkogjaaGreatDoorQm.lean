/- What the document's own Double of layer 8 (literal) returns. Condition: texts of at most 60,000 bytes.
What the document's own Pieces of layer 8 (literal) returns. Condition: texts of at most 60,000 bytes. -/
import Derived.Test.YtdjcidackkogjaaGreatDoorLtR
namespace Go.Proofs.YtdjcidackkogjaaGreatDoor
open Go.RowKit
set_option linter.unusedVariables false

structure DbI (s : ByteArray) (f a : Nat) (A : List Pc) (h : ByteArray) : Prop where
  dq : DqR s f a
  le : a ≤ s.size
  eq : DB s (f + 1) (insT (prt s f)) = A ++ Rm s true (subD s) (insT (prt s f)) a h A.isEmpty
  hz : h.size ≤ a
  az : A.length ≤ 2 * a
section
variable {s : ByteArray} {f : Nat} (hf : f < s.size) (hb : born s f = true) (hm : (prt s f).mode = 5)
include hf hb hm
theorem DbI.start : DbI s f (f + 1) [] ByteArray.empty := by
  obtain ⟨h1, h2, h3, _⟩ := dq_facts hf hb hm
  exact ⟨h3, by omega, rfl, Nat.zero_le _, Nat.zero_le _⟩
theorem DbI.lt {a : Nat} {A : List Pc} {h : ByteArray} (I : DbI s f a A h) (ha : a < insT (prt s f)) : a < s.size := by
  have := (dq_facts hf hb hm).1
  omega
variable {a : Nat} {A : List Pc} {h : ByteArray} (I : DbI s f a A h) (ha : a < insT (prt s f))
include I ha
theorem DbI.plain (hB : born s a = false) : DbI s f (a + 1) A (h ++ s.extract a (a + 1)) := by
  have hl := I.lt hf hb hm ha
  refine ⟨(dq_next hf hb hm).1 a I.dq ha hB, by omega, ?_, ?_, by have := I.az; omega⟩
  · rw [I.eq, Rm_plain (dq_facts hf hb hm).1 ha hB]
  · rw [ByteArray.size_append, ext_size (by omega)]
    have := I.hz
    omega
theorem DbI.sub (hB : born s a = true) (ht : itself s (prt s a) true = none) : DbI s f (prt s a).to (A ++ fl true h false ++ [⟨true, true, s.extract a (prt s a).to⟩]) ByteArray.empty := by
  have hl := I.lt hf hb hm ha
  have hg := to_gt hB hl
  refine ⟨((dq_next hf hb hm).2 a I.dq ha hB).1, (prt_le hl hB).1, ?_, Nat.zero_le _, ?_⟩
  · rw [I.eq, Rm_sub (dq_facts hf hb hm).1 ha hB ht]
    have : (A ++ fl true h false ++ [(⟨true, true, s.extract a (prt s a).to⟩ : Pc)]).isEmpty = false := by
      rw [List.isEmpty_eq_false_iff]
      simp
    rw [this, List.append_assoc, List.append_assoc]
    rfl
  · have := I.az
    rw [List.length_append, List.length_append]
    have : (fl true h false).length ≤ 1 := by unfold fl; split <;> simp
    simp only [List.length_cons, List.length_nil]
    omega
end
end Go.Proofs.YtdjcidackkogjaaGreatDoor
namespace Go.Proofs.YtdjcidackkogjaaGreatDoor
open Go.RowKit
set_option linter.unusedVariables false

theorem fl_len (dbl : Bool) (h : ByteArray) (w : Bool) : (fl dbl h w).length ≤ 1 := by unfold fl; split <;> simp
theorem rm_len {s : ByteArray} {dbl : Bool} {sub : Nat → List Pc} {e E : Nat} {Rch : Nat → Prop} (he : e ≤ s.size) (heE : e ≤ E) (hR1 : ∀ a, Rch a → a < e → born s a = false → Rch (a + 1)) (hR2 : ∀ a, Rch a → a < e → born s a = true → Rch (prt s a).to ∧ (prt s a).to ≤ E)
    (hsub : ∀ a, Rch a → a < e → born s a = true → (sub a).length + 1 ≤ 2 * ((prt s a).to - a)) : ∀ (k a : Nat) (h : ByteArray) (w : Bool), Rch a → a ≤ E → (rm s dbl sub e k a h w).length ≤ 2 * (E - a) + 1
  | 0, a, h, w, _, _ => by unfold rm; have := fl_len dbl h w; omega
  | k + 1, a, h, w, hr, ha => by
    unfold rm
    by_cases hae : a < e
    · rw [if_pos hae]
      by_cases hb : born s a = true
      · rw [if_pos hb]
        have hg := to_gt hb (by omega)
        obtain ⟨r1, r2⟩ := hR2 a hr hae hb
        cases hi : itself s (prt s a) dbl with
        | some t =>
          have := rm_len (dbl := dbl) he heE hR1 hR2 hsub k _ (h ++ t) w r1 r2
          simp only
          omega
        | none =>
          have h1 := hsub a hr hae hb
          have := rm_len (dbl := dbl) he heE hR1 hR2 hsub k _ ByteArray.empty false r1 r2
          have h2 := fl_len dbl h false
          simp only
          rw [List.length_append, List.length_append]
          omega
      · rw [if_neg hb]
        have := rm_len (dbl := dbl) he heE hR1 hR2 hsub k _ (h ++ s.extract a (a + 1)) w (hR1 a hr hae (by simpa using hb)) (by omega)
        omega
    · rw [if_neg hae]; have := fl_len dbl h w; omega
theorem DB_len {s : ByteArray} {f : Nat} (hf : f < s.size) (hb : born s f = true) (hm : (prt s f).mode = 5) : (DB s (f + 1) (insT (prt s f))).length + 1 ≤ 2 * ((prt s f).to - f) := by
  obtain ⟨h1, h2, h3, hin⟩ := dq_facts hf hb hm
  have hto := to_gt hb hf
  obtain ⟨n1, n2⟩ := dq_next hf hb hm
  have := rm_len (s := s) (dbl := true) (sub := subD s) (e := insT (prt s f)) (E := (prt s f).to) (Rch := DqR s f) h1 h2 n1 n2 (fun a hr hlt hbn => by
    have := to_gt hbn (by omega)
    unfold subD
    simp
    omega) (insT (prt s f) - (f + 1)) (f + 1) ByteArray.empty true h3 (by omega)
  unfold DB Rm
  omega
theorem subT_len {s : ByteArray} {f : Nat} (hf : f < s.size) (hb : born s f = true) : (subT s f).length + 1 ≤ 2 * ((prt s f).to - f) := by
  have hto := to_gt hb hf
  unfold subT
  split
  · rename_i h5; exact DB_len hf hb h5
  · split <;> (simp; omega)
structure PiI (s : ByteArray) (a : Nat) (pre : List Pc) (h : ByteArray) : Prop where
  le : a ≤ s.size
  eq : PCs s = pre ++ Rm s false (subT s) s.size a h false
  hz : h.size ≤ a
  az : pre.length + 1 ≤ 2 * a + 1
theorem PiI.start (s : ByteArray) : PiI s 0 [] ByteArray.empty := ⟨Nat.zero_le _, rfl, Nat.le_refl _, Nat.le_refl _⟩
section
variable {s : ByteArray} {a : Nat} {pre : List Pc} {h : ByteArray} (I : PiI s a pre h) (ha : a < s.size)
include I ha
theorem PiI.plain (hB : born s a = false) : PiI s (a + 1) pre (h ++ s.extract a (a + 1)) := by
  refine ⟨by omega, ?_, ?_, by have := I.az; omega⟩
  · rw [I.eq, Rm_plain (Nat.le_refl _) ha hB]
  · rw [ByteArray.size_append, ext_size (by omega)]
    have := I.hz
    omega
theorem PiI.sub (hB : born s a = true) (ht : itself s (prt s a) false = none) : PiI s (prt s a).to (pre ++ fl false h false ++ subT s a) ByteArray.empty := by
  have hg := to_gt hB ha
  refine ⟨(prt_le ha hB).1, ?_, Nat.zero_le _, ?_⟩
  · rw [I.eq, Rm_sub (Nat.le_refl _) ha hB ht, List.append_assoc, List.append_assoc]
  · rw [List.length_append, List.length_append]
    have h1 := fl_len false h false
    have h2 := subT_len ha hB
    have := I.az
    omega
end
def PiA (pre : List Pc) (h : ByteArray) : List Pc := pre ++ fl false h false
theorem PiA.empty (pre : List Pc) : PiA pre ByteArray.empty = pre := by unfold PiA; rw [fl_empty, List.append_nil]
theorem PiA.zero {pre : List Pc} {h : ByteArray} (hz : h.size = 0) : PiA pre h = pre := by
  unfold PiA fl
  rw [if_pos ⟨hz, rfl⟩, List.append_nil]
theorem PiA.more {pre : List Pc} {h : ByteArray} (hz : h.size ≠ 0) : PiA pre h = pre ++ [⟨false, false, h⟩] := by
  unfold PiA fl
  rw [if_neg (fun g => hz g.1)]
theorem PiA.len (pre : List Pc) (h : ByteArray) : (PiA pre h).length ≤ pre.length + 1 := by
  unfold PiA
  rw [List.length_append]
  have := fl_len false h false
  omega
end Go.Proofs.YtdjcidackkogjaaGreatDoor

/- The plain facts on byte strings that the walks of layer 1 (edit) rest on: when an edit fits, what is wrong with it, the text behind it. No condition: nothing here speaks of the program. -/
import Derived.WalkKit
import Derived.IntWalk
namespace Go.Proofs.Ytholjhdjlhkocaa
open Go.RowKit
set_option linter.unusedVariables false

theorem bs_eqb (s t : ByteArray) : (s.toList == t.toList) = decide (s = t) := by
  rw [Bool.eq_iff_iff, beq_iff_eq, Go.ByteArray.toList_eq, Go.ByteArray.toList_eq, decide_eq_true_iff]
  constructor
  · intro h
    apply ByteArray.ext
    exact Array.toList_inj.1 h
  · intro h
    rw [h]

/-- The bytes d stand in s at the place k. -/
def fits (s : ByteArray) (k : Nat) (d : ByteArray) : Prop := k + d.size ≤ s.size ∧ s.extract k (k + d.size) = d
instance (s : ByteArray) (k : Nat) (d : ByteArray) : Decidable (fits s k d) := by unfold fits; infer_instance
def hpB (s t : ByteArray) : Bool := decide (t.size ≤ s.size ∧ s.extract 0 t.size = t)
theorem fits_hp (s d : ByteArray) (k : Nat) (h : k ≤ s.size) : hpB (s.extract k s.size) d = decide (fits s k d) := by
  unfold hpB fits
  congr 1
  have e1 : (s.extract k s.size).size = s.size - k := by simp
  have e2 : d.size ≤ s.size - k → (s.extract k s.size).extract 0 d.size = s.extract k (k + d.size) := by
    intro hd
    rw [ByteArray.extract_extract]
    congr 1
    omega
  rw [e1]
  apply propext
  constructor
  · rintro ⟨a, b⟩
    rw [e2 a] at b
    exact ⟨by omega, b⟩
  · rintro ⟨a, b⟩
    have a' : d.size ≤ s.size - k := by omega
    exact ⟨a', by rw [e2 a']; exact b⟩

/-- What is wrong with an edit: 1: its bytes don't stand there; 2: the text would be too long; 0: nothing. -/
def wrongN (s : ByteArray) (a : Int) (d n : ByteArray) : Int :=
  if a < 0 ∨ (s.size : Int) < a ∨ ¬ fits s a.toNat d then 1 else if (1048576 : Int) < (s.size : Int) - d.size + n.size then 2 else 0
/-- The text behind an edit that goes. -/
def doB (s : ByteArray) (k : Nat) (d n : ByteArray) : ByteArray := s.extract 0 k ++ n ++ s.extract (k + d.size) s.size

theorem wrongN_cases (s : ByteArray) (a : Int) (d n : ByteArray) : wrongN s a d n = 0 ∨ wrongN s a d n = 1 ∨ wrongN s a d n = 2 := by
  unfold wrongN
  split
  · exact .inr (.inl rfl)
  · split
    · exact .inr (.inr rfl)
    · exact .inl rfl
theorem wrongN_0 {s d n : ByteArray} {a : Int} (h : wrongN s a d n = 0) : 0 ≤ a ∧ a ≤ s.size ∧ fits s a.toNat d ∧ (s.size : Int) - d.size + n.size ≤ 1048576 := by
  unfold wrongN at h
  split at h
  · omega
  · rename_i h1
    split at h
    · omega
    · simp only [not_or, Classical.not_not] at h1
      exact ⟨by omega, by omega, h1.2.2, by omega⟩
theorem wrongN_mk0 {s d n : ByteArray} {a : Int} (h0 : 0 ≤ a) (h1 : a ≤ s.size) (h2 : fits s a.toNat d) (h3 : (s.size : Int) - d.size + n.size ≤ 1048576) : wrongN s a d n = 0 := by
  unfold wrongN
  rw [if_neg (by simp only [not_or, Classical.not_not]; exact ⟨by omega, by omega, h2⟩), if_neg (by omega)]
theorem wrongN_2 {s d n : ByteArray} {a : Int} (h0 : 0 ≤ a) (h1 : a ≤ s.size) (h2 : fits s a.toNat d) (h3 : (1048576 : Int) < (s.size : Int) - d.size + n.size) : wrongN s a d n = 2 := by
  unfold wrongN
  rw [if_neg (by simp only [not_or, Classical.not_not]; exact ⟨by omega, by omega, h2⟩), if_pos h3]
theorem fits_le {s d : ByteArray} {k : Nat} (h : fits s k d) : k + d.size ≤ s.size := h.1
theorem doB_size {s d n : ByteArray} {k : Nat} (h : k + d.size ≤ s.size) : (doB s k d n).size = s.size - d.size + n.size := by
  unfold doB
  simp
  omega

/-- The inverse brings the text again. -/
theorem extract_split (s : ByteArray) (i j k : Nat) (h1 : i ≤ j) (h2 : j ≤ k) : s.extract i j ++ s.extract j k = s.extract i k := by
  apply ByteArray.ext
  simp only [ByteArray.data_append, ByteArray.data_extract]
  rw [Array.extract_append_extract]
  congr 1
  · omega
  · omega

end Go.Proofs.Ytholjhdjlhkocaa

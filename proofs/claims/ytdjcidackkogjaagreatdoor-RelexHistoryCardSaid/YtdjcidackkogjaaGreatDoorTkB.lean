/- What the document's own Text and At of layer 5 return, in a seat of token's. Condition: texts of at most a million bytes; a place within, or the text's end. -/
import Derived.Test.YtdjcidackkogjaaGreatDoorTkA
namespace Go.Proofs.YtdjcidackkogjaaGreatDoor
open Go.RowKit
set_option linter.unusedVariables false

def Best (s : ByteArray) (k o b : Nat) : Prop :=
  (b = 0 ∧ ∀ i ∈ ops, i < o → ¬ fits s k (txt i)) ∨ (b ∈ ops ∧ fits s k (txt b) ∧ ∀ i ∈ ops, i < o → fits s k (txt i) → (txt i).size ≤ (txt b).size)
theorem Best.keep {s : ByteArray} {k o b : Nat} (h : Best s k o b) (hn : fits s k (txt o) → (txt o).size ≤ (txt b).size) (ho : o ∈ ops) : Best s k (o + 1) b := by
  rcases h with ⟨h1, h2⟩ | ⟨h1, h2, h3⟩
  · refine .inl ⟨h1, fun i hi hlt hf => ?_⟩
    by_cases g : i = o
    · subst g
      have := hn hf
      rw [h1] at this
      have h0 : (txt 0).size = 0 := rfl
      have := txt_size_in ho
      omega
    · exact h2 i hi (by omega) hf
  · refine .inr ⟨h1, h2, fun i hi hlt hf => ?_⟩
    by_cases g : i = o
    · rw [g] at hf ⊢; exact hn hf
    · exact h3 i hi (by omega) hf
theorem Best.take {s : ByteArray} {k o b : Nat} (h : Best s k o b) (hf : fits s k (txt o)) (hlt : (txt b).size < (txt o).size) (ho : o ∈ ops) : Best s k (o + 1) o := by
  refine .inr ⟨ho, hf, fun i hi hi2 hfi => ?_⟩
  by_cases g : i = o
  · rw [g]; exact Nat.le_refl _
  · rcases h with ⟨h1, h2⟩ | ⟨h1, h2, h3⟩
    · exact absurd hfi (h2 i hi (by omega))
    · exact Nat.le_trans (h3 i hi (by omega) hfi) (Nat.le_of_lt hlt)
theorem Best.done {s : ByteArray} {k b : Nat} (h : Best s k 18 b) : opN s k = b := by
  refine opN_eq ?_
  rcases h with ⟨h1, h2⟩ | ⟨h1, h2, h3⟩
  · exact .inl ⟨h1, fun i hi => h2 i hi (by have := (mem_ops.1 hi).2; omega)⟩
  · exact .inr ⟨h1, h2, fun i hi => h3 i hi (by have := (mem_ops.1 hi).2; omega)⟩
theorem Best.le {s : ByteArray} {k o b : Nat} (h : Best s k o b) : b ≤ 17 := by
  rcases h with ⟨h1, _⟩ | ⟨h1, _⟩
  · omega
  · exact (mem_ops.1 h1).2

end Go.Proofs.YtdjcidackkogjaaGreatDoor

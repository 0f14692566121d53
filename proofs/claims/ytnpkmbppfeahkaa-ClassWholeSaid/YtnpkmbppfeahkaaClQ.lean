/- The plain facts on texts that are a name, an = and the rest, on which the walk of ClassWhole rests. No condition: nothing here speaks of the program. -/
import Derived.Test.YtnpkmbppfeahkaaClP
namespace Go.Proofs.Ytnpkmbppfeahkaa
open Go.RowKit
set_option linter.unusedVariables false

/-- An assignment begins with a name. -/
theorem assign_name {s : ByteArray} (h : 0 < assignN s) : isNm (s.extract 0 (assignN s)) = true := by
  unfold assignN at h ⊢
  split at h
  · rename_i g
    rw [if_pos g]
    obtain ⟨j, hj⟩ : ∃ j, nameN s 0 = j + 1 := ⟨nameN s 0 - 1, by omega⟩
    have h2 : isNm (s.extract 0 (0 + (j + 1))) = true := (isNm_extract s 0 j (by omega)).2 (fun i hi => lead_all (fun i => mayN (cl s (0 + i)) i) (z := s.size - 0) (by
      have : lead (fun i => mayN (cl s (0 + i)) i) (s.size - 0) = j + 1 := hj
      omega))
    rwa [Nat.zero_add, ← hj] at h2
  · omega
/-- A name, an = and the rest. -/
theorem put_head (n v : ByteArray) : (n ++ ⟨#[61]⟩ ++ v).extract 0 n.size = n := by
  rw [ByteArray.extract_append, ByteArray.extract_append]
  have e1 : n.size - (n ++ ⟨#[61]⟩ : ByteArray).size = 0 := by simp
  rw [e1]
  simp
theorem put_size (n v : ByteArray) : (n ++ ⟨#[61]⟩ ++ v).size = n.size + 1 + v.size := by
  simp; rfl
theorem put_eq (n v : ByteArray) : (bt (n ++ ⟨#[61]⟩ ++ v) n.size).toNat = 61 := by
  have hz := put_size n v
  have h : n.size < (n ++ ⟨#[61]⟩ ++ v).size := by omega
  rw [bt_eq h, ByteArray.getElem_eq_getElem_data]
  have e : (n ++ ⟨#[61]⟩ ++ v : ByteArray).data = (n.data.push 61) ++ v.data := by simp
  simp only [e]
  rw [Array.getElem_append_left (by simp)]
  simp only [show n.size = n.data.size from rfl, Array.getElem_push_eq]
  rfl
theorem put_tail (n v : ByteArray) : (n ++ ⟨#[61]⟩ ++ v).extract (n.size + 1) (n ++ ⟨#[61]⟩ ++ v).size = v := by
  rw [put_size, ByteArray.extract_append]
  have e0 : (ByteArray.mk #[61]).size = 1 := rfl
  have e1 : (n ++ ⟨#[61]⟩ : ByteArray).size = n.size + 1 := by rw [ByteArray.size_append, e0]
  rw [e1]
  have e2 : (n ++ ⟨#[61]⟩ : ByteArray).extract (n.size + 1) (n.size + 1 + v.size) = ByteArray.empty := by
    apply ByteArray.ext
    apply Array.eq_empty_of_size_eq_zero
    simp
  rw [e2]
  simp
theorem whole_yes {n v : ByteArray} (h : isNm n = true) : assignN (n ++ ⟨#[61]⟩ ++ v) = n.size := by
  have h0 : n.size ≠ 0 := by unfold isNm at h; rw [decide_eq_true_iff] at h; exact h.1
  refine assign_at (by omega) (by rw [put_size]; omega) (put_eq n v) ?_
  rw [put_head]; exact h
theorem whole_no {n v : ByteArray} (h : isNm n = false) (hp : 0 < assignN (n ++ ⟨#[61]⟩ ++ v)) : (n ++ ⟨#[61]⟩ ++ v).extract 0 (assignN (n ++ ⟨#[61]⟩ ++ v)) ≠ n := by
  intro e
  have := assign_name hp
  rw [e, h] at this
  cases this
end Go.Proofs.Ytnpkmbppfeahkaa

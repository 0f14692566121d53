/- The plain facts on the lines of a text, on which the walks of layer 3 (lines) rest: how many newlines stand ahead of a place, where its line begins, where the newlines stand, what the lines are. No condition: nothing here speaks of the program. -/
import Derived.Test.YtiiebholgmhogaaEdQ
namespace Go.Proofs.Ytiiebholgmhogaa
open Go.RowKit
set_option linter.unusedVariables false

/-- How many newlines stand ahead of a place. -/
def ct (s : ByteArray) : Nat → Nat
  | 0 => 0
  | k + 1 => if bt s k = 10 then ct s k + 1 else ct s k
/-- Where a place's line begins. -/
def hd (s : ByteArray) : Nat → Nat
  | 0 => 0
  | k + 1 => if bt s k = 10 then k + 1 else hd s k
/-- The places of the newlines ahead of a place. -/
def br (s : ByteArray) : Nat → List Nat
  | 0 => []
  | k + 1 => if bt s k = 10 then br s k ++ [k] else br s k
/-- The lines that end ahead of a place. -/
def ln (s : ByteArray) : Nat → List ByteArray
  | 0 => []
  | k + 1 => if bt s k = 10 then ln s k ++ [s.extract (hd s k) k] else ln s k
/-- All lines. -/
def lns (s : ByteArray) : List ByteArray := ln s s.size ++ [s.extract (hd s s.size) s.size]
/-- Where a line begins, by the places of the newlines. -/
def headL (l : List Nat) (i : Nat) : Nat := if i = 0 then 0 else l[i - 1]?.getD 0 + 1
/-- Where a line ends, by the places of the newlines and the text's length. -/
def endL (l : List Nat) (z : Nat) (i : Nat) : Nat := if i = l.length then z else l[i]?.getD 0

section
variable (s : ByteArray)
theorem ct_s1 {k : Nat} (h : bt s k = 10) : ct s (k + 1) = ct s k + 1 := by simp [ct, h]
theorem ct_s0 {k : Nat} (h : bt s k ≠ 10) : ct s (k + 1) = ct s k := by simp [ct, h]
theorem hd_s1 {k : Nat} (h : bt s k = 10) : hd s (k + 1) = k + 1 := by simp [hd, h]
theorem hd_s0 {k : Nat} (h : bt s k ≠ 10) : hd s (k + 1) = hd s k := by simp [hd, h]
theorem br_s1 {k : Nat} (h : bt s k = 10) : br s (k + 1) = br s k ++ [k] := by simp [br, h]
theorem br_s0 {k : Nat} (h : bt s k ≠ 10) : br s (k + 1) = br s k := by simp [br, h]
theorem ln_s1 {k : Nat} (h : bt s k = 10) : ln s (k + 1) = ln s k ++ [s.extract (hd s k) k] := by simp [ln, h]
theorem ln_s0 {k : Nat} (h : bt s k ≠ 10) : ln s (k + 1) = ln s k := by simp [ln, h]
theorem br_length (k : Nat) : (br s k).length = ct s k := by
  induction k with
  | zero => rfl
  | succ k ih => by_cases h : bt s k = 10 <;> simp [br, ct, h, ih]
theorem ln_length (k : Nat) : (ln s k).length = ct s k := by
  induction k with
  | zero => rfl
  | succ k ih => by_cases h : bt s k = 10 <;> simp [ln, ct, h, ih]
theorem lns_length : (lns s).length = ct s s.size + 1 := by simp [lns, ln_length]
theorem ct_le (k : Nat) : ct s k ≤ k := by
  induction k with
  | zero => exact Nat.le_refl _
  | succ k ih => by_cases h : bt s k = 10 <;> simp [ct, h] <;> omega
theorem hd_le (k : Nat) : hd s k ≤ k := by
  induction k with
  | zero => exact Nat.le_refl _
  | succ k ih => by_cases h : bt s k = 10 <;> simp [hd, h] <;> omega
theorem ct_mono {j k : Nat} (h : j ≤ k) : ct s j ≤ ct s k := by
  induction k with
  | zero => obtain rfl : j = 0 := by omega
            exact Nat.le_refl _
  | succ k ih =>
    by_cases c : j = k + 1
    · rw [c]; exact Nat.le_refl _
    · have := ih (by omega)
      by_cases h : bt s k = 10 <;> simp [ct, h] <;> omega
theorem br_lt {k : Nat} : ∀ x ∈ br s k, x < k := by
  induction k with
  | zero => intro x hx; cases hx
  | succ k ih =>
    intro x hx
    by_cases h : bt s k = 10
    · rw [br_s1 s h] at hx
      rcases List.mem_append.1 hx with hx | hx
      · have := ih x hx; omega
      · have : x = k := by simpa using hx
        omega
    · rw [br_s0 s h] at hx
      have := ih x hx; omega
/-- The places ahead of a later place go on behind these. -/
theorem br_pre {j k : Nat} (h : j ≤ k) : ∃ t, br s k = br s j ++ t ∧ ∀ x ∈ t, j ≤ x := by
  induction k with
  | zero => obtain rfl : j = 0 := by omega
            exact ⟨[], by simp, by simp⟩
  | succ k ih =>
    by_cases c : j = k + 1
    · subst c; exact ⟨[], by simp, by simp⟩
    · obtain ⟨t, ht, hx⟩ := ih (by omega)
      by_cases h : bt s k = 10
      · refine ⟨t ++ [k], by rw [br_s1 s h, ht, List.append_assoc], fun x hm => ?_⟩
        rcases List.mem_append.1 hm with hm | hm
        · exact hx x hm
        · have : x = k := by simpa using hm
          omega
      · exact ⟨t, by rw [br_s0 s h, ht], hx⟩
theorem br_at {j k i : Nat} (h : j ≤ k) (hi : i < ct s j) : (br s k)[i]? = (br s j)[i]? := by
  obtain ⟨t, ht, _⟩ := br_pre s h
  rw [ht, List.getElem?_append_left (by rw [br_length]; exact hi)]
theorem br_below {j k i : Nat} (h : j ≤ k) (hi : i < ct s j) : (br s k)[i]?.getD 0 < j := by
  rw [br_at s h hi]
  have hl : i < (br s j).length := by rw [br_length]; exact hi
  rw [List.getElem?_eq_getElem hl]
  exact br_lt s _ (List.getElem_mem hl)
theorem br_from {j k i : Nat} (h : j ≤ k) (hi : ct s j ≤ i) (hi2 : i < ct s k) : j ≤ (br s k)[i]?.getD 0 := by
  obtain ⟨t, ht, hx⟩ := br_pre s h
  have hl : i < (br s k).length := by rw [br_length]; exact hi2
  have hlt : i - (br s j).length < t.length := by
    have := congrArg List.length ht
    have e1 := br_length s j
    have e2 := br_length s k
    rw [List.length_append] at this
    omega
  rw [ht, List.getElem?_append_right (by rw [br_length]; exact hi), List.getElem?_eq_getElem hlt]
  exact hx _ (List.getElem_mem hlt)
theorem br_rise {k i j : Nat} (hij : i < j) (hj : j < ct s k) : (br s k)[i]?.getD 0 < (br s k)[j]?.getD 0 := by
  induction k with
  | zero => simp [ct] at hj
  | succ k ih =>
    by_cases h : bt s k = 10
    · rw [ct_s1 s h] at hj
      rw [br_s1 s h]
      by_cases c : j < ct s k
      · rw [List.getElem?_append_left (by rw [br_length]; omega), List.getElem?_append_left (by rw [br_length]; omega)]
        exact ih c
      · obtain rfl : j = ct s k := by omega
        rw [List.getElem?_append_left (by rw [br_length]; omega), List.getElem?_append_right (by rw [br_length]; omega), br_length]
        simpa using br_below s (Nat.le_refl k) hij
    · rw [ct_s0 s h] at hj
      rw [br_s0 s h]
      exact ih hj
theorem hd_head {j k : Nat} (h : j ≤ k) : hd s j = headL (br s k) (ct s j) := by
  induction j with
  | zero => simp [hd, ct, headL]
  | succ j ih =>
    by_cases c : bt s j = 10
    · rw [hd_s1 s c, ct_s1 s c, headL, if_neg (by omega), Nat.add_sub_cancel, br_at s (j := j + 1) h (by rw [ct_s1 s c]; omega), br_s1 s c, List.getElem?_append_right (by rw [br_length]; omega), br_length]
      simp
    · rw [hd_s0 s c, ct_s0 s c]
      exact ih (by omega)
theorem ln_at {k i : Nat} (hi : i < ct s k) : (ln s k)[i]?.getD ⟨#[]⟩ = s.extract (headL (br s k) i) ((br s k)[i]?.getD 0) := by
  induction k with
  | zero => simp [ct] at hi
  | succ k ih =>
    by_cases h : bt s k = 10
    · rw [ct_s1 s h] at hi
      rw [ln_s1 s h]
      by_cases c : i < ct s k
      · have e1 := br_at s (j := k) (k := k + 1) (by omega) c
        have e2 : headL (br s (k + 1)) i = headL (br s k) i := by
          unfold headL
          split
          · rfl
          · rw [br_at s (j := k) (k := k + 1) (by omega) (by omega)]
        rw [List.getElem?_append_left (by rw [ln_length]; omega), ih c, e1, e2]
      · obtain rfl : i = ct s k := by omega
        rw [List.getElem?_append_right (by rw [ln_length]; omega), ln_length, hd_head s (j := k) (k := k + 1) (by omega), br_s1 s h, List.getElem?_append_right (by rw [br_length]; omega), br_length]
        simp
    · rw [ct_s0 s h] at hi
      rw [ln_s0 s h, br_s0 s h]
      exact ih hi
/-- A line, by the places of the newlines. -/
theorem lns_at {i : Nat} (hi : i ≤ ct s s.size) : (lns s)[i]?.getD ⟨#[]⟩ = s.extract (headL (br s s.size) i) (endL (br s s.size) s.size i) := by
  unfold lns endL
  rw [br_length]
  by_cases c : i < ct s s.size
  · rw [List.getElem?_append_left (by rw [ln_length]; omega), if_neg (by omega), ln_at s c]
  · obtain rfl : i = ct s s.size := by omega
    rw [List.getElem?_append_right (by rw [ln_length]; omega), ln_length, if_pos rfl, hd_head s (Nat.le_refl _)]
    simp
theorem head_end {i : Nat} (hi : i ≤ ct s s.size) : headL (br s s.size) i ≤ endL (br s s.size) s.size i ∧ endL (br s s.size) s.size i ≤ s.size := by
  unfold headL endL
  rw [br_length]
  have hb : ∀ j, j < ct s s.size → (br s s.size)[j]?.getD 0 < s.size := fun j hj => br_below s (Nat.le_refl _) hj
  by_cases c : i = ct s s.size
  · rw [if_pos c]
    by_cases c0 : i = 0
    · rw [if_pos c0]; omega
    · rw [if_neg c0]
      have := hb (i - 1) (by omega)
      omega
  · rw [if_neg c]
    have h1 := hb i (by omega)
    by_cases c0 : i = 0
    · rw [if_pos c0]; omega
    · rw [if_neg c0]
      have h2 := br_rise s (k := s.size) (i := i - 1) (j := i) (by omega) (by omega)
      omega
theorem lns_size {i : Nat} (hi : i ≤ ct s s.size) : ((lns s)[i]?.getD ⟨#[]⟩).size = endL (br s s.size) s.size i - headL (br s s.size) i := by
  have := head_end s hi
  rw [lns_at s hi]
  simp
  omega
/-- The place of a line's beginning, as the document's own loop finds it. -/
theorem hd_here {k l : Nat} (hk : k ≤ s.size) (h : ct s k = l) : hd s k = headL (br s s.size) l := by rw [hd_head s hk, h]
end
end Go.Proofs.Ytiiebholgmhogaa

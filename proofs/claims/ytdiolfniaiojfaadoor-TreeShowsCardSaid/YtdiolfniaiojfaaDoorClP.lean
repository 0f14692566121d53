/- The plain facts on classes of bytes, names, rows of one class, assignments, on which the walks of layer 4 (class) rest. No condition: nothing here speaks of the program. -/
import Derived.Test.YtdiolfniaiojfaaDoorMem
namespace Go.Proofs.YtdiolfniaiojfaaDoor
open Go.RowKit
set_option linter.unusedVariables false

/-- A byte's class. -/
def cls (n : Nat) : Nat :=
  if n = 32 ∨ n = 9 then 1 else if n = 10 then 2
  else if n = 124 ∨ n = 38 ∨ n = 59 ∨ n = 60 ∨ n = 62 ∨ n = 40 ∨ n = 41 then 3
  else if n = 92 ∨ n = 39 ∨ n = 34 ∨ n = 96 ∨ n = 36 then 4
  else if (65 ≤ n ∧ n ≤ 90) ∨ (97 ≤ n ∧ n ≤ 122) ∨ n = 95 then 5
  else if 48 ≤ n ∧ n ≤ 57 then 6 else 0
theorem cls_le (n : Nat) : cls n ≤ 6 := by unfold cls; repeat (split <;> try omega)
/-- Does a byte end a word? -/
def endsB (n : Nat) : Bool := decide (cls n = 1 ∨ cls n = 2 ∨ cls n = 3)
/-- Is a byte safe? -/
def safeB (n : Nat) : Bool := decide (cls n = 5 ∨ cls n = 6 ∨ 128 ≤ n ∨ n = 37 ∨ n = 43 ∨ n = 44 ∨ n = 45 ∨ n = 46 ∨ n = 47 ∨ n = 58 ∨ n = 64)
/-- Is a byte a special sign? -/
def specB (n : Nat) : Bool := decide (n = 64 ∨ n = 42 ∨ n = 35 ∨ n = 63 ∨ n = 45 ∨ n = 36 ∨ n = 33)
/-- Is a byte one of a text's? -/
def inB (n : Nat) (s : ByteArray) : Bool := s.data.toList.any fun c => n == c.toNat
theorem inB_meta (n : Nat) : inB n ⟨#[124, 38, 59, 60, 62, 40, 41]⟩ = decide (n = 124 ∨ n = 38 ∨ n = 59 ∨ n = 60 ∨ n = 62 ∨ n = 40 ∨ n = 41) := by
  rw [Bool.eq_iff_iff, decide_eq_true_iff]; simp [inB]
theorem inB_quote (n : Nat) : inB n ⟨#[92, 39, 34, 96, 36]⟩ = decide (n = 92 ∨ n = 39 ∨ n = 34 ∨ n = 96 ∨ n = 36) := by
  rw [Bool.eq_iff_iff, decide_eq_true_iff]; simp [inB]
theorem inB_digit (n : Nat) : inB n ⟨#[48, 49, 50, 51, 52, 53, 54, 55, 56, 57]⟩ = decide (48 ≤ n ∧ n ≤ 57) := by
  rw [Bool.eq_iff_iff, decide_eq_true_iff]; simp [inB]; omega
theorem inB_safe (n : Nat) : inB n ⟨#[37, 43, 44, 45, 46, 47, 58, 64]⟩ = decide (n = 37 ∨ n = 43 ∨ n = 44 ∨ n = 45 ∨ n = 46 ∨ n = 47 ∨ n = 58 ∨ n = 64) := by
  rw [Bool.eq_iff_iff, decide_eq_true_iff]; simp [inB]
theorem inB_spec (n : Nat) : inB n ⟨#[64, 42, 35, 63, 45, 36, 33]⟩ = specB n := by
  rw [Bool.eq_iff_iff]; unfold specB; rw [decide_eq_true_iff]; simp [inB]
theorem inB_letter (n : Nat) : inB n ⟨#[65, 66, 67, 68, 69, 70, 71, 72, 73, 74, 75, 76, 77, 78, 79, 80, 81, 82, 83, 84, 85, 86, 87, 88, 89, 90, 97, 98, 99, 100, 101, 102, 103, 104, 105, 106, 107, 108, 109, 110, 111, 112, 113, 114, 115, 116, 117, 118, 119, 120, 121, 122, 95]⟩ = decide ((65 ≤ n ∧ n ≤ 90) ∨ (97 ≤ n ∧ n ≤ 122) ∨ n = 95) := by
  rw [Bool.eq_iff_iff, decide_eq_true_iff]; simp [inB]; omega

/-- The class of the byte at a place. -/
def cl (s : ByteArray) (i : Nat) : Nat := cls (bt s i).toNat

/-- How many numbers below z, from 0 on, fulfil q. -/
def lead (q : Nat → Bool) : Nat → Nat
  | 0 => 0
  | z + 1 => if lead q z = z ∧ q z = true then z + 1 else lead q z
section
variable (q : Nat → Bool)
theorem lead_le (z : Nat) : lead q z ≤ z := by
  induction z with
  | zero => exact Nat.le_refl _
  | succ z ih => unfold lead; split <;> omega
theorem lead_all {z i : Nat} (h : i < lead q z) : q i = true := by
  induction z with
  | zero => simp [lead] at h
  | succ z ih =>
    unfold lead at h
    split at h
    · rename_i g
      by_cases e : i = z
      · rw [e]; exact g.2
      · exact ih (by omega)
    · exact ih h
theorem lead_stop {z : Nat} (h : lead q z < z) : q (lead q z) = false := by
  induction z with
  | zero => simp [lead] at h
  | succ z ih =>
    unfold lead at h ⊢
    split at h
    · omega
    · rename_i g
      rw [if_neg g]
      by_cases e : lead q z = z
      · rw [e] at g ⊢
        simpa using g
      · have := lead_le q z
        exact ih (by omega)
theorem lead_eq {z n : Nat} (hn : n ≤ z) (ha : ∀ i, i < n → q i = true) (hs : n < z → q n = false) : lead q z = n := by
  have h1 := lead_le q z
  rcases Nat.lt_trichotomy (lead q z) n with g | g | g
  · have := lead_stop q (z := z) (by omega)
    rw [ha _ g] at this; cases this
  · exact g
  · have := lead_all q (z := z) g
    rw [hs (by omega)] at this; cases this
theorem lead_whole {z : Nat} : lead q z = z ↔ ∀ i, i < z → q i = true :=
  ⟨fun h i hi => lead_all q (z := z) (by omega), fun h => lead_eq q (Nat.le_refl _) h (fun g => by omega)⟩
/-- One step more, where all ahead are asked together. -/
theorem lead_yes {z : Nat} (h : ∀ i, i < z + 1 → q i = true) : lead q (z + 1) = z + 1 := (lead_whole q).2 h
theorem lead_no {z : Nat} (h : ¬ ∀ i, i < z + 1 → q i = true) : lead q (z + 1) = lead q z := by
  rw [lead]
  split
  · rename_i g
    refine absurd (fun i hi => ?_) h
    by_cases e : i = z
    · rw [e]; exact g.2
    · exact (lead_whole q).1 g.1 i (by omega)
  · rfl
end

/-- May a byte of a class stand in a name, so many behind its beginning? -/
def mayN (c i : Nat) : Bool := decide (c = 5 ∨ (c = 6 ∧ 0 < i))
/-- How long the name is that begins at a place. -/
def nameN (s : ByteArray) (a : Nat) : Nat := lead (fun i => mayN (cl s (a + i)) i) (s.size - a)
/-- How many bytes of a class stand at a place. -/
def rowN (s : ByteArray) (a c : Nat) : Nat := lead (fun i => decide (cl s (a + i) = c)) (s.size - a)
/-- How long the parameter is behind a dollar. -/
def paramN (s : ByteArray) (a : Nat) : Nat :=
  if 0 < nameN s a then nameN s a else if a < s.size ∧ (cl s a = 6 ∨ specB (bt s a).toNat = true) then 1 else 0
/-- Is a text a name? -/
def isNm (s : ByteArray) : Bool := decide (s.size ≠ 0 ∧ ∀ i, i < s.size → mayN (cl s i) i = true)
/-- Are all bytes of a class? -/
def allB (s : ByteArray) (c : Nat) : Bool := decide (∀ i, i < s.size → cl s i = c)
/-- How long an assignment's name is; 0: there is none. -/
def assignN (s : ByteArray) : Nat := if nameN s 0 ≠ 0 ∧ nameN s 0 < s.size ∧ (bt s (nameN s 0)).toNat = 61 then nameN s 0 else 0

theorem bt_extract (s : ByteArray) (a b i : Nat) (hb : b ≤ s.size) (hi : i < b - a) : bt (s.extract a b) i = bt s (a + i) := by
  have h1 : i < (s.extract a b).size := by simp; omega
  rw [bt_eq h1, bt_eq (s := s) (i := a + i) (by omega)]
  simp [ByteArray.getElem_eq_getElem_data]
theorem cl_extract (s : ByteArray) (a b i : Nat) (hb : b ≤ s.size) (hi : i < b - a) : cl (s.extract a b) i = cl s (a + i) := by
  unfold cl; rw [bt_extract s a b i hb hi]

theorem nameN_le (s : ByteArray) (a : Nat) : nameN s a ≤ s.size - a := lead_le _ _
theorem rowN_le (s : ByteArray) (a c : Nat) : rowN s a c ≤ s.size - a := lead_le _ _
theorem isNm_extract (s : ByteArray) (a k : Nat) (h : a + (k + 1) ≤ s.size) :
    isNm (s.extract a (a + (k + 1))) = true ↔ ∀ i, i < k + 1 → mayN (cl s (a + i)) i = true := by
  have hz : (s.extract a (a + (k + 1))).size = k + 1 := by simp; omega
  unfold isNm
  rw [decide_eq_true_iff, hz]
  constructor
  · rintro ⟨_, h2⟩ i hi
    have := h2 i hi
    rwa [cl_extract s _ _ _ h (by omega)] at this
  · intro h2
    refine ⟨by omega, fun i hi => ?_⟩
    rw [cl_extract s _ _ _ h (by omega)]
    exact h2 i hi
theorem allB_extract (s : ByteArray) (a b c : Nat) (h : b ≤ s.size) :
    allB (s.extract a b) c = true ↔ ∀ i, i < b - a → cl s (a + i) = c := by
  have hz : (s.extract a b).size = b - a := by simp; omega
  unfold allB
  rw [decide_eq_true_iff, hz]
  constructor
  · intro h2 i hi
    have := h2 i hi
    rwa [cl_extract s _ _ _ h (by omega)] at this
  · intro h2 i hi
    rw [cl_extract s _ _ _ h (by omega)]
    exact h2 i hi
/-- The name's length so far. -/
def nameT (s : ByteArray) (a k : Nat) : Nat := lead (fun i => mayN (cl s (a + i)) i) k
def rowT (s : ByteArray) (a c k : Nat) : Nat := lead (fun i => decide (cl s (a + i) = c)) k
theorem nameT_yes {s : ByteArray} {a k : Nat} (h : a + (k + 1) ≤ s.size) (e : isNm (s.extract a (a + (k + 1))) = true) : nameT s a (k + 1) = k + 1 :=
  lead_yes _ ((isNm_extract s a k h).1 e)
theorem nameT_no {s : ByteArray} {a k : Nat} (h : a + (k + 1) ≤ s.size) (e : isNm (s.extract a (a + (k + 1))) = false) : nameT s a (k + 1) = nameT s a k :=
  lead_no _ (fun g => by rw [(isNm_extract s a k h).2 g] at e; cases e)
theorem nameT_le (s : ByteArray) (a k : Nat) : nameT s a k ≤ k := lead_le _ _
theorem rowT_yes {s : ByteArray} {a c k : Nat} (h : a + (k + 1) ≤ s.size) (e : allB (s.extract a (a + (k + 1))) c = true) : rowT s a c (k + 1) = k + 1 :=
  lead_yes _ (fun i hi => by simpa using (allB_extract s a _ c h).1 e i (by omega))
theorem rowT_no {s : ByteArray} {a c k : Nat} (h : a + (k + 1) ≤ s.size) (e : allB (s.extract a (a + (k + 1))) c = false) : rowT s a c (k + 1) = rowT s a c k :=
  lead_no _ (fun g => by
    rw [(allB_extract s a _ c h).2 (fun i hi => by simpa using g i (by omega))] at e; cases e)
theorem rowT_le (s : ByteArray) (a c k : Nat) : rowT s a c k ≤ k := lead_le _ _

theorem isNm_name (s : ByteArray) : isNm s = decide (s.size ≠ 0 ∧ nameN s 0 = s.size) := by
  unfold isNm nameN
  congr 1
  apply propext
  simp only [Nat.zero_add, Nat.sub_zero]
  rw [lead_whole]
theorem mayN_61 (i : Nat) : mayN (cls 61) i = false := by
  have : cls 61 = 0 := rfl
  rw [this]; simp [mayN]
/-- The document's own search finds the name's end. -/
theorem assign_at {s : ByteArray} {k : Nat} (h0 : 0 < k) (hk : k < s.size) (hb : (bt s k).toNat = 61) (hn : isNm (s.extract 0 k) = true) : assignN s = k := by
  obtain ⟨j, rfl⟩ : ∃ j, k = j + 1 := ⟨k - 1, by omega⟩
  have h1 := (isNm_extract s 0 j (by omega)).1 (by simpa using hn)
  have hN : nameN s 0 = j + 1 := by
    unfold nameN
    refine lead_eq _ (by omega) (fun i hi => by simpa using h1 i hi) (fun _ => ?_)
    show mayN (cl s (0 + (j + 1))) (j + 1) = false
    unfold cl
    rw [Nat.zero_add, hb]; exact mayN_61 _
  unfold assignN
  rw [hN, if_pos ⟨by omega, hk, hb⟩]
theorem assign_none {s : ByteArray} (h : ∀ k, 0 < k → k < s.size → (bt s k).toNat = 61 → isNm (s.extract 0 k) = false) : assignN s = 0 := by
  unfold assignN
  split
  · rename_i g
    have h1 := h _ (by omega) g.2.1 g.2.2
    obtain ⟨j, hj⟩ : ∃ j, nameN s 0 = j + 1 := ⟨nameN s 0 - 1, by omega⟩
    have h2 : isNm (s.extract 0 (0 + (j + 1))) = true := (isNm_extract s 0 j (by omega)).2 (fun i hi => lead_all (fun i => mayN (cl s (0 + i)) i) (z := s.size - 0) (by
      have : lead (fun i => mayN (cl s (0 + i)) i) (s.size - 0) = j + 1 := hj
      omega))
    rw [Nat.zero_add, ← hj, h1] at h2; cases h2
  · rfl
theorem assignN_le (s : ByteArray) : assignN s ≤ s.size := by
  unfold assignN; split <;> omega
theorem assignN_lt {s : ByteArray} (h : 0 < assignN s) : assignN s < s.size := by
  unfold assignN at h ⊢
  split at h
  · rename_i g; rw [if_pos g]; exact g.2.1
  · omega
end Go.Proofs.YtdiolfniaiojfaaDoor

/- The plain facts on operators: their texts, the longest one at a place, a text parted into operators. No condition: nothing here speaks of the program. -/
import Derived.Test.YtgfkbfojeohlkaaGreatDoorQa
namespace Go.Proofs.YtgfkbfojeohlkaaGreatDoor
open Go.RowKit
set_option linter.unusedVariables false

theorem bt_ext {a b : ByteArray} (hs : a.size = b.size) (h : ∀ i, i < a.size → bt a i = bt b i) : a = b := by
  apply ByteArray.ext
  apply Array.ext
  · exact hs
  · intro i h1 h2
    rw [bt_getElem, bt_getElem]
    exact h i h1
theorem bt_append (a b : ByteArray) (i : Nat) (hi : i < a.size + b.size) : bt (a ++ b) i = if i < a.size then bt a i else bt b (i - a.size) := by
  have h0 : i < (a ++ b).size := by simp; omega
  rw [bt_eq h0]
  have e : (a ++ b).data = a.data ++ b.data := by simp
  have sa : a.size = a.data.size := rfl
  have sb : b.size = b.data.size := rfl
  by_cases h : i < a.size
  · rw [if_pos h, bt_eq h]
    show (a ++ b).data[i] = a.data[i]
    simp only [e]
    exact Array.getElem_append_left (by omega)
  · rw [if_neg h, bt_eq (by omega)]
    have h' : i - a.size < b.data.size := by omega
    show (a ++ b).data[i] = b.data[i - a.size]
    simp only [e]
    exact Array.getElem_append_right (by omega)
theorem bt_al {a b : ByteArray} {i : Nat} (h : i < a.size) : bt (a ++ b) i = bt a i := by rw [bt_append _ _ _ (by omega), if_pos h]
theorem bt_ar {a b : ByteArray} {i : Nat} (h : a.size ≤ i) (h2 : i < a.size + b.size) : bt (a ++ b) i = bt b (i - a.size) := by rw [bt_append _ _ _ h2, if_neg (by omega)]
theorem fits_bt {s d : ByteArray} {k : Nat} (h : fits s k d) (i : Nat) (hi : i < d.size) : bt s (k + i) = bt d i := by
  have := bt_extract s k (k + d.size) i h.1 (by omega)
  rw [h.2] at this
  exact this.symm
theorem fits_of_bt {s d : ByteArray} {k : Nat} (h : k + d.size ≤ s.size) (hb : ∀ i, i < d.size → bt s (k + i) = bt d i) : fits s k d := by
  have z : (s.extract k (k + d.size)).size = d.size := by simp; omega
  refine ⟨h, bt_ext z fun i hi => ?_⟩
  rw [z] at hi
  rw [bt_extract s k (k + d.size) i h (by omega)]
  exact hb i hi

def txt : Nat → ByteArray
  | 1 => ⟨#[38, 38]⟩ | 2 => ⟨#[124, 124]⟩ | 3 => ⟨#[59, 59]⟩ | 4 => ⟨#[60, 60]⟩ | 5 => ⟨#[60, 60, 45]⟩ | 6 => ⟨#[62, 62]⟩
  | 7 => ⟨#[60, 38]⟩ | 8 => ⟨#[62, 38]⟩ | 9 => ⟨#[60, 62]⟩ | 10 => ⟨#[62, 124]⟩ | 11 => ⟨#[60]⟩ | 12 => ⟨#[62]⟩
  | 13 => ⟨#[38]⟩ | 14 => ⟨#[59]⟩ | 15 => ⟨#[124]⟩ | 16 => ⟨#[40]⟩ | 17 => ⟨#[41]⟩ | _ => ⟨#[]⟩
def ops : List Nat := [5, 1, 2, 3, 4, 6, 7, 8, 9, 10, 11, 12, 13, 14, 15, 16, 17]
theorem mem_ops {k : Nat} : k ∈ ops ↔ 1 ≤ k ∧ k ≤ 17 := by
  constructor
  · intro h
    have : ∀ k ∈ ops, 1 ≤ k ∧ k ≤ 17 := by decide
    exact this k h
  · rintro ⟨h1, h2⟩
    have : ∀ k, k < 18 → 1 ≤ k → k ∈ ops := by decide
    exact this k (by omega) h1
theorem txt_out {k : Nat} (h : ¬ (1 ≤ k ∧ k ≤ 17)) : txt k = ⟨#[]⟩ := by
  unfold txt
  split <;> first | omega | rfl
theorem txt_size_in {k : Nat} (h : k ∈ ops) : 1 ≤ (txt k).size ∧ (txt k).size ≤ 3 := by
  have : ∀ k ∈ ops, 1 ≤ (txt k).size ∧ (txt k).size ≤ 3 := by decide +kernel
  exact this k h
theorem txt_le (k : Nat) : (txt k).size ≤ 3 := by
  by_cases h : k ∈ ops
  · exact (txt_size_in h).2
  · rw [txt_out (fun g => h (mem_ops.2 g))]; decide
theorem txt_inj {i j : Nat} (hi : i ∈ ops) (hj : j ∈ ops) (h : txt i = txt j) : i = j := by
  have : ∀ i ∈ ops, ∀ j ∈ ops, txt i = txt j → i = j := by decide +kernel
  exact this i hi j hj h

def opN (s : ByteArray) (a : Nat) : Nat := (ops.find? fun k => decide (fits s a (txt k))).getD 0
def IsAt (s : ByteArray) (a op : Nat) : Prop :=
  (op = 0 ∧ ∀ k ∈ ops, ¬ fits s a (txt k)) ∨ (op ∈ ops ∧ fits s a (txt op) ∧ ∀ k ∈ ops, fits s a (txt k) → (txt k).size ≤ (txt op).size)
theorem opN_is (s : ByteArray) (a : Nat) : IsAt s a (opN s a) := by
  unfold opN
  cases h : ops.find? fun k => decide (fits s a (txt k)) with
  | none =>
    refine .inl ⟨rfl, fun k hk => ?_⟩
    have := List.find?_eq_none.1 h k hk
    simpa using this
  | some k =>
    obtain ⟨h1, asx, bs, h2, h3⟩ := List.find?_eq_some_iff_append.1 h
    have hk : k ∈ ops := by rw [h2]; simp
    refine .inr ⟨hk, by simpa using h1, fun j hj hf => ?_⟩
    have hp : ops.Pairwise fun i j => (txt j).size ≤ (txt i).size := by decide +kernel
    rw [h2] at hj hp
    rcases List.mem_append.1 hj with g | g
    · have := h3 j g
      simp [hf] at this
    · rcases List.mem_cons.1 g with g | g
      · rw [g]; exact Nat.le_refl _
      · exact List.rel_of_pairwise_cons (List.pairwise_append.1 hp).2.1 g
theorem IsAt.one {s : ByteArray} {a x y : Nat} (h : IsAt s a x) (k : IsAt s a y) : x = y := by
  rcases h with ⟨rfl, h⟩ | ⟨h1, h2, h3⟩
  · rcases k with ⟨rfl, k⟩ | ⟨k1, k2, k3⟩
    · rfl
    · exact absurd k2 (h _ k1)
  · rcases k with ⟨rfl, k⟩ | ⟨k1, k2, k3⟩
    · exact absurd h2 (k _ h1)
    · have e1 := h3 _ k1 k2
      have e2 := k3 _ h1 h2
      have e : (txt x).size = (txt y).size := by omega
      refine txt_inj h1 k1 ?_
      have q := h2.2
      rw [e, k2.2] at q
      exact q.symm
theorem opN_eq {s : ByteArray} {a x : Nat} (h : IsAt s a x) : opN s a = x := (opN_is s a).one h
theorem opN_mem {s : ByteArray} {a : Nat} (h : opN s a ≠ 0) : opN s a ∈ ops := by
  rcases opN_is s a with ⟨g, _⟩ | ⟨g, _⟩
  · exact absurd g h
  · exact g
theorem opN_fits {s : ByteArray} {a : Nat} (h : opN s a ≠ 0) : fits s a (txt (opN s a)) := by
  rcases opN_is s a with ⟨g, _⟩ | ⟨_, g, _⟩
  · exact absurd g h
  · exact g
theorem opN_found {s : ByteArray} {a i n : Nat} (hi : i ∈ ops) (hn : (txt i).size = n) (hf : fits s a (txt i)) (h : ∀ k ∈ ops, n < (txt k).size → ¬ fits s a (txt k)) : opN s a = i :=
  opN_eq (.inr ⟨hi, hf, fun k hk hfk => by
    rw [hn]
    exact Nat.le_of_not_lt fun g => h k hk g hfk⟩)
theorem opN_none {s : ByteArray} {a : Nat} (h : ∀ k ∈ ops, 0 < (txt k).size → ¬ fits s a (txt k)) : opN s a = 0 :=
  opN_eq (.inl ⟨rfl, fun k hk => h k hk (txt_size_in hk).1⟩)
theorem rest_eq {s d : ByteArray} {a n : Nat} (h : a + n ≤ s.size) : (s.extract a s.size).extract 0 n = d ↔ d.size = n ∧ fits s a d := by
  have e : (s.extract a s.size).extract 0 n = s.extract a (a + n) := by
    rw [ByteArray.extract_extract]
    congr 1
    omega
  rw [e]
  constructor
  · intro g
    have z : (s.extract a (a + n)).size = n := by simp; omega
    rw [g] at z
    exact ⟨z, by rw [z]; exact h, by rw [z]; exact g⟩
  · rintro ⟨z, _, g⟩
    rw [z] at g
    exact g

def ofN (s : ByteArray) : Nat := if (txt (opN s 0)).size = s.size then opN s 0 else 0
theorem ofN_txt {k : Nat} (hk : k ∈ ops) : ofN (txt k) = k := by
  have : ∀ k ∈ ops, ofN (txt k) = k := by decide +kernel
  exact this k hk
end Go.Proofs.YtgfkbfojeohlkaaGreatDoor

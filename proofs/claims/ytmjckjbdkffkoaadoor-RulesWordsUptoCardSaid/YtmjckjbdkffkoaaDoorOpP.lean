/- The plain facts on operators: their texts, the longest one at a place, a text parted into operators. No condition: nothing here speaks of the program. -/
import Derived.Test.YtmjckjbdkffkoaaDoorClP
namespace Go.Proofs.YtmjckjbdkffkoaaDoor
open Go.RowKit
set_option linter.unusedVariables false

theorem bt_ext {a b : ByteArray} (hs : a.size = b.size) (h : ∀ i, i < a.size → bt a i = bt b i) : a = b := by
  apply ByteArray.ext
  apply Array.ext
  · exact hs
  · intro i h1 h2
    rw [bt_getElem, bt_getElem]
    exact h i h1
theorem bt_append (a b : ByteArray) (i : Nat) (hi : i < a.size + b.size) : bt (a ++ b) i = if i < a.size then bt a i else bt b (i - a.size) := by
  have h0 : i < (a ++ b).size := by simp; omega
  rw [bt_eq h0]
  have e : (a ++ b).data = a.data ++ b.data := by simp
  have sa : a.size = a.data.size := rfl
  have sb : b.size = b.data.size := rfl
  by_cases h : i < a.size
  · rw [if_pos h, bt_eq h]
    show (a ++ b).data[i] = a.data[i]
    simp only [e]
    exact Array.getElem_append_left (by omega)
  · rw [if_neg h, bt_eq (by omega)]
    have h' : i - a.size < b.data.size := by omega
    show (a ++ b).data[i] = b.data[i - a.size]
    simp only [e]
    exact Array.getElem_append_right (by omega)
theorem bt_al {a b : ByteArray} {i : Nat} (h : i < a.size) : bt (a ++ b) i = bt a i := by rw [bt_append _ _ _ (by omega), if_pos h]
theorem bt_ar {a b : ByteArray} {i : Nat} (h : a.size ≤ i) (h2 : i < a.size + b.size) : bt (a ++ b) i = bt b (i - a.size) := by rw [bt_append _ _ _ h2, if_neg (by omega)]
theorem fits_bt {s d : ByteArray} {k : Nat} (h : fits s k d) (i : Nat) (hi : i < d.size) : bt s (k + i) = bt d i := by
  have := bt_extract s k (k + d.size) i h.1 (by omega)
  rw [h.2] at this
  exact this.symm
theorem fits_of_bt {s d : ByteArray} {k : Nat} (h : k + d.size ≤ s.size) (hb : ∀ i, i < d.size → bt s (k + i) = bt d i) : fits s k d := by
  have z : (s.extract k (k + d.size)).size = d.size := by simp; omega
  refine ⟨h, bt_ext z fun i hi => ?_⟩
  rw [z] at hi
  rw [bt_extract s k (k + d.size) i h (by omega)]
  exact hb i hi

/-- The operators' texts by their numbers. -/
def txt : Nat → ByteArray
  | 1 => ⟨#[38, 38]⟩ | 2 => ⟨#[124, 124]⟩ | 3 => ⟨#[59, 59]⟩ | 4 => ⟨#[60, 60]⟩ | 5 => ⟨#[60, 60, 45]⟩ | 6 => ⟨#[62, 62]⟩
  | 7 => ⟨#[60, 38]⟩ | 8 => ⟨#[62, 38]⟩ | 9 => ⟨#[60, 62]⟩ | 10 => ⟨#[62, 124]⟩ | 11 => ⟨#[60]⟩ | 12 => ⟨#[62]⟩
  | 13 => ⟨#[38]⟩ | 14 => ⟨#[59]⟩ | 15 => ⟨#[124]⟩ | 16 => ⟨#[40]⟩ | 17 => ⟨#[41]⟩ | _ => ⟨#[]⟩
def ops : List Nat := [5, 1, 2, 3, 4, 6, 7, 8, 9, 10, 11, 12, 13, 14, 15, 16, 17]
theorem mem_ops {k : Nat} : k ∈ ops ↔ 1 ≤ k ∧ k ≤ 17 := by
  constructor
  · intro h
    have : ∀ k ∈ ops, 1 ≤ k ∧ k ≤ 17 := by decide
    exact this k h
  · rintro ⟨h1, h2⟩
    have : ∀ k, k < 18 → 1 ≤ k → k ∈ ops := by decide
    exact this k (by omega) h1
theorem txt_out {k : Nat} (h : ¬ (1 ≤ k ∧ k ≤ 17)) : txt k = ⟨#[]⟩ := by
  unfold txt
  split <;> first | omega | rfl
theorem txt_size_in {k : Nat} (h : k ∈ ops) : 1 ≤ (txt k).size ∧ (txt k).size ≤ 3 := by
  have : ∀ k ∈ ops, 1 ≤ (txt k).size ∧ (txt k).size ≤ 3 := by decide +kernel
  exact this k h
theorem txt_le (k : Nat) : (txt k).size ≤ 3 := by
  by_cases h : k ∈ ops
  · exact (txt_size_in h).2
  · rw [txt_out (fun g => h (mem_ops.2 g))]; decide
theorem txt_empty {k : Nat} : (txt k).size = 0 ↔ ¬ k ∈ ops := by
  constructor
  · intro h g
    have := txt_size_in g
    omega
  · intro h
    rw [txt_out (fun g => h (mem_ops.2 g))]; rfl
theorem txt_inj {i j : Nat} (hi : i ∈ ops) (hj : j ∈ ops) (h : txt i = txt j) : i = j := by
  have : ∀ i ∈ ops, ∀ j ∈ ops, txt i = txt j → i = j := by decide +kernel
  exact this i hi j hj h

/-- The longest operator that stands at a place; 0: none. -/
def opN (s : ByteArray) (a : Nat) : Nat := (ops.find? fun k => decide (fits s a (txt k))).getD 0
/-- That it is. -/
def IsAt (s : ByteArray) (a op : Nat) : Prop :=
  (op = 0 ∧ ∀ k ∈ ops, ¬ fits s a (txt k)) ∨ (op ∈ ops ∧ fits s a (txt op) ∧ ∀ k ∈ ops, fits s a (txt k) → (txt k).size ≤ (txt op).size)
theorem opN_is (s : ByteArray) (a : Nat) : IsAt s a (opN s a) := by
  unfold opN
  cases h : ops.find? fun k => decide (fits s a (txt k)) with
  | none =>
    refine .inl ⟨rfl, fun k hk => ?_⟩
    have := List.find?_eq_none.1 h k hk
    simpa using this
  | some k =>
    obtain ⟨h1, asx, bs, h2, h3⟩ := List.find?_eq_some_iff_append.1 h
    have hk : k ∈ ops := by rw [h2]; simp
    refine .inr ⟨hk, by simpa using h1, fun j hj hf => ?_⟩
    have hp : ops.Pairwise fun i j => (txt j).size ≤ (txt i).size := by decide +kernel
    rw [h2] at hj hp
    rcases List.mem_append.1 hj with g | g
    · have := h3 j g
      simp [hf] at this
    · rcases List.mem_cons.1 g with g | g
      · rw [g]; exact Nat.le_refl _
      · exact List.rel_of_pairwise_cons (List.pairwise_append.1 hp).2.1 g
theorem IsAt.one {s : ByteArray} {a x y : Nat} (h : IsAt s a x) (k : IsAt s a y) : x = y := by
  rcases h with ⟨rfl, h⟩ | ⟨h1, h2, h3⟩
  · rcases k with ⟨rfl, k⟩ | ⟨k1, k2, k3⟩
    · rfl
    · exact absurd k2 (h _ k1)
  · rcases k with ⟨rfl, k⟩ | ⟨k1, k2, k3⟩
    · exact absurd h2 (k _ h1)
    · have e1 := h3 _ k1 k2
      have e2 := k3 _ h1 h2
      have e : (txt x).size = (txt y).size := by omega
      refine txt_inj h1 k1 ?_
      have q := h2.2
      rw [e, k2.2] at q
      exact q.symm
theorem opN_eq {s : ByteArray} {a x : Nat} (h : IsAt s a x) : opN s a = x := (opN_is s a).one h
theorem opN_mem {s : ByteArray} {a : Nat} (h : opN s a ≠ 0) : opN s a ∈ ops := by
  rcases opN_is s a with ⟨g, _⟩ | ⟨g, _⟩
  · exact absurd g h
  · exact g
theorem opN_fits {s : ByteArray} {a : Nat} (h : opN s a ≠ 0) : fits s a (txt (opN s a)) := by
  rcases opN_is s a with ⟨g, _⟩ | ⟨_, g, _⟩
  · exact absurd g h
  · exact g
theorem opN_le (s : ByteArray) (a : Nat) : opN s a ≤ 17 := by
  by_cases h : opN s a = 0
  · omega
  · exact (mem_ops.1 (opN_mem h)).2
/-- What is searched for, of the longest down: no operator of more than n bytes stands there; one of n bytes does, or none of one byte, either. -/
theorem opN_found {s : ByteArray} {a i n : Nat} (hi : i ∈ ops) (hn : (txt i).size = n) (hf : fits s a (txt i)) (h : ∀ k ∈ ops, n < (txt k).size → ¬ fits s a (txt k)) : opN s a = i :=
  opN_eq (.inr ⟨hi, hf, fun k hk hfk => by
    rw [hn]
    exact Nat.le_of_not_lt fun g => h k hk g hfk⟩)
theorem opN_none {s : ByteArray} {a : Nat} (h : ∀ k ∈ ops, 0 < (txt k).size → ¬ fits s a (txt k)) : opN s a = 0 :=
  opN_eq (.inl ⟨rfl, fun k hk => h k hk (txt_size_in hk).1⟩)
/-- The first n bytes behind a place are a text. -/
theorem rest_eq {s d : ByteArray} {a n : Nat} (h : a + n ≤ s.size) : (s.extract a s.size).extract 0 n = d ↔ d.size = n ∧ fits s a d := by
  have e : (s.extract a s.size).extract 0 n = s.extract a (a + n) := by
    rw [ByteArray.extract_extract]
    congr 1
    omega
  rw [e]
  constructor
  · intro g
    have z : (s.extract a (a + n)).size = n := by simp; omega
    rw [g] at z
    exact ⟨z, by rw [z]; exact h, by rw [z]; exact g⟩
  · rintro ⟨z, _, g⟩
    rw [z] at g
    exact g

/-- Of is At of all of it. -/
def ofN (s : ByteArray) : Nat := if (txt (opN s 0)).size = s.size then opN s 0 else 0
theorem fits_all {s : ByteArray} : fits s 0 s := by
  refine ⟨by omega, ?_⟩
  rw [Nat.zero_add]
  exact ByteArray.extract_zero_size
theorem ofN_txt {k : Nat} (hk : k ∈ ops) : ofN (txt k) = k := by
  have : ∀ k ∈ ops, ofN (txt k) = k := by decide +kernel
  exact this k hk
theorem ofN_eq {s : ByteArray} {k : Nat} (hk : k ∈ ops) : txt k = s ↔ ofN s = k := by
  constructor
  · intro h; rw [← h]; exact ofN_txt hk
  · intro h
    unfold ofN at h
    split at h
    · rename_i g
      have h0 : opN s 0 ≠ 0 := by have := (mem_ops.1 hk).1; omega
      have hf := (opN_fits h0).2
      rw [g, Nat.zero_add, h] at hf
      rw [← hf]
      exact ByteArray.extract_zero_size
    · have := (mem_ops.1 hk).1; omega
theorem ofN_mem {s : ByteArray} (h : ofN s ≠ 0) : ofN s ∈ ops := by
  unfold ofN at h ⊢
  split at h
  · rename_i g
    rw [if_pos g]
    exact opN_mem h
  · exact absurd rfl h

/-- A text parted into operators from a place on, and the first byte that is none; -1: there is none such. -/
def splF (s : ByteArray) : Nat → Nat → List Nat × Int
  | 0, _ => ([], -1)
  | f + 1, a => if a < s.size then
      (if opN s a = 0 then (if cl s a = 1 then splF s f (a + 1) else ([], (a : Int)))
       else (opN s a :: (splF s f (a + (txt (opN s a)).size)).1, (splF s f (a + (txt (opN s a)).size)).2))
    else ([], -1)
def spl (s : ByteArray) (a : Nat) : List Nat × Int := splF s (s.size - a) a
theorem splF_any (s : ByteArray) : ∀ (f g a : Nat), s.size - a ≤ f → s.size - a ≤ g → splF s f a = splF s g a := by
  intro f
  induction f with
  | zero =>
    intro g a h1 h2
    cases g with
    | zero => rfl
    | succ g => unfold splF; rw [if_neg (by omega)]
  | succ f ih =>
    intro g a h1 h2
    cases g with
    | zero => unfold splF; rw [if_neg (by omega)]
    | succ g =>
      unfold splF
      by_cases h : a < s.size
      · rw [if_pos h, if_pos h]
        by_cases h0 : opN s a = 0
        · rw [if_pos h0, if_pos h0, ih g (a + 1) (by omega) (by omega)]
        · have := (txt_size_in (opN_mem h0)).1
          rw [if_neg h0, if_neg h0, ih g (a + (txt (opN s a)).size) (by omega) (by omega)]
      · rw [if_neg h, if_neg h]
theorem spl_end {s : ByteArray} {a : Nat} (h : s.size ≤ a) : spl s a = ([], -1) := by
  unfold spl
  rw [Nat.sub_eq_zero_of_le h]
  rfl
theorem spl_step {s : ByteArray} {a : Nat} (h : a < s.size) : spl s a = (if opN s a = 0 then (if cl s a = 1 then spl s (a + 1) else ([], (a : Int)))
       else (opN s a :: (spl s (a + (txt (opN s a)).size)).1, (spl s (a + (txt (opN s a)).size)).2)) := by
  have e : s.size - a = (s.size - a - 1) + 1 := by omega
  unfold spl
  rw [e]
  conv => lhs; unfold splF
  rw [if_pos h]
  by_cases h0 : opN s a = 0
  · rw [if_pos h0, if_pos h0, splF_any s (s.size - a - 1) (s.size - (a + 1)) (a + 1) (by omega) (by omega)]
  · have := (txt_size_in (opN_mem h0)).1
    rw [if_neg h0, if_neg h0, splF_any s (s.size - a - 1) (s.size - (a + (txt (opN s a)).size)) (a + (txt (opN s a)).size) (by omega) (by omega)]
theorem spl_op {s : ByteArray} {a k : Nat} (h : a < s.size) (hk : opN s a = k) (h0 : k ≠ 0) : spl s a = (k :: (spl s (a + (txt k).size)).1, (spl s (a + (txt k).size)).2) := by
  rw [spl_step h, if_neg (by omega), hk]
theorem spl_blank {s : ByteArray} {a : Nat} (h : a < s.size) (hk : opN s a = 0) (hb : cl s a = 1) : spl s a = spl s (a + 1) := by
  rw [spl_step h, if_pos hk, if_pos hb]
theorem spl_bad {s : ByteArray} {a : Nat} (h : a < s.size) (hk : opN s a = 0) (hb : cl s a ≠ 1) : spl s a = ([], (a : Int)) := by
  rw [spl_step h, if_pos hk, if_neg hb]
theorem opN_blank {s : ByteArray} {a : Nat} (hb : cl s a = 1) : opN s a = 0 := by
  by_cases h0 : opN s a = 0
  · exact h0
  · have hm := opN_mem h0
    have hs := (txt_size_in hm).1
    have e := fits_bt (opN_fits h0) 0 (by omega)
    have : ∀ k ∈ ops, cl (txt k) 0 ≠ 1 := by decide +kernel
    refine absurd ?_ (this _ hm)
    unfold cl
    rw [← e]
    exact hb
theorem spl_row {s : ByteArray} {a : Nat} : ∀ m, m ≤ rowN s a 1 → spl s a = spl s (a + m)
  | 0, _ => rfl
  | m + 1, h => by
    have hle := rowN_le s a 1
    rw [spl_row m (by omega)]
    have hb : cl s (a + m) = 1 := by
      have := lead_all (fun i => decide (cl s (a + i) = 1)) (z := s.size - a) (i := m) (by have : lead (fun i => decide (cl s (a + i) = 1)) (s.size - a) = rowN s a 1 := rfl; omega)
      simpa using this
    exact spl_blank (by omega) (opN_blank hb) hb
/-- Behind all blanks there is none. -/
theorem row_stop {s : ByteArray} {a : Nat} (h : a + rowN s a 1 < s.size) : cl s (a + rowN s a 1) ≠ 1 := by
  have := lead_stop (fun i => decide (cl s (a + i) = 1)) (z := s.size - a) (by have : lead (fun i => decide (cl s (a + i) = 1)) (s.size - a) = rowN s a 1 := rfl; omega)
  intro g
  have e : rowN s a 1 = lead (fun i => decide (cl s (a + i) = 1)) (s.size - a) := rfl
  rw [← e] at this
  simp [g] at this
theorem spl_len (s : ByteArray) : ∀ f a, (splF s f a).1.length ≤ f
  | 0, a => by simp [splF]
  | f + 1, a => by
    unfold splF
    split
    · split
      · split
        · have := spl_len s f (a + 1); omega
        · simp
      · have := spl_len s f (a + (txt (opN s a)).size); simp; omega
    · simp

/-- Are two operators tight? -/
def tightN (a b : Nat) : Bool := decide (a ∈ ops ∧ b ∈ ops ∧ opN (txt a ++ txt b) 0 = a)
theorem tight_spl {a b : Nat} (ha : a ∈ ops) (hb : b ∈ ops) : tightN a b = decide (spl (txt a ++ txt b) 0 = ([a, b], -1)) := by
  have : ∀ a ∈ ops, ∀ b ∈ ops, tightN a b = decide (spl (txt a ++ txt b) 0 = ([a, b], -1)) := by decide +kernel
  exact this a ha b hb
/-- What comes between two operators. -/
def sepB : Option Nat → Nat → ByteArray
  | none, _ => ⟨#[]⟩
  | some a, b => if tightN a b = true then ⟨#[]⟩ else ⟨#[32]⟩
/-- Operators, written, behind one that is written. -/
def wrF : Option Nat → List Nat → ByteArray
  | _, [] => ⟨#[]⟩
  | p, x :: r => sepB p x ++ txt x ++ wrF (some x) r
end Go.Proofs.YtmjckjbdkffkoaaDoor

/- Tokens, plainly: where blanks, lines, numbers, words and here-documents end, told by absolute places; a token hangs on no byte more than two behind it. No condition: nothing here speaks of the program.
Tokens, plainly: which lines are a delimiter's, by places; the six tokens of a command that awaits a here-document, and of it. No condition: nothing here speaks of the program. -/
import Derived.Test.YtgfkbfojeohlkaaGreatDoorTkE
import Derived.Test.YtgfkbfojeohlkaaGreatDoorTkL
namespace Go.Proofs.YtgfkbfojeohlkaaGreatDoor
open Go.RowKit
set_option linter.unusedVariables false

theorem row_pos {s : ByteArray} {a c : Nat} : 0 < rowN s a c ↔ a < s.size ∧ cl s a = c := by
  unfold rowN
  constructor
  · intro h
    have hle := lead_le (fun i => decide (cl s (a + i) = c)) (s.size - a)
    have := lead_all (fun i => decide (cl s (a + i) = c)) (z := s.size - a) (i := 0) h
    exact ⟨by omega, by simpa using this⟩
  · rintro ⟨h1, h2⟩
    rcases Nat.eq_zero_or_pos (lead (fun i => decide (cl s (a + i) = c)) (s.size - a)) with h | h
    · have := lead_stop (fun i => decide (cl s (a + i) = c)) (z := s.size - a) (by omega)
      rw [h] at this
      simp [h2] at this
    · exact h
theorem row_next {s : ByteArray} {a c : Nat} (h : 0 < rowN s a c) : rowN s a c = rowN s (a + 1) c + 1 := by
  obtain ⟨h1, h2⟩ := row_pos.1 h
  have hle := rowN_le s (a + 1) c
  have hin : ∀ i, i < rowN s (a + 1) c → cl s (a + 1 + i) = c := fun i hi => by
    have := lead_all (fun i => decide (cl s (a + 1 + i) = c)) (z := s.size - (a + 1)) (i := i) hi
    simpa using this
  have hst : rowN s (a + 1) c < s.size - (a + 1) → cl s (a + 1 + rowN s (a + 1) c) ≠ c := fun hi => by
    have := lead_stop (fun i => decide (cl s (a + 1 + i) = c)) (z := s.size - (a + 1)) hi
    have e : lead (fun i => decide (cl s (a + 1 + i) = c)) (s.size - (a + 1)) = rowN s (a + 1) c := rfl
    rw [e] at this
    simpa using this
  generalize rowN s (a + 1) c = r at *
  unfold rowN
  refine lead_eq _ (by omega) (fun i hi => ?_) (fun hi => ?_)
  · rcases Nat.eq_zero_or_pos i with rfl | hp
    · simpa using h2
    · have := hin (i - 1) (by omega)
      rw [show a + 1 + (i - 1) = a + i by omega] at this
      simpa using this
  · have := hst (by omega)
    rw [show a + 1 + r = a + (r + 1) by omega] at this
    simpa using this
def b1 (s : ByteArray) (a : Nat) : Nat := if a < s.size ∧ cl s a = 1 then 1 else if a + 1 < s.size ∧ by8 s a = 92 ∧ by8 s (a + 1) = 10 then 2 else 0
theorem b1_zero {s : ByteArray} {a : Nat} : b1 s a = 0 ↔ bstep s a = 0 := by
  have h := row_pos (s := s) (a := a) (c := 1)
  unfold b1 bstep
  by_cases g : a < s.size ∧ cl s a = 1
  · rw [if_pos g, if_pos (h.2 g)]
    have := h.2 g
    omega
  · rw [if_neg g, if_neg (fun e => g (h.1 e))]
theorem blE_stop {s : ByteArray} {a : Nat} (h : b1 s a = 0) : blE s a = a := blE_zero (b1_zero.1 h)
theorem blE_one {s : ByteArray} {a : Nat} (ha : a ≤ s.size) (h : b1 s a ≠ 0) : blE s a = blE s (a + b1 s a) := by
  have hb : bstep s a ≠ 0 := fun e => h (b1_zero.2 e)
  have e := blE_next ha hb
  by_cases g : a < s.size ∧ cl s a = 1
  · have hp := row_pos.2 g
    have hn := row_next hp
    have e1 : b1 s a = 1 := by unfold b1; rw [if_pos g]
    have e2 : bstep s a = rowN s (a + 1) 1 + 1 := by unfold bstep; rw [if_pos hp, hn]
    rw [e, e1, e2]
    rcases Nat.eq_zero_or_pos (rowN s (a + 1) 1) with h0 | h0
    · rw [h0]
    · have e3 : bstep s (a + 1) = rowN s (a + 1) 1 := by unfold bstep; rw [if_pos h0]
      rw [blE_next (a := a + 1) (by omega) (by omega), e3]
      congr 1
      omega
  · have e1 : b1 s a = bstep s a := by
      unfold b1 bstep
      rw [if_neg g, if_neg (fun e => g (row_pos.1 e))]
    rw [e1]
    exact e
theorem wdE_at {s : ByteArray} {a : Nat} (ha : a ≤ s.size) (h : wdE s a < s.size) : stops (fromK s a 0 (wdE s a - a)) (by8 s (wdE s a)) = true := by
  have hl := wdE_le ha
  have hs : lead (fun i => !stops (fromK s a 0 i) (by8 s (a + i))) (s.size - a) < s.size - a := by unfold wdE at h; omega
  have := lead_stop (fun i => !stops (fromK s a 0 i) (by8 s (a + i))) (z := s.size - a) hs
  have e : wdE s a - a = lead (fun i => !stops (fromK s a 0 i) (by8 s (a + i))) (s.size - a) := by unfold wdE; omega
  have e2 : wdE s a = a + lead (fun i => !stops (fromK s a 0 i) (by8 s (a + i))) (s.size - a) := rfl
  rw [e]
  rw [e2]
  simpa using this
theorem wdE_in {s : ByteArray} {a i : Nat} (h1 : a ≤ i) (h2 : i < wdE s a) : stops (fromK s a 0 (i - a)) (by8 s i) = false := by
  have := lead_all (fun i => !stops (fromK s a 0 i) (by8 s (a + i))) (z := s.size - a) (i := i - a) (by unfold wdE at h2; omega)
  rw [show a + (i - a) = i by omega] at this
  simpa using this

structure Beg (s t : ByteArray) (n : Nat) : Prop where
  a : n ≤ s.size
  b : n ≤ t.size
  e : ∀ i, i < n → by8 s i = by8 t i
section
variable {s t : ByteArray} {n : Nat} (h : Beg s t n)
include h
theorem Beg.symm : Beg t s n := ⟨h.b, h.a, fun i hi => (h.e i hi).symm⟩
theorem Beg.bt {i : Nat} (hi : i < n) : bt s i = bt t i := UInt8.toNat_inj.1 (h.e i hi)
theorem Beg.cl {i : Nat} (hi : i < n) : cl s i = cl t i := by unfold Go.Proofs.YtgfkbfojeohlkaaGreatDoor.cl; rw [h.bt hi]
theorem Beg.ext {a b : Nat} (hb : b ≤ n) : s.extract a b = t.extract a b := by
  have h1 := h.a
  have h2 := h.b
  refine bt_ext ?_ (fun i hi => ?_)
  · rw [ByteArray.size_extract, ByteArray.size_extract]; omega
  · rw [ByteArray.size_extract] at hi
    rw [bt_extract s a b i (by omega) (by omega), bt_extract t a b i (by omega) (by omega)]
    exact h.bt (by omega)
end

def dAF (s : ByteArray) (d : Dl) : Nat → Nat → Nat × Bool
  | 0, a => (s.size, false)
  | k + 1, a => if a < s.size then (if delL (s.extract a (lnE s a)) d = true then (lnE s a, true) else dAF s d k (lnE s a)) else (s.size, false)
def dA (s : ByteArray) (d : Dl) (a : Nat) : Nat × Bool := dAF s d (s.size - a) a
section
variable (s : ByteArray) (d : Dl)
theorem dAF_more : ∀ (k a j : Nat), s.size - a ≤ k → k ≤ j → dAF s d j a = dAF s d k a
  | 0, a, 0, _, _ => rfl
  | 0, a, j + 1, h, _ => by
    show (if a < s.size then _ else _) = _
    rw [if_neg (by omega)]; rfl
  | k + 1, a, 0, _, h => by omega
  | k + 1, a, j + 1, h1, h2 => by
    unfold dAF
    by_cases h : a < s.size
    · rw [if_pos h, if_pos h]
      have := lnE_gt h
      rw [dAF_more k (lnE s a) j (by omega) (by omega)]
    · rw [if_neg h, if_neg h]
theorem dA_next {a : Nat} (h : a < s.size) : dA s d a = if delL (s.extract a (lnE s a)) d = true then (lnE s a, true) else dA s d (lnE s a) := by
  have hg := lnE_gt h
  unfold dA
  obtain ⟨k, hk⟩ : ∃ k, s.size - a = k + 1 := ⟨s.size - a - 1, by omega⟩
  rw [hk]
  conv => lhs; unfold dAF
  rw [if_pos h, dAF_more s d _ (lnE s a) k (Nat.le_refl _) (by omega)]
theorem dA_end {a : Nat} (h : ¬ a < s.size) : dA s d a = (s.size, false) := by
  unfold dA
  rw [show s.size - a = 0 by omega]; rfl
theorem dA_le : ∀ (k a : Nat), s.size - a ≤ k → a ≤ s.size → a ≤ (dA s d a).1 ∧ (dA s d a).1 ≤ s.size
  | 0, a, hk, ha => by rw [dA_end s d (by omega)]; exact ⟨ha, Nat.le_refl _⟩
  | k + 1, a, hk, ha => by
    by_cases h : a < s.size
    · have hg := lnE_gt h
      rw [dA_next s d h]
      split
      · exact ⟨by show a ≤ lnE s a; omega, by show lnE s a ≤ _; omega⟩
      · have := dA_le k (lnE s a) (by omega) (by omega)
        omega
    · rw [dA_end s d h]; exact ⟨ha, Nat.le_refl _⟩
theorem nlE_at_ext {a c : Nat} (hc : a + c ≤ s.size) : nlE (s.extract a s.size) c = nlE s (a + c) - a := by
  have hz := ext_size (s := s) (a := a) (b := s.size) (Nat.le_refl _)
  have hle := nlE_le (s := s) hc
  refine nlE_eq (by omega) (by omega) (fun i g1 hi => ?_) (fun hi => ?_)
  · rw [by8_ext (Nat.le_refl _) (by omega)]
    exact nlE_in (a := a + c) (by omega) (by omega)
  · rw [by8_ext (Nat.le_refl _) (by omega), show a + (nlE s (a + c) - a) = nlE s (a + c) by omega]
    exact nlE_at (by omega)
theorem lnE_at_ext {a c : Nat} (hc : a + c < s.size) : lnE (s.extract a s.size) c = lnE s (a + c) - a := by
  have hz := ext_size (s := s) (a := a) (b := s.size) (Nat.le_refl _)
  have hle := nlE_le (s := s) (Nat.le_of_lt hc)
  unfold lnE
  rw [nlE_at_ext s (Nat.le_of_lt hc), hz]
  by_cases h : nlE s (a + c) < s.size
  · rw [if_pos h, if_pos (by omega)]; omega
  · rw [if_neg h, if_neg (by omega)]
theorem docL_A (b : Nat) : ∀ (k c : Nat), s.size - b - c ≤ k → b + c ≤ s.size → docL d (lnF (s.extract b s.size) k c) c = ((dA s d (b + c)).1 - b, (dA s d (b + c)).2)
  | 0, c, hk, hc => by
    rw [dA_end s d (by omega)]
    show (c, false) = (s.size - b, false)
    rw [show c = s.size - b by omega]
  | k + 1, c, hk, hc => by
    have hz := ext_size (s := s) (a := b) (b := s.size) (Nat.le_refl _)
    unfold lnF
    by_cases h : b + c < s.size
    · have hg := lnE_gt h
      rw [if_pos (by omega), lnE_at_ext s h, dA_next s d h]
      have hx : (s.extract b s.size).extract c (lnE s (b + c) - b) = s.extract (b + c) (lnE s (b + c)) := by
        rw [ByteArray.extract_extract]
        congr 1
        omega
      rw [hx]
      show (if delL _ d = true then _ else docL d _ _) = _
      have hz2 : c + (s.extract (b + c) (lnE s (b + c))).size = lnE s (b + c) - b := by rw [ByteArray.size_extract]; omega
      rw [hz2]
      by_cases hd : delL (s.extract (b + c) (lnE s (b + c))) d = true
      · rw [if_pos hd, if_pos hd]
      · rw [if_neg hd, if_neg hd]
        have := docL_A b k (lnE s (b + c) - b) (by omega) (by omega)
        rw [show b + (lnE s (b + c) - b) = lnE s (b + c) by omega] at this
        exact this
    · rw [if_neg (by omega), dA_end s d h]
      show (c, false) = (s.size - b, false)
      rw [show c = s.size - b by omega]
theorem docN_A {a : Nat} (ha : a ≤ s.size) (ds : List Dl) : docN (s.extract a s.size) (d :: ds) = ((dA s d a).1 - a, (dA s d a).2) := by
  have hz := ext_size (s := s) (a := a) (b := s.size) (Nat.le_refl _)
  have := docL_A s d a (s.extract a s.size).size 0 (by omega) (by omega)
  exact this
end
end Go.Proofs.YtgfkbfojeohlkaaGreatDoor
namespace Go.Proofs.YtgfkbfojeohlkaaGreatDoor
open Go.RowKit
set_option linter.unusedVariables false
set_option linter.unusedSectionVars false

def tbN (s : ByteArray) (a i : Nat) (tabs : Bool) : Nat := if tabs = true then lead (fun j => decide (by8 s (a + j) = 9)) (i - a) else 0
theorem tbN_le (s : ByteArray) (a i : Nat) (tabs : Bool) : tbN s a i tabs ≤ i - a := by
  unfold tbN
  split
  · exact lead_le _ _
  · exact Nat.zero_le _
theorem ext_drop (x : ByteArray) (k : Nat) : (⟨(x.data.toList.drop k).toArray⟩ : ByteArray) = x.extract k x.size := by
  rw [Lib.extract_eq]
  congr 2
  exact (List.take_of_length_le (by rw [List.length_drop, Lib.size_eq]; exact Nat.le_refl _)).symm
theorem delT_of {l x : ByteArray} (h : (⟨(Lib.trimSuffix l.data.toList [10]).toArray⟩ : ByteArray) = x) (tabs : Bool) : delT l tabs = x.extract (tbN x 0 x.size tabs) x.size := by
  unfold delT tbN
  cases tabs with
  | false =>
    rw [if_neg (by decide), if_neg (by decide), h, ByteArray.extract_zero_size]
  | true =>
    rw [if_pos rfl, if_pos rfl]
    have hl : Lib.trimSuffix l.data.toList [10] = x.data.toList := by rw [← h]
    rw [hl, ← ext_drop]
    congr 2
    have hle := lead_le (fun j => decide (by8 x (0 + j) = 9)) (x.size - 0)
    have hsz := Lib.size_eq x
    refine Lib.trimLeftB_drop _ _ _ (by omega) (fun j b hj hb => ?_) (fun b hb => ?_)
    · have := lead_all (fun j => decide (by8 x (0 + j) = 9)) (z := x.size - 0) hj
      have hjl : j < x.data.toList.length := by omega
      have e := list_at hjl
      rw [List.getElem?_eq_getElem hjl] at hb
      injection hb with hb
      rw [hb] at e
      simp only [Nat.zero_add, decide_eq_true_eq] at this
      exact UInt8.toNat_inj.1 (by rw [e, this]; rfl)
    · generalize hk : lead (fun j => decide (by8 x (0 + j) = 9)) (x.size - 0) = k at hb hle
      obtain ⟨hjl, hb'⟩ := List.getElem?_eq_some_iff.1 hb
      have := lead_stop (fun j => decide (by8 x (0 + j) = 9)) (z := x.size - 0) (by omega)
      rw [hk] at this
      have e := list_at hjl
      rw [hb'] at e
      simp only [Nat.zero_add, decide_eq_false_iff_not] at this
      intro eb
      exact this (by rw [← e, eb]; rfl)
theorem trim_hit {s : ByteArray} {a i : Nat} (h1 : a ≤ i) (h2 : i < s.size) (h3 : by8 s i = 10) : (⟨(Lib.trimSuffix (s.extract a (i + 1)).data.toList [10]).toArray⟩ : ByteArray) = s.extract a i := by
  have hz := ext_size (s := s) (a := a) (b := i + 1) (by omega)
  have e0 : (s.extract a (i + 1)).extract ((s.extract a (i + 1)).size - 1) (s.extract a (i + 1)).size = (⟨#[10]⟩ : ByteArray) := by
    refine bt_ext ?_ (fun j hj => ?_)
    · rw [ByteArray.size_extract, hz]
      show _ = 1
      omega
    · rw [ByteArray.size_extract, hz] at hj
      rw [hz]
      obtain rfl : j = 0 := by omega
      rw [bt_extract _ _ _ _ (by omega) (by omega), bt_extract _ _ _ _ (by omega) (by omega)]
      rw [show a + (i + 1 - a - 1 + 0) = i by omega]
      exact UInt8.toNat_inj.1 h3
  have := Lib.trimSuffix_hit (s.extract a (i + 1)) ⟨#[10]⟩ (by show 1 ≤ _; omega) (by rw [bs_eqb, decide_eq_true_iff]; exact e0)
  rw [show (s.extract a (i + 1)).size - (⟨#[10]⟩ : ByteArray).size = i - a from by rw [hz]; show i + 1 - a - 1 = i - a; omega] at this
  refine this.trans ?_
  rw [ByteArray.extract_extract]
  congr 1
  omega
theorem trim_miss {s : ByteArray} {a : Nat} (h1 : a ≤ s.size) (h3 : a < s.size → by8 s (s.size - 1) ≠ 10) : (⟨(Lib.trimSuffix (s.extract a s.size).data.toList [10]).toArray⟩ : ByteArray) = s.extract a s.size := by
  have hz := ext_size (s := s) (a := a) (b := s.size) (Nat.le_refl _)
  refine Lib.trimSuffix_miss (s.extract a s.size) ⟨#[10]⟩ ?_
  rw [Bool.and_eq_false_iff]
  by_cases g : a < s.size
  · right
    rw [bs_eqb, decide_eq_false_iff_not]
    intro e
    have hb : by8 ((s.extract a s.size).extract ((s.extract a s.size).size - (⟨#[10]⟩ : ByteArray).size) (s.extract a s.size).size) 0 = 10 := by rw [e]; rfl
    rw [show (⟨#[10]⟩ : ByteArray).size = 1 from rfl, hz, by8_ext (by omega) (by omega), by8_ext (Nat.le_refl _) (by omega), show a + (s.size - a - 1 + 0) = s.size - 1 by omega] at hb
    exact h3 g hb
  · left
    rw [decide_eq_false_iff_not]
    show ¬ 1 ≤ _
    omega
theorem tbN_ext {s : ByteArray} {a i : Nat} (h1 : a ≤ i) (h2 : i ≤ s.size) (tabs : Bool) : tbN (s.extract a i) 0 (s.extract a i).size tabs = tbN s a i tabs := by
  have hz := ext_size (s := s) (a := a) (b := i) h2
  unfold tbN
  cases tabs with
  | false => simp only [Bool.false_eq_true, if_false]
  | true =>
    simp only [if_true]
    rw [hz, Nat.sub_zero]
    have hle := lead_le (fun j => decide (by8 s (a + j) = 9)) (i - a)
    refine lead_eq _ hle (fun j hj => ?_) (fun hj => ?_)
    · have := lead_all (fun j => decide (by8 s (a + j) = 9)) (z := i - a) hj
      rw [Nat.zero_add, by8_ext h2 (by omega)]
      exact this
    · have := lead_stop (fun j => decide (by8 s (a + j) = 9)) (z := i - a) hj
      rw [Nat.zero_add, by8_ext h2 (by omega)]
      exact this
theorem delL_at {s : ByteArray} {a i : Nat} (h1 : a ≤ i) (h2 : i ≤ s.size) (hi : nlE s a = i) (h0 : a < s.size) (d : Dl) : delL (s.extract a (lnE s a)) d = decide (s.extract (a + tbN s a i d.tabs) i = d.word) := by
  have hx : (⟨(Lib.trimSuffix (s.extract a (lnE s a)).data.toList [10]).toArray⟩ : ByteArray) = s.extract a i := by
    unfold lnE
    rw [hi]
    by_cases g : i < s.size
    · rw [if_pos g]
      exact trim_hit h1 g (by have := nlE_at (s := s) (a := a) (by omega); rwa [hi] at this)
    · rw [if_neg g]
      obtain rfl : i = s.size := by omega
      exact trim_miss h1 (fun g => nlE_in (a := a) (by omega) (by omega))
  unfold delL
  rw [delT_of hx, tbN_ext h1 h2]
  have hz := ext_size (s := s) (a := a) (b := i) h2
  have ht := tbN_le s a i d.tabs
  rw [hz, ByteArray.extract_extract]
  congr 2
  congr 1
  omega

theorem op_ext {s : ByteArray} {a : Nat} (h : opN s a ≠ 0) : ofN (s.extract a (a + (txt (opN s a)).size)) = opN s a := by
  rw [(opN_fits h).2, ofN_txt (opN_mem h)]

end Go.Proofs.YtgfkbfojeohlkaaGreatDoor

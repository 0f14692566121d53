/- Tokens, plainly: where blanks, lines, numbers, words and here-documents end, told by absolute places; a token hangs on no byte more than two behind it. No condition: nothing here speaks of the program.
Tokens, plainly: which lines are a delimiter's, by places; the six tokens of a command that awaits a here-document, and of it. No condition: nothing here speaks of the program. -/
import Derived.Test.YtgfkbfojeohlkaaGreatDoorTkE
import Derived.Test.YtgfkbfojeohlkaaGreatDoorTkL
namespace Go.Proofs.YtgfkbfojeohlkaaGreatDoor
open Go.RowKit
set_option linter.unusedVariables false

theorem row_pos {s : ByteArray} {a c : Nat} : 0 < rowN s a c ↔ a < s.size ∧ cl s a = c := by
  unfold rowN
  constructor
  · intro h
    have hle := lead_le (fun i => decide (cl s (a + i) = c)) (s.size - a)
    have := lead_all (fun i => decide (cl s (a + i) = c)) (z := s.size - a) (i := 0) h
    exact ⟨by omega, by simpa using this⟩
  · rintro ⟨h1, h2⟩
    rcases Nat.eq_zero_or_pos (lead (fun i => decide (cl s (a + i) = c)) (s.size - a)) with h | h
    · have := lead_stop (fun i => decide (cl s (a + i) = c)) (z := s.size - a) (by omega)
      rw [h] at this
      simp [h2] at this
    · exact h
theorem row_next {s : ByteArray} {a c : Nat} (h : 0 < rowN s a c) : rowN s a c = rowN s (a + 1) c + 1 := by
  obtain ⟨h1, h2⟩ := row_pos.1 h
  have hle := rowN_le s (a + 1) c
  have hin : ∀ i, i < rowN s (a + 1) c → cl s (a + 1 + i) = c := fun i hi => by
    have := lead_all (fun i => decide (cl s (a + 1 + i) = c)) (z := s.size - (a + 1)) (i := i) hi
    simpa using this
  have hst : rowN s (a + 1) c < s.size - (a + 1) → cl s (a + 1 + rowN s (a + 1) c) ≠ c := fun hi => by
    have := lead_stop (fun i => decide (cl s (a + 1 + i) = c)) (z := s.size - (a + 1)) hi
    have e : lead (fun i => decide (cl s (a + 1 + i) = c)) (s.size - (a + 1)) = rowN s (a + 1) c := rfl
    rw [e] at this
    simpa using this
  generalize rowN s (a + 1) c = r at *
  unfold rowN
  refine lead_eq _ (by omega) (fun i hi => ?_) (fun hi => ?_)
  · rcases Nat.eq_zero_or_pos i with rfl | hp
    · simpa using h2
    · have := hin (i - 1) (by omega)
      rw [show a + 1 + (i - 1) = a + i by omega] at this
      simpa using this
  · have := hst (by omega)
    rw [show a + 1 + r = a + (r + 1) by omega] at this
    simpa using this
theorem row_in {s : ByteArray} {a c i : Nat} (h : i < rowN s a c) : cl s (a + i) = c := by
  have := lead_all (fun i => decide (cl s (a + i) = c)) (z := s.size - a) (i := i) h
  simpa using this
theorem row_out {s : ByteArray} {a c : Nat} (h : a + rowN s a c < s.size) : cl s (a + rowN s a c) ≠ c := by
  have h' : rowN s a c < s.size - a := by omega
  have := lead_stop (fun i => decide (cl s (a + i) = c)) (z := s.size - a) h'
  have e : lead (fun i => decide (cl s (a + i) = c)) (s.size - a) = rowN s a c := rfl
  rw [e] at this
  simpa using this
def b1 (s : ByteArray) (a : Nat) : Nat := if a < s.size ∧ cl s a = 1 then 1 else if a + 1 < s.size ∧ by8 s a = 92 ∧ by8 s (a + 1) = 10 then 2 else 0
theorem b1_zero {s : ByteArray} {a : Nat} : b1 s a = 0 ↔ bstep s a = 0 := by
  have h := row_pos (s := s) (a := a) (c := 1)
  unfold b1 bstep
  by_cases g : a < s.size ∧ cl s a = 1
  · rw [if_pos g, if_pos (h.2 g)]
    have := h.2 g
    omega
  · rw [if_neg g, if_neg (fun e => g (h.1 e))]
theorem b1_le {s : ByteArray} {a : Nat} (ha : a ≤ s.size) : a + b1 s a ≤ s.size := by
  unfold b1
  split
  · omega
  · split <;> omega
theorem blE_stop {s : ByteArray} {a : Nat} (h : b1 s a = 0) : blE s a = a := blE_zero (b1_zero.1 h)
theorem blE_one {s : ByteArray} {a : Nat} (ha : a ≤ s.size) (h : b1 s a ≠ 0) : blE s a = blE s (a + b1 s a) := by
  have hb : bstep s a ≠ 0 := fun e => h (b1_zero.2 e)
  have e := blE_next ha hb
  by_cases g : a < s.size ∧ cl s a = 1
  · have hp := row_pos.2 g
    have hn := row_next hp
    have e1 : b1 s a = 1 := by unfold b1; rw [if_pos g]
    have e2 : bstep s a = rowN s (a + 1) 1 + 1 := by unfold bstep; rw [if_pos hp, hn]
    rw [e, e1, e2]
    rcases Nat.eq_zero_or_pos (rowN s (a + 1) 1) with h0 | h0
    · rw [h0]
    · have e3 : bstep s (a + 1) = rowN s (a + 1) 1 := by unfold bstep; rw [if_pos h0]
      rw [blE_next (a := a + 1) (by omega) (by omega), e3]
      congr 1
      omega
  · have e1 : b1 s a = bstep s a := by
      unfold b1 bstep
      rw [if_neg g, if_neg (fun e => g (row_pos.1 e))]
    rw [e1]
    exact e
theorem wdE_at {s : ByteArray} {a : Nat} (ha : a ≤ s.size) (h : wdE s a < s.size) : stops (fromK s a 0 (wdE s a - a)) (by8 s (wdE s a)) = true := by
  have hl := wdE_le ha
  have hs : lead (fun i => !stops (fromK s a 0 i) (by8 s (a + i))) (s.size - a) < s.size - a := by unfold wdE at h; omega
  have := lead_stop (fun i => !stops (fromK s a 0 i) (by8 s (a + i))) (z := s.size - a) hs
  have e : wdE s a - a = lead (fun i => !stops (fromK s a 0 i) (by8 s (a + i))) (s.size - a) := by unfold wdE; omega
  have e2 : wdE s a = a + lead (fun i => !stops (fromK s a 0 i) (by8 s (a + i))) (s.size - a) := rfl
  rw [e]
  rw [e2]
  simpa using this
theorem wdE_in {s : ByteArray} {a i : Nat} (h1 : a ≤ i) (h2 : i < wdE s a) : stops (fromK s a 0 (i - a)) (by8 s i) = false := by
  have := lead_all (fun i => !stops (fromK s a 0 i) (by8 s (a + i))) (z := s.size - a) (i := i - a) (by unfold wdE at h2; omega)
  rw [show a + (i - a) = i by omega] at this
  simpa using this

structure Beg (s t : ByteArray) (n : Nat) : Prop where
  a : n ≤ s.size
  b : n ≤ t.size
  e : ∀ i, i < n → by8 s i = by8 t i
section
variable {s t : ByteArray} {n : Nat} (h : Beg s t n)
include h
theorem Beg.symm : Beg t s n := ⟨h.b, h.a, fun i hi => (h.e i hi).symm⟩
theorem Beg.bt {i : Nat} (hi : i < n) : bt s i = bt t i := UInt8.toNat_inj.1 (h.e i hi)
theorem Beg.cl {i : Nat} (hi : i < n) : cl s i = cl t i := by unfold Go.Proofs.YtgfkbfojeohlkaaGreatDoor.cl; rw [h.bt hi]
theorem Beg.ext {a b : Nat} (hb : b ≤ n) : s.extract a b = t.extract a b := by
  have h1 := h.a
  have h2 := h.b
  refine bt_ext ?_ (fun i hi => ?_)
  · rw [ByteArray.size_extract, ByteArray.size_extract]; omega
  · rw [ByteArray.size_extract] at hi
    rw [bt_extract s a b i (by omega) (by omega), bt_extract t a b i (by omega) (by omega)]
    exact h.bt (by omega)
theorem b1_beg {a : Nat} (ha : a + 1 < n) : b1 t a = b1 s a := by
  have h1 := h.a
  have h2 := h.b
  unfold b1
  rw [h.cl (i := a) (by omega), h.e a (by omega), h.e (a + 1) ha]
  have p1 : a < s.size := by omega
  have p2 : a < t.size := by omega
  have p3 : a + 1 < s.size := by omega
  have p4 : a + 1 < t.size := by omega
  simp only [p1, p2, p3, p4, true_and]
theorem blE_beg : ∀ (k a : Nat), n - a ≤ k → a + 1 < n → blE s a + 2 ≤ n → blE t a = blE s a
  | 0, a, hk, ha, _ => by omega
  | k + 1, a, hk, ha, he => by
    have h1 := h.a
    have h2 := h.b
    have hb := b1_beg h ha
    by_cases h0 : b1 s a = 0
    · rw [blE_stop h0, blE_stop (by rw [hb]; exact h0)]
    · have e1 := blE_one (s := s) (a := a) (by omega) h0
      have e2 := blE_one (s := t) (a := a) (by omega) (by rw [hb]; exact h0)
      have hle := (blE_le (s := s) (a := a + b1 s a) (b1_le (by omega))).1
      rw [e1] at he
      rw [e2, hb, blE_beg k (a + b1 s a) (by omega) (by omega) he, ← e1]
theorem nlE_beg {a : Nat} (ha : a ≤ n) (he : nlE s a < n) : nlE t a = nlE s a := by
  have h1 := h.a
  have h2 := h.b
  have hle := nlE_le (s := s) (a := a) (by omega)
  refine nlE_eq hle.1 (by omega) (fun i g1 g2 => ?_) (fun _ => ?_)
  · rw [← h.e i (by omega)]; exact nlE_in g1 g2
  · rw [← h.e _ he]; exact nlE_at (by omega)
theorem fits_beg {a : Nat} (ha : a + 3 ≤ n) {d : ByteArray} (hd : d.size ≤ 3) : fits s a d ↔ fits t a d := by
  have h1 := h.a
  have h2 := h.b
  unfold fits
  rw [h.ext (a := a) (b := a + d.size) (by omega)]
  exact ⟨fun q => ⟨by omega, q.2⟩, fun q => ⟨by omega, q.2⟩⟩
theorem opN_beg {a : Nat} (ha : a + 3 ≤ n) : opN t a = opN s a := by
  have : (fun k => decide (fits t a (txt k))) = fun k => decide (fits s a (txt k)) := funext fun k => decide_eq_decide.2 (fits_beg h ha (txt_le k)).symm
  unfold opN
  rw [this]
theorem row_beg {a c : Nat} (ha : a + rowN s a c < n) : rowN t a c = rowN s a c := by
  have h1 := h.a
  have h2 := h.b
  conv => lhs; unfold rowN
  refine lead_eq _ (by omega) (fun i hi => ?_) (fun hi => ?_)
  · have := row_in hi
    rw [h.cl (by omega)] at this
    simpa using this
  · have := row_out (s := s) (a := a) (c := c) (by omega)
    rw [h.cl ha] at this
    simpa using this
theorem numN_beg {a : Nat} (ha : a + rowN s a 6 < n) : numN t a = numN s a := by
  have h1 := h.a
  have h2 := h.b
  unfold numN
  rw [row_beg h ha, h.e _ ha]
  have p1 : a + rowN s a 6 < s.size := by omega
  have p2 : a + rowN s a 6 < t.size := by omega
  simp only [p1, p2, true_and]
theorem wdE_beg {a : Nat} (ha : a ≤ n) (he : wdE s a < n) : wdE t a = wdE s a := by
  have h1 := h.a
  have h2 := h.b
  have hl := wdE_le (s := s) (a := a) (by omega)
  have hk : ∀ i, a + i ≤ n → fromK t a 0 i = fromK s a 0 i := fun i hi => runG_congr (fun j hj => (h.e _ (by omega)).symm)
  refine (wdE_of ⟨hl.1, by omega, fun i g1 g2 => ?_, fun _ => ?_⟩).symm
  · rw [hk _ (by omega), ← h.e i (by omega)]
    exact wdE_in g1 g2
  · rw [hk _ (by omega), ← h.e _ he]
    exact wdE_at (by omega) (by omega)
theorem num_word {a : Nat} (ha : a < s.size) (he : wdE s a + 2 ≤ n) : a + rowN s a 6 < n := by
  have h1 := h.a
  have hl := wdE_le (s := s) (a := a) (by omega)
  rcases Nat.lt_or_ge (a + rowN s a 6) n with g | g
  · exact g
  · exfalso
    have hc := row_in (s := s) (a := a) (c := 6) (i := wdE s a - a) (by omega)
    rw [show a + (wdE s a - a) = wdE s a by omega] at hc
    have hs := wdE_at (s := s) (a := a) (by omega) (by omega)
    unfold stops at hs
    rw [Bool.and_eq_true] at hs
    have hs1 := hs.1
    unfold endsB at hs1
    have hs2 := of_decide_eq_true hs1
    have : cls (by8 s (wdE s a)) = 6 := hc
    omega
theorem me_beg {a : Nat} (ha : a < s.size) (he : meE s a + 2 ≤ n) : meK t a = meK s a ∧ meE t a = meE s a := by
  have h1 := h.a
  have h2 := h.b
  have hok := meE_ok ha
  have hb : bstep t a = 0 ↔ bstep s a = 0 := by
    rw [← b1_zero, ← b1_zero, b1_beg h (by omega)]
  have hop := opN_beg h (a := a) (by omega)
  have hby := h.e a (by omega)
  have hm : a + 3 ≤ n := by omega
  unfold meK meE at *
  clear hok
  by_cases c1 : bstep s a = 0
  · have c1' := hb.2 c1
    have n1 : ¬ bstep s a ≠ 0 := fun e => e c1
    have n2 : ¬ bstep t a ≠ 0 := fun e => e c1'
    simp only [if_neg n1] at he
    simp only [if_neg n1, if_neg n2, ← hby]
    by_cases c2 : by8 s a = 10
    · simp only [if_pos c2]
      exact ⟨trivial, trivial⟩
    · simp only [if_neg c2] at he ⊢
      by_cases c3 : by8 s a = 35
      · simp only [if_pos c3] at he ⊢
        exact ⟨trivial, nlE_beg h (by omega) (by omega)⟩
      · simp only [if_neg c3] at he ⊢
        rw [hop]
        by_cases c4 : opN s a ≠ 0
        · simp only [if_pos c4]
          exact ⟨trivial, trivial⟩
        · simp only [if_neg c4] at he ⊢
          have hnn : a + rowN s a 6 < n := by
            by_cases c5 : numN s a ≠ 0
            · simp only [if_pos c5] at he
              have : numN s a = rowN s a 6 := by
                unfold numN at c5 ⊢
                split
                · rfl
                · rename_i g; rw [if_neg g] at c5; exact absurd rfl c5
              omega
            · simp only [if_neg c5] at he
              exact num_word h ha he
          rw [numN_beg h hnn]
          by_cases c5 : numN s a ≠ 0
          · simp only [if_pos c5]
            exact ⟨trivial, trivial⟩
          · simp only [if_neg c5] at he ⊢
            exact ⟨trivial, wdE_beg h (by omega) (by omega)⟩
  · have c1' : bstep t a ≠ 0 := fun e => c1 (hb.1 e)
    simp only [if_pos (show bstep s a ≠ 0 from c1)] at he
    simp only [if_pos (show bstep s a ≠ 0 from c1), if_pos c1']
    exact ⟨trivial, blE_beg h n a (by omega) (by omega) he⟩
end

def dAF (s : ByteArray) (d : Dl) : Nat → Nat → Nat × Bool
  | 0, a => (s.size, false)
  | k + 1, a => if a < s.size then (if delL (s.extract a (lnE s a)) d = true then (lnE s a, true) else dAF s d k (lnE s a)) else (s.size, false)
def dA (s : ByteArray) (d : Dl) (a : Nat) : Nat × Bool := dAF s d (s.size - a) a
section
variable (s : ByteArray) (d : Dl)
theorem dAF_more : ∀ (k a j : Nat), s.size - a ≤ k → k ≤ j → dAF s d j a = dAF s d k a
  | 0, a, 0, _, _ => rfl
  | 0, a, j + 1, h, _ => by
    show (if a < s.size then _ else _) = _
    rw [if_neg (by omega)]; rfl
  | k + 1, a, 0, _, h => by omega
  | k + 1, a, j + 1, h1, h2 => by
    unfold dAF
    by_cases h : a < s.size
    · rw [if_pos h, if_pos h]
      have := lnE_gt h
      rw [dAF_more k (lnE s a) j (by omega) (by omega)]
    · rw [if_neg h, if_neg h]
theorem dA_next {a : Nat} (h : a < s.size) : dA s d a = if delL (s.extract a (lnE s a)) d = true then (lnE s a, true) else dA s d (lnE s a) := by
  have hg := lnE_gt h
  unfold dA
  obtain ⟨k, hk⟩ : ∃ k, s.size - a = k + 1 := ⟨s.size - a - 1, by omega⟩
  rw [hk]
  conv => lhs; unfold dAF
  rw [if_pos h, dAF_more s d _ (lnE s a) k (Nat.le_refl _) (by omega)]
theorem dA_end {a : Nat} (h : ¬ a < s.size) : dA s d a = (s.size, false) := by
  unfold dA
  rw [show s.size - a = 0 by omega]; rfl
theorem dA_le : ∀ (k a : Nat), s.size - a ≤ k → a ≤ s.size → a ≤ (dA s d a).1 ∧ (dA s d a).1 ≤ s.size
  | 0, a, hk, ha => by rw [dA_end s d (by omega)]; exact ⟨ha, Nat.le_refl _⟩
  | k + 1, a, hk, ha => by
    by_cases h : a < s.size
    · have hg := lnE_gt h
      rw [dA_next s d h]
      split
      · exact ⟨by show a ≤ lnE s a; omega, by show lnE s a ≤ _; omega⟩
      · have := dA_le k (lnE s a) (by omega) (by omega)
        omega
    · rw [dA_end s d h]; exact ⟨ha, Nat.le_refl _⟩
theorem nlE_at_ext {a c : Nat} (hc : a + c ≤ s.size) : nlE (s.extract a s.size) c = nlE s (a + c) - a := by
  have hz := ext_size (s := s) (a := a) (b := s.size) (Nat.le_refl _)
  have hle := nlE_le (s := s) hc
  refine nlE_eq (by omega) (by omega) (fun i g1 hi => ?_) (fun hi => ?_)
  · rw [by8_ext (Nat.le_refl _) (by omega)]
    exact nlE_in (a := a + c) (by omega) (by omega)
  · rw [by8_ext (Nat.le_refl _) (by omega), show a + (nlE s (a + c) - a) = nlE s (a + c) by omega]
    exact nlE_at (by omega)
theorem lnE_at_ext {a c : Nat} (hc : a + c < s.size) : lnE (s.extract a s.size) c = lnE s (a + c) - a := by
  have hz := ext_size (s := s) (a := a) (b := s.size) (Nat.le_refl _)
  have hle := nlE_le (s := s) (Nat.le_of_lt hc)
  unfold lnE
  rw [nlE_at_ext s (Nat.le_of_lt hc), hz]
  by_cases h : nlE s (a + c) < s.size
  · rw [if_pos h, if_pos (by omega)]; omega
  · rw [if_neg h, if_neg (by omega)]
theorem docL_A (b : Nat) : ∀ (k c : Nat), s.size - b - c ≤ k → b + c ≤ s.size → docL d (lnF (s.extract b s.size) k c) c = ((dA s d (b + c)).1 - b, (dA s d (b + c)).2)
  | 0, c, hk, hc => by
    rw [dA_end s d (by omega)]
    show (c, false) = (s.size - b, false)
    rw [show c = s.size - b by omega]
  | k + 1, c, hk, hc => by
    have hz := ext_size (s := s) (a := b) (b := s.size) (Nat.le_refl _)
    unfold lnF
    by_cases h : b + c < s.size
    · have hg := lnE_gt h
      rw [if_pos (by omega), lnE_at_ext s h, dA_next s d h]
      have hx : (s.extract b s.size).extract c (lnE s (b + c) - b) = s.extract (b + c) (lnE s (b + c)) := by
        rw [ByteArray.extract_extract]
        congr 1
        omega
      rw [hx]
      show (if delL _ d = true then _ else docL d _ _) = _
      have hz2 : c + (s.extract (b + c) (lnE s (b + c))).size = lnE s (b + c) - b := by rw [ByteArray.size_extract]; omega
      rw [hz2]
      by_cases hd : delL (s.extract (b + c) (lnE s (b + c))) d = true
      · rw [if_pos hd, if_pos hd]
      · rw [if_neg hd, if_neg hd]
        have := docL_A b k (lnE s (b + c) - b) (by omega) (by omega)
        rw [show b + (lnE s (b + c) - b) = lnE s (b + c) by omega] at this
        exact this
    · rw [if_neg (by omega), dA_end s d h]
      show (c, false) = (s.size - b, false)
      rw [show c = s.size - b by omega]
theorem docN_A {a : Nat} (ha : a ≤ s.size) (ds : List Dl) : docN (s.extract a s.size) (d :: ds) = ((dA s d a).1 - a, (dA s d a).2) := by
  have hz := ext_size (s := s) (a := a) (b := s.size) (Nat.le_refl _)
  have := docL_A s d a (s.extract a s.size).size 0 (by omega) (by omega)
  exact this
end
section
variable {s t : ByteArray} {n : Nat} (h : Beg s t n)
include h
theorem dA_beg (d : Dl) : ∀ (k a : Nat), s.size - a ≤ k → a < s.size → (dA s d a).1 + 2 ≤ n → dA t d a = dA s d a
  | 0, a, hk, ha, _ => by omega
  | k + 1, a, hk, ha, he => by
    have h1 := h.a
    have h2 := h.b
    have hg := lnE_gt ha
    have hnl := nlE_le (s := s) (Nat.le_of_lt ha)
    have hle := dA_le s d (s.size - lnE s a) (lnE s a) (Nat.le_refl _) (by omega)
    have hlt : lnE s a + 2 ≤ n := by
      rw [dA_next s d ha] at he
      split at he
      · exact he
      · omega
    have hl : lnE s a = nlE s a + 1 ∧ nlE s a < s.size := by
      unfold lnE at hlt ⊢
      split
      · exact ⟨rfl, by assumption⟩
      · rename_i g; rw [if_neg g] at hlt; omega
    have hn := nlE_beg h (a := a) (by omega) (by omega)
    have hl2 : lnE t a = lnE s a := by
      conv => lhs; unfold lnE
      rw [hn, if_pos (by omega)]
      omega
    rw [dA_next t d (by omega), dA_next s d ha, hl2, ← h.ext (a := a) (b := lnE s a) (by omega)]
    split
    · rfl
    · rename_i g
      rw [dA_next s d ha, if_neg g] at he
      exact dA_beg d k (lnE s a) (by omega) (by omega) he
theorem tkN_beg {a : Nat} (x : Lx) (ha : a < s.size) (he : (tkN s a x).en + 2 ≤ n) : tkN t a x = tkN s a x ∧ nxN t a x = nxN s a x := by
  have h1 := h.a
  have h2 := h.b
  have hok := tkN_ok x ha
  have hat : a < t.size := by omega
  have hk : tkN t a x = tkN s a x := by
    unfold tkN at he ⊢
    by_cases hb : x.body = true
    · rw [if_pos hb] at he
      rw [if_pos hb, if_pos hb]
      match hp : x.pend with
      | [] =>
        rw [hp] at he
        have hz := ext_size (s := s) (a := a) (b := s.size) (Nat.le_refl _)
        have : (docN (s.extract a s.size) []).1 = s.size - a := hz
        dsimp only at he
        omega
      | d :: ds =>
        rw [hp] at he
        rw [docN_A s d (a := a) (by omega) ds] at he ⊢
        rw [docN_A t d (a := a) (by omega) ds]
        have hle := dA_le s d (s.size - a) a (Nat.le_refl _) (by omega)
        have he' : a + ((dA s d a).1 - a) + 2 ≤ n := he
        rw [dA_beg h d (s.size - a) a (Nat.le_refl _) ha (by omega)]
    · rw [if_neg hb] at he
      rw [if_neg hb, if_neg hb]
      obtain ⟨e1, e2⟩ := me_beg h ha he
      rw [e1, e2, h.ext (a := a) (b := meE s a) (by have : meE s a + 2 ≤ n := he; omega)]
  refine ⟨hk, ?_⟩
  unfold nxN
  rw [hk, h.ext (a := (tkN s a x).frm) (b := (tkN s a x).en) (by omega)]
end
end Go.Proofs.YtgfkbfojeohlkaaGreatDoor
namespace Go.Proofs.YtgfkbfojeohlkaaGreatDoor
open Go.RowKit
set_option linter.unusedVariables false
set_option linter.unusedSectionVars false

def tbN (s : ByteArray) (a i : Nat) (tabs : Bool) : Nat := if tabs = true then lead (fun j => decide (by8 s (a + j) = 9)) (i - a) else 0
theorem tbN_le (s : ByteArray) (a i : Nat) (tabs : Bool) : tbN s a i tabs ≤ i - a := by
  unfold tbN
  split
  · exact lead_le _ _
  · exact Nat.zero_le _
theorem ext_drop (x : ByteArray) (k : Nat) : (⟨(x.data.toList.drop k).toArray⟩ : ByteArray) = x.extract k x.size := by
  rw [Lib.extract_eq]
  congr 2
  exact (List.take_of_length_le (by rw [List.length_drop, Lib.size_eq]; exact Nat.le_refl _)).symm
theorem delT_of {l x : ByteArray} (h : (⟨(Lib.trimSuffix l.data.toList [10]).toArray⟩ : ByteArray) = x) (tabs : Bool) : delT l tabs = x.extract (tbN x 0 x.size tabs) x.size := by
  unfold delT tbN
  cases tabs with
  | false =>
    rw [if_neg (by decide), if_neg (by decide), h, ByteArray.extract_zero_size]
  | true =>
    rw [if_pos rfl, if_pos rfl]
    have hl : Lib.trimSuffix l.data.toList [10] = x.data.toList := by rw [← h]
    rw [hl, ← ext_drop]
    congr 2
    have hle := lead_le (fun j => decide (by8 x (0 + j) = 9)) (x.size - 0)
    have hsz := Lib.size_eq x
    refine Lib.trimLeftB_drop _ _ _ (by omega) (fun j b hj hb => ?_) (fun b hb => ?_)
    · have := lead_all (fun j => decide (by8 x (0 + j) = 9)) (z := x.size - 0) hj
      have hjl : j < x.data.toList.length := by omega
      have e := list_at hjl
      rw [List.getElem?_eq_getElem hjl] at hb
      injection hb with hb
      rw [hb] at e
      simp only [Nat.zero_add, decide_eq_true_eq] at this
      exact UInt8.toNat_inj.1 (by rw [e, this]; rfl)
    · generalize hk : lead (fun j => decide (by8 x (0 + j) = 9)) (x.size - 0) = k at hb hle
      obtain ⟨hjl, hb'⟩ := List.getElem?_eq_some_iff.1 hb
      have := lead_stop (fun j => decide (by8 x (0 + j) = 9)) (z := x.size - 0) (by omega)
      rw [hk] at this
      have e := list_at hjl
      rw [hb'] at e
      simp only [Nat.zero_add, decide_eq_false_iff_not] at this
      intro eb
      exact this (by rw [← e, eb]; rfl)
theorem trim_hit {s : ByteArray} {a i : Nat} (h1 : a ≤ i) (h2 : i < s.size) (h3 : by8 s i = 10) : (⟨(Lib.trimSuffix (s.extract a (i + 1)).data.toList [10]).toArray⟩ : ByteArray) = s.extract a i := by
  have hz := ext_size (s := s) (a := a) (b := i + 1) (by omega)
  have e0 : (s.extract a (i + 1)).extract ((s.extract a (i + 1)).size - 1) (s.extract a (i + 1)).size = (⟨#[10]⟩ : ByteArray) := by
    refine bt_ext ?_ (fun j hj => ?_)
    · rw [ByteArray.size_extract, hz]
      show _ = 1
      omega
    · rw [ByteArray.size_extract, hz] at hj
      rw [hz]
      obtain rfl : j = 0 := by omega
      rw [bt_extract _ _ _ _ (by omega) (by omega), bt_extract _ _ _ _ (by omega) (by omega)]
      rw [show a + (i + 1 - a - 1 + 0) = i by omega]
      exact UInt8.toNat_inj.1 h3
  have := Lib.trimSuffix_hit (s.extract a (i + 1)) ⟨#[10]⟩ (by show 1 ≤ _; omega) (by rw [bs_eqb, decide_eq_true_iff]; exact e0)
  rw [show (s.extract a (i + 1)).size - (⟨#[10]⟩ : ByteArray).size = i - a from by rw [hz]; show i + 1 - a - 1 = i - a; omega] at this
  refine this.trans ?_
  rw [ByteArray.extract_extract]
  congr 1
  omega
theorem trim_miss {s : ByteArray} {a : Nat} (h1 : a ≤ s.size) (h3 : a < s.size → by8 s (s.size - 1) ≠ 10) : (⟨(Lib.trimSuffix (s.extract a s.size).data.toList [10]).toArray⟩ : ByteArray) = s.extract a s.size := by
  have hz := ext_size (s := s) (a := a) (b := s.size) (Nat.le_refl _)
  refine Lib.trimSuffix_miss (s.extract a s.size) ⟨#[10]⟩ ?_
  rw [Bool.and_eq_false_iff]
  by_cases g : a < s.size
  · right
    rw [bs_eqb, decide_eq_false_iff_not]
    intro e
    have hb : by8 ((s.extract a s.size).extract ((s.extract a s.size).size - (⟨#[10]⟩ : ByteArray).size) (s.extract a s.size).size) 0 = 10 := by rw [e]; rfl
    rw [show (⟨#[10]⟩ : ByteArray).size = 1 from rfl, hz, by8_ext (by omega) (by omega), by8_ext (Nat.le_refl _) (by omega), show a + (s.size - a - 1 + 0) = s.size - 1 by omega] at hb
    exact h3 g hb
  · left
    rw [decide_eq_false_iff_not]
    show ¬ 1 ≤ _
    omega
theorem tbN_ext {s : ByteArray} {a i : Nat} (h1 : a ≤ i) (h2 : i ≤ s.size) (tabs : Bool) : tbN (s.extract a i) 0 (s.extract a i).size tabs = tbN s a i tabs := by
  have hz := ext_size (s := s) (a := a) (b := i) h2
  unfold tbN
  cases tabs with
  | false => simp only [Bool.false_eq_true, if_false]
  | true =>
    simp only [if_true]
    rw [hz, Nat.sub_zero]
    have hle := lead_le (fun j => decide (by8 s (a + j) = 9)) (i - a)
    refine lead_eq _ hle (fun j hj => ?_) (fun hj => ?_)
    · have := lead_all (fun j => decide (by8 s (a + j) = 9)) (z := i - a) hj
      rw [Nat.zero_add, by8_ext h2 (by omega)]
      exact this
    · have := lead_stop (fun j => decide (by8 s (a + j) = 9)) (z := i - a) hj
      rw [Nat.zero_add, by8_ext h2 (by omega)]
      exact this
theorem delL_at {s : ByteArray} {a i : Nat} (h1 : a ≤ i) (h2 : i ≤ s.size) (hi : nlE s a = i) (h0 : a < s.size) (d : Dl) : delL (s.extract a (lnE s a)) d = decide (s.extract (a + tbN s a i d.tabs) i = d.word) := by
  have hx : (⟨(Lib.trimSuffix (s.extract a (lnE s a)).data.toList [10]).toArray⟩ : ByteArray) = s.extract a i := by
    unfold lnE
    rw [hi]
    by_cases g : i < s.size
    · rw [if_pos g]
      exact trim_hit h1 g (by have := nlE_at (s := s) (a := a) (by omega); rwa [hi] at this)
    · rw [if_neg g]
      obtain rfl : i = s.size := by omega
      exact trim_miss h1 (fun g => nlE_in (a := a) (by omega) (by omega))
  unfold delL
  rw [delT_of hx, tbN_ext h1 h2]
  have hz := ext_size (s := s) (a := a) (b := i) h2
  have ht := tbN_le s a i d.tabs
  rw [hz, ByteArray.extract_extract]
  congr 2
  congr 1
  omega

theorem sf_nota : ∀ b, b < 256 → safeB b = true → b ≠ 92 ∧ b ≠ 39 ∧ b ≠ 34 ∧ b ≠ 96 ∧ b ≠ 36 ∧ b ≠ 35 ∧ b ≠ 40 ∧ b ≠ 41 := by decide +kernel
theorem sf_notb : ∀ b, b < 256 → safeB b = true → endsB b = false ∧ b ≠ 10 ∧ b ≠ 9 ∧ cls b ≠ 1 ∧ cls b ≠ 3 := by decide +kernel
theorem sf_not (b : Nat) (h : b < 256) (hs : safeB b = true) : b ≠ 92 ∧ b ≠ 39 ∧ b ≠ 34 ∧ b ≠ 96 ∧ b ≠ 36 ∧ b ≠ 35 ∧ b ≠ 40 ∧ b ≠ 41 ∧ endsB b = false ∧ b ≠ 10 ∧ b ≠ 9 ∧ cls b ≠ 1 ∧ cls b ≠ 3 := by
  obtain ⟨h1, h2, h3, h4, h5, h6, h7, h8⟩ := sf_nota b h hs
  exact ⟨h1, h2, h3, h4, h5, h6, h7, h8, sf_notb b h hs⟩
theorem sf_mv {b : Nat} (hb : b < 256) (hs : safeB b = true) (fr : Bool) : mv 0 b fr = (.keep, endsB b) := by
  obtain ⟨h1, h2, h3, h4, h5, h6, h7, h8, _⟩ := sf_not b hb hs
  unfold mv
  rw [if_pos (by decide), if_neg h1, if_neg h2, if_neg h3, if_neg (by omega), if_neg (by omega), if_neg h7, if_neg h8]
theorem sf_feed {b : Nat} (hb : b < 256) (hs : safeB b = true) (fr : Bool) (p : Nat) : feed ⟨[(0, 0)], fr⟩ b p = ⟨[(0, 0)], endsB b⟩ := by
  show plainF [(0, 0)] fr b p = _
  unfold plainF fin
  simp only
  rw [sf_mv hb hs]
  rfl
theorem sf_runG {β : Nat → Nat} {n p : Nat} (hb : ∀ i, i < n → β i < 256) (hs : ∀ i, i < n → safeB (β i) = true) : ∀ k, k ≤ n → ∃ fr, runG Ms.start β p k = ⟨[(0, 0)], fr⟩
  | 0, _ => ⟨true, rfl⟩
  | k + 1, hk => by
    obtain ⟨fr, h⟩ := sf_runG (p := p) hb hs k (by omega)
    refine ⟨endsB (β k), ?_⟩
    show feed (runG Ms.start β p k) (β k) (p + k) = _
    rw [h]
    exact sf_feed (hb k (by omega)) (hs k (by omega)) fr _
theorem sf_born {s : ByteArray} (hs : ∀ i, i < s.size → safeB (by8 s i) = true) (a : Nat) (ha : a < s.size) : born s a = false := by
  obtain ⟨fr, h⟩ := sf_runG (β := by8 s) (n := s.size) (p := 0) (fun i _ => by8_lt s i) hs (a + 1) (by omega)
  have := nt_of (s := s) (k := a + 1) (st := []) h
  unfold born pres
  rw [this]
  rfl
theorem sf_bare {s : ByteArray} (hs : ∀ i, i < s.size → safeB (by8 s i) = true) : bareL (PCs s) = s := by
  have e : PCs s = fl false s false := by
    unfold PCs
    rw [Rm_all (Nat.le_refl _) s.size 0 _ _ (fun x _ h => sf_born hs x h) (by omega) (Nat.zero_le _), ByteArray.empty_append, ByteArray.extract_zero_size]
  rw [e]
  unfold fl
  by_cases h : s.size = 0 ∧ false = false
  · rw [if_pos h]
    exact (ByteArray.ext (Array.eq_empty_of_size_eq_zero h.1)).symm
  · rw [if_neg h]
    show s ++ ByteArray.empty = s
    rw [ByteArray.append_empty]
theorem sf_opn {s : ByteArray} (hs : ∀ i, i < s.size → safeB (by8 s i) = true) : opnW s = false := by
  obtain ⟨fr, h⟩ := sf_runG (β := by8 s) (n := s.size) (p := 0) (fun i _ => by8_lt s i) hs s.size (Nat.le_refl _)
  unfold opnW runK
  rw [h]
  rfl
theorem sf_wdE {s : ByteArray} {a n : Nat} (hn : a + n < s.size) (hs : ∀ i, i < n → safeB (by8 s (a + i)) = true) (he : endsB (by8 s (a + n)) = true) : wdE s a = a + n := by
  refine (wdE_of ⟨by omega, by omega, fun i h1 h2 => ?_, fun _ => ?_⟩).symm
  · unfold stops
    have := hs (i - a) (by omega)
    rw [show a + (i - a) = i by omega] at this
    rw [(sf_not _ (by8_lt s i) this).2.2.2.2.2.2.2.2.1]
    rfl
  · obtain ⟨fr, h⟩ := sf_runG (β := fun i => by8 s (a + i)) (n := n) (p := 0) (fun i _ => by8_lt s _) hs n (Nat.le_refl _)
    unfold stops fromK
    rw [show a + n - a = n by omega, h, he]
    rfl
theorem opN_cls {s : ByteArray} {a : Nat} (h0 : opN s a ≠ 0) : cl s a = 3 := by
  have hm := opN_mem h0
  have hz := (txt_size_in hm).1
  have e := fits_bt (opN_fits h0) 0 (by omega)
  have : ∀ k ∈ ops, cl (txt k) 0 = 3 := by decide +kernel
  have h3 := this _ hm
  unfold cl at h3 ⊢
  rw [← e] at h3
  exact h3
section
variable {s : ByteArray} {a : Nat} (ha : a < s.size)
include ha
theorem b1_no (h1 : cl s a ≠ 1) (h2 : by8 s a ≠ 92) : bstep s a = 0 := by
  rw [← b1_zero]
  unfold b1
  rw [if_neg (fun e => h1 e.2), if_neg (fun e => h2 e.2.1)]
theorem tk_word {n : Nat} (x : Lx) (hx : x.body = false) (h0 : 0 < n) (hn : a + n < s.size) (hs : ∀ i, i < n → safeB (by8 s (a + i)) = true) (he : endsB (by8 s (a + n)) = true) (h5 : cl s a = 5) : tkN s a x = ⟨6, a, a + n, false⟩ := by
  have hsa := hs 0 h0
  rw [Nat.add_zero] at hsa
  have hnot := sf_not _ (by8_lt s a) hsa
  have hb := b1_no (s := s) (a := a) ha (by omega) hnot.1
  have ho : opN s a = 0 := by
    by_cases g : opN s a = 0
    · exact g
    · have := opN_cls g; omega
  have hm : numN s a = 0 := by
    have : rowN s a 6 = 0 := by
      rcases Nat.eq_zero_or_pos (rowN s a 6) with g | g
      · exact g
      · have := (row_pos.1 g).2; omega
    unfold numN
    split
    · exact this
    · rfl
  have hw := sf_wdE hn hs he
  have hk : meK s a = 6 := by
    unfold meK
    rw [if_neg (by omega), if_neg hnot.2.2.2.2.2.2.2.2.2.1, if_neg hnot.2.2.2.2.2.1, if_neg (by omega), if_neg (by omega)]
  have hE : meE s a = a + n := by
    unfold meE
    rw [if_neg (by omega), if_neg hnot.2.2.2.2.2.2.2.2.2.1, if_neg hnot.2.2.2.2.2.1, if_neg (by omega), if_neg (by omega), hw]
  unfold tkN
  rw [if_neg (by rw [hx]; decide), hk, hE, sf_opn]
  · rfl
  · intro i hi
    have hz := ext_size (s := s) (a := a) (b := a + n) (by omega)
    rw [by8_ext (by omega) (by omega)]
    exact hs i (by omega)
theorem tk_blank (x : Lx) (hx : x.body = false) (h1 : cl s a = 1) (h2 : cl s (a + 1) ≠ 1) (h3 : by8 s (a + 1) ≠ 92) : tkN s a x = ⟨1, a, a + 1, false⟩ := by
  have e1 : b1 s a = 1 := by unfold b1; rw [if_pos ⟨ha, h1⟩]
  have hb : bstep s a ≠ 0 := fun e => by have := b1_zero.2 e; omega
  have e2 : b1 s (a + 1) = 0 := by
    unfold b1
    rw [if_neg (fun e => h2 e.2), if_neg (fun e => h3 e.2.1)]
  have hE : blE s a = a + 1 := by rw [blE_one (Nat.le_of_lt ha) (by omega), e1, blE_stop e2]
  unfold tkN
  rw [if_neg (by rw [hx]; decide)]
  have hk : meK s a = 1 := by unfold meK; rw [if_pos hb]
  have hE2 : meE s a = a + 1 := by unfold meE; rw [if_pos hb, hE]
  rw [hk, hE2]
  rfl
theorem tk_line (x : Lx) (hx : x.body = false) (h1 : by8 s a = 10) : tkN s a x = ⟨2, a, a + 1, false⟩ := by
  have hc : cl s a = 2 := by show cls (by8 s a) = 2; rw [h1]; rfl
  have hb := b1_no (s := s) (a := a) ha (by omega) (by omega)
  unfold tkN
  rw [if_neg (by rw [hx]; decide)]
  have hk : meK s a = 2 := by unfold meK; rw [if_neg (by omega), if_pos h1]
  have hE2 : meE s a = a + 1 := by unfold meE; rw [if_neg (by omega), if_pos h1]
  rw [hk, hE2]
  rfl
theorem tk_oper (x : Lx) (hx : x.body = false) (h0 : opN s a ≠ 0) : tkN s a x = ⟨4, a, a + (txt (opN s a)).size, false⟩ := by
  have hc := opN_cls h0
  have h92 : by8 s a ≠ 92 ∧ by8 s a ≠ 10 ∧ by8 s a ≠ 35 := by
    have hc' : cls (by8 s a) = 3 := hc
    refine ⟨fun e => ?_, fun e => ?_, fun e => ?_⟩ <;> (rw [e] at hc'; exact absurd hc' (by decide))
  have hb := b1_no (s := s) (a := a) ha (by omega) h92.1
  unfold tkN
  rw [if_neg (by rw [hx]; decide)]
  have hk : meK s a = 4 := by unfold meK; rw [if_neg (by omega), if_neg h92.2.1, if_neg h92.2.2, if_pos h0]
  have hE2 : meE s a = a + (txt (opN s a)).size := by unfold meE; rw [if_neg (by omega), if_neg h92.2.1, if_neg h92.2.2, if_pos h0]
  rw [hk, hE2]
  rfl
theorem tk_here (aw : Nat) (d : Dl) : tkN s a ⟨aw, [d], true⟩ = ⟨7, a, (dA s d a).1, !(dA s d a).2⟩ := by
  have hle := dA_le s d (s.size - a) a (Nat.le_refl _) (Nat.le_of_lt ha)
  unfold tkN
  rw [if_pos rfl]
  show (⟨7, a, a + (docN (s.extract a s.size) [d]).1, !(docN (s.extract a s.size) [d]).2⟩ : Tk) = _
  rw [docN_A s d (Nat.le_of_lt ha)]
  show (⟨7, a, a + ((dA s d a).1 - a), _⟩ : Tk) = _
  rw [show a + ((dA s d a).1 - a) = (dA s d a).1 by omega]
end
theorem op_four {s : ByteArray} {a : Nat} (ha : a + 2 ≤ s.size) (h0 : by8 s a = 60) (h1 : by8 s (a + 1) = 60) (h2 : a + 2 < s.size → by8 s (a + 2) ≠ 45) : opN s a = 4 := by
  refine opN_found (n := 2) (by decide) rfl (fits_of_bt ha fun i hi => ?_) (fun k hk hz hf => ?_)
  · have hi2 : i < 2 := hi
    rcases (by omega : i = 0 ∨ i = 1) with rfl | rfl
    · exact UInt8.toNat_inj.1 h0
    · exact UInt8.toNat_inj.1 h1
  · have : ∀ k ∈ ops, 2 < (txt k).size → k = 5 := by decide +kernel
    obtain rfl := this k hk hz
    have hle := hf.1
    have hb := fits_bt hf 2 (by decide)
    have hle3 : a + 3 ≤ s.size := hle
    exact h2 (by omega) (by show (bt s (a + 2)).toNat = 45; rw [hb]; rfl)
theorem op_five {s : ByteArray} {a : Nat} (ha : a + 3 ≤ s.size) (h0 : by8 s a = 60) (h1 : by8 s (a + 1) = 60) (h2 : by8 s (a + 2) = 45) : opN s a = 5 := by
  refine opN_found (n := 3) (by decide) rfl (fits_of_bt ha fun i hi => ?_) (fun k hk hz hf => ?_)
  · have hi2 : i < 3 := hi
    rcases (by omega : i = 0 ∨ i = 1 ∨ i = 2) with rfl | rfl | rfl
    · exact UInt8.toNat_inj.1 h0
    · exact UInt8.toNat_inj.1 h1
    · exact UInt8.toNat_inj.1 h2
  · have := txt_le k
    omega
theorem op_ext {s : ByteArray} {a : Nat} (h : opN s a ≠ 0) : ofN (s.extract a (a + (txt (opN s a)).size)) = opN s a := by
  rw [(opN_fits h).2, ofN_txt (opN_mem h)]

def Lies (T b : ByteArray) (H : Nat) : Prop := H + b.size ≤ T.size ∧ ∀ i, i < b.size → by8 T (H + i) = by8 b i
theorem lies_ext {T b : ByteArray} {H i j : Nat} (h : Lies T b H) (hj : j ≤ b.size) : T.extract (H + i) (H + j) = b.extract i j := by
  have h1 := h.1
  refine bt_ext ?_ (fun k hk => ?_)
  · rw [ByteArray.size_extract, ByteArray.size_extract]; omega
  · rw [ByteArray.size_extract] at hk
    rw [bt_extract _ _ _ _ (by omega) (by omega), bt_extract _ _ _ _ (by omega) (by omega)]
    have := h.2 (i + k) (by omega)
    rw [show H + (i + k) = H + i + k by omega] at this
    exact UInt8.toNat_inj.1 this
theorem dA_lines {T b : ByteArray} {H : Nat} (h : Lies T b H) (hb : 0 < b.size → by8 b (b.size - 1) = 10) (hT : H + b.size < T.size) (d : Dl) : ∀ (k a : Nat), b.size - a ≤ k → a ≤ b.size → (dA b d a).2 = false → dA T d (H + a) = dA T d (H + b.size)
  | 0, a, hk, ha, _ => by rw [show a = b.size by omega]
  | k + 1, a, hk, ha, hd => by
    by_cases g : a < b.size
    · have hg := lnE_gt g
      have hl := nlE_le (s := b) (a := a) (Nat.le_of_lt g)
      have hn : nlE b a < b.size := by
        rcases Nat.lt_or_ge (nlE b a) b.size with q | q
        · exact q
        · exact absurd (hb (by omega)) (nlE_in (a := a) (by omega) (by omega))
      have hln : lnE b a = nlE b a + 1 := by unfold lnE; rw [if_pos hn]
      have hnT : nlE T (H + a) = H + nlE b a := by
        refine nlE_eq (by omega) (by omega) (fun i h1 h2 => ?_) (fun _ => ?_)
        · have e := h.2 (i - H) (by omega)
          rw [show H + (i - H) = i by omega] at e
          rw [e]
          exact nlE_in (a := a) (by omega) (by omega)
        · rw [h.2 _ hn]; exact nlE_at hn
      have hlT : lnE T (H + a) = H + lnE b a := by
        conv => lhs; unfold lnE
        rw [hnT, if_pos (by omega)]
        omega
      have hx : T.extract (H + a) (lnE T (H + a)) = b.extract a (lnE b a) := by rw [hlT]; exact lies_ext h (by omega)
      rw [dA_next b d g] at hd
      split at hd
      · cases hd
      · rename_i hdl
        rw [dA_next T d (by omega), hx, if_neg hdl, hlT]
        exact dA_lines h hb hT d k (lnE b a) (by omega) (by omega) hd
    · rw [show a = b.size by omega]
theorem dA_last {T l : ByteArray} {p n : Nat} (hl : Lies T l p) (hz : l.size = n + 1) (hnl : by8 l n = 10) (hin : ∀ i, i < n → by8 l i ≠ 10) (d : Dl) (k : Nat) (hk : k ≤ n) (htab : tbN T p (p + n) d.tabs = k) (hw : T.extract (p + k) (p + n) = d.word) : dA T d p = (p + l.size, true) := by
  have h1 := hl.1
  have hn : nlE T p = p + n := nlE_eq (by omega) (by omega) (fun i g1 g2 => by
    have := hl.2 (i - p) (by omega)
    rw [show p + (i - p) = i by omega] at this
    rw [this]; exact hin _ (by omega)) (fun _ => by rw [hl.2 n (by omega)]; exact hnl)
  have hln : lnE T p = p + l.size := by
    unfold lnE
    rw [hn, if_pos (by omega)]
    omega
  have hd := delL_at (s := T) (a := p) (i := p + n) (by omega) (by omega) hn (by omega) d
  rw [htab, hw, decide_eq_true rfl] at hd
  rw [dA_next T d (by omega), if_pos hd, hln]
theorem six {T : ByteArray} {o n E : Nat} {d : Dl} {tabs : Bool} (ho : o = if tabs = true then 5 else 4) (h0 : by8 T 0 = 99) (h1 : by8 T 1 = 32) (h2 : by8 T 2 = 60) (h3 : by8 T 3 = 60) (h4 : tabs = true → by8 T 4 = 45)
    (hn : 0 < n) (hz : o + n + 1 < T.size) (hs : ∀ i, i < n → safeB (by8 T (o + i)) = true) (h5 : cl T o = 5) (h10 : by8 T (o + n) = 10) (hd : d = ⟨T.extract o (o + n), tabs⟩) (hE : dA T d (o + n + 1) = (E, true)) :
    ∃ rest, (TKs T).map Prod.fst = ⟨6, 0, 1, false⟩ :: ⟨1, 1, 2, false⟩ :: ⟨4, 2, o, false⟩ :: ⟨6, o, o + n, false⟩ :: ⟨2, o + n, o + n + 1, false⟩ :: ⟨7, o + n + 1, E, false⟩ :: rest := by
  have ho4 : 4 ≤ o := by rw [ho]; split <;> omega
  have hsafe : ∀ b, b = 99 → safeB b = true := by intro b e; rw [e]; decide
  have t0 : tkN T 0 Lx.zero = ⟨6, 0, 1, false⟩ := tk_word (by omega) Lx.zero rfl (n := 1) (by omega) (by omega) (fun i hi => by rw [show i = 0 by omega]; exact hsafe _ h0) (by rw [h1]; decide) (by show cls (by8 T 0) = 5; rw [h0]; rfl)
  have x0 : nxN T 0 Lx.zero = Lx.zero := by unfold nxN; rw [t0]; rfl
  have t1 : tkN T 1 Lx.zero = ⟨1, 1, 2, false⟩ := tk_blank (by omega) Lx.zero rfl (by show cls (by8 T 1) = 1; rw [h1]; rfl) (by show cls (by8 T 2) ≠ 1; rw [h2]; decide) (by show by8 T 2 ≠ 92; omega)
  have x1 : nxN T 1 Lx.zero = Lx.zero := by unfold nxN; rw [t1]; rfl
  have hcl5 : ∀ b, cls b = 5 → b ≠ 45 := by intro b h e; rw [e] at h; exact absurd h (by decide)
  obtain ⟨op, hop, hopz, hop45, hopd⟩ : ∃ op, opN T 2 = op ∧ 2 + (txt op).size = o ∧ (op = 4 ∨ op = 5) ∧ tabs = decide (op = 5) := by
    cases tabs with
    | true =>
      rw [if_pos rfl] at ho
      exact ⟨5, op_five (by omega) h2 h3 (h4 rfl), by rw [ho]; rfl, .inr rfl, rfl⟩
    | false =>
      rw [if_neg (by decide)] at ho
      refine ⟨4, op_four (by omega) h2 h3 (fun _ => ?_), by rw [ho]; rfl, .inl rfl, rfl⟩
      rw [ho] at h5
      exact hcl5 _ h5
  have t2 : tkN T 2 Lx.zero = ⟨4, 2, o, false⟩ := by rw [tk_oper (by omega) Lx.zero rfl (by omega), hop, hopz]
  have x2 : nxN T 2 Lx.zero = ⟨op, [], false⟩ := by
    unfold nxN
    rw [t2]
    have e := op_ext (s := T) (a := 2) (by omega)
    rw [hop, hopz] at e
    show lxN Lx.zero 4 false (T.extract 2 o) = _
    unfold lxN
    rw [if_neg (by decide), if_neg (by decide), if_neg (by decide), if_pos rfl, e, if_pos hop45]
    rfl
  have t3 : tkN T o ⟨op, [], false⟩ = ⟨6, o, o + n, false⟩ := tk_word (by omega) _ rfl hn (by omega) hs (by rw [h10]; decide) h5
  have x3 : nxN T o ⟨op, [], false⟩ = ⟨0, [d], false⟩ := by
    unfold nxN
    rw [t3]
    show lxN ⟨op, [], false⟩ 6 false (T.extract o (o + n)) = _
    unfold lxN
    rw [if_neg (by decide), if_neg (by decide), if_neg (by decide), if_neg (by decide), if_pos ⟨rfl, by show op ≠ 0; omega⟩, sf_bare]
    · show (⟨0, [] ++ [⟨T.extract o (o + n), decide (op = 5)⟩], false⟩ : Lx) = _
      rw [← hopd, ← hd]
      rfl
    · intro i hi
      have hzz := ext_size (s := T) (a := o) (b := o + n) (by omega)
      rw [by8_ext (by omega) (by omega)]
      exact hs i (by omega)
  have t4 : tkN T (o + n) ⟨0, [d], false⟩ = ⟨2, o + n, o + n + 1, false⟩ := tk_line (by omega) _ rfl h10
  have x4 : nxN T (o + n) ⟨0, [d], false⟩ = ⟨0, [d], true⟩ := by unfold nxN; rw [t4]; rfl
  have t5 : tkN T (o + n + 1) ⟨0, [d], true⟩ = ⟨7, o + n + 1, E, false⟩ := by rw [tk_here (by omega), hE]; rfl
  have e : TKs T = tksF T (T.size - 0) 0 Lx.zero := rfl
  rw [e, tksF_next Lx.zero (by omega), t0, x0]
  show ∃ rest, List.map Prod.fst ((⟨6, 0, 1, false⟩, Lx.zero) :: tksF T (T.size - 1) 1 Lx.zero) = _
  rw [tksF_next Lx.zero (by omega), t1, x1]
  show ∃ rest, List.map Prod.fst ((⟨6, 0, 1, false⟩, Lx.zero) :: (⟨1, 1, 2, false⟩, Lx.zero) :: tksF T (T.size - 2) 2 Lx.zero) = _
  rw [tksF_next Lx.zero (by omega), t2, x2]
  show ∃ rest, List.map Prod.fst ((⟨6, 0, 1, false⟩, Lx.zero) :: (⟨1, 1, 2, false⟩, Lx.zero) :: (⟨4, 2, o, false⟩, _) :: tksF T (T.size - o) o ⟨op, [], false⟩) = _
  rw [tksF_next _ (by omega), t3, x3]
  show ∃ rest, List.map Prod.fst ((⟨6, 0, 1, false⟩, Lx.zero) :: (⟨1, 1, 2, false⟩, Lx.zero) :: (⟨4, 2, o, false⟩, _) :: (⟨6, o, o + n, false⟩, _) :: tksF T (T.size - (o + n)) (o + n) ⟨0, [d], false⟩) = _
  rw [tksF_next _ (by omega), t4, x4]
  show ∃ rest, List.map Prod.fst ((⟨6, 0, 1, false⟩, Lx.zero) :: (⟨1, 1, 2, false⟩, Lx.zero) :: (⟨4, 2, o, false⟩, _) :: (⟨6, o, o + n, false⟩, _) :: (⟨2, o + n, o + n + 1, false⟩, _) :: tksF T (T.size - (o + n + 1)) (o + n + 1) ⟨0, [d], true⟩) = _
  rw [tksF_next _ (by omega), t5]
  exact ⟨_, rfl⟩
end Go.Proofs.YtgfkbfojeohlkaaGreatDoor

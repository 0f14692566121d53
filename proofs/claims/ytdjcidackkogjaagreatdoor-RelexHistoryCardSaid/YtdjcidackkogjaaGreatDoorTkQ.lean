/- Tokens, plainly: where blanks, lines, numbers, words and here-documents end, told by absolute places; a token hangs on no byte more than two behind it. No condition: nothing here speaks of the program. -/
import Derived.Test.YtdjcidackkogjaaGreatDoorTkE
namespace Go.Proofs.YtdjcidackkogjaaGreatDoor
open Go.RowKit
set_option linter.unusedVariables false

theorem row_pos {s : ByteArray} {a c : Nat} : 0 < rowN s a c ↔ a < s.size ∧ cl s a = c := by
  unfold rowN
  constructor
  · intro h
    have hle := lead_le (fun i => decide (cl s (a + i) = c)) (s.size - a)
    have := lead_all (fun i => decide (cl s (a + i) = c)) (z := s.size - a) (i := 0) h
    exact ⟨by omega, by simpa using this⟩
  · rintro ⟨h1, h2⟩
    rcases Nat.eq_zero_or_pos (lead (fun i => decide (cl s (a + i) = c)) (s.size - a)) with h | h
    · have := lead_stop (fun i => decide (cl s (a + i) = c)) (z := s.size - a) (by omega)
      rw [h] at this
      simp [h2] at this
    · exact h
theorem row_next {s : ByteArray} {a c : Nat} (h : 0 < rowN s a c) : rowN s a c = rowN s (a + 1) c + 1 := by
  obtain ⟨h1, h2⟩ := row_pos.1 h
  have hle := rowN_le s (a + 1) c
  have hin : ∀ i, i < rowN s (a + 1) c → cl s (a + 1 + i) = c := fun i hi => by
    have := lead_all (fun i => decide (cl s (a + 1 + i) = c)) (z := s.size - (a + 1)) (i := i) hi
    simpa using this
  have hst : rowN s (a + 1) c < s.size - (a + 1) → cl s (a + 1 + rowN s (a + 1) c) ≠ c := fun hi => by
    have := lead_stop (fun i => decide (cl s (a + 1 + i) = c)) (z := s.size - (a + 1)) hi
    have e : lead (fun i => decide (cl s (a + 1 + i) = c)) (s.size - (a + 1)) = rowN s (a + 1) c := rfl
    rw [e] at this
    simpa using this
  generalize rowN s (a + 1) c = r at *
  unfold rowN
  refine lead_eq _ (by omega) (fun i hi => ?_) (fun hi => ?_)
  · rcases Nat.eq_zero_or_pos i with rfl | hp
    · simpa using h2
    · have := hin (i - 1) (by omega)
      rw [show a + 1 + (i - 1) = a + i by omega] at this
      simpa using this
  · have := hst (by omega)
    rw [show a + 1 + r = a + (r + 1) by omega] at this
    simpa using this
theorem row_in {s : ByteArray} {a c i : Nat} (h : i < rowN s a c) : cl s (a + i) = c := by
  have := lead_all (fun i => decide (cl s (a + i) = c)) (z := s.size - a) (i := i) h
  simpa using this
theorem row_out {s : ByteArray} {a c : Nat} (h : a + rowN s a c < s.size) : cl s (a + rowN s a c) ≠ c := by
  have h' : rowN s a c < s.size - a := by omega
  have := lead_stop (fun i => decide (cl s (a + i) = c)) (z := s.size - a) h'
  have e : lead (fun i => decide (cl s (a + i) = c)) (s.size - a) = rowN s a c := rfl
  rw [e] at this
  simpa using this
def b1 (s : ByteArray) (a : Nat) : Nat := if a < s.size ∧ cl s a = 1 then 1 else if a + 1 < s.size ∧ by8 s a = 92 ∧ by8 s (a + 1) = 10 then 2 else 0
theorem b1_zero {s : ByteArray} {a : Nat} : b1 s a = 0 ↔ bstep s a = 0 := by
  have h := row_pos (s := s) (a := a) (c := 1)
  unfold b1 bstep
  by_cases g : a < s.size ∧ cl s a = 1
  · rw [if_pos g, if_pos (h.2 g)]
    have := h.2 g
    omega
  · rw [if_neg g, if_neg (fun e => g (h.1 e))]
theorem b1_le {s : ByteArray} {a : Nat} (ha : a ≤ s.size) : a + b1 s a ≤ s.size := by
  unfold b1
  split
  · omega
  · split <;> omega
theorem blE_stop {s : ByteArray} {a : Nat} (h : b1 s a = 0) : blE s a = a := blE_zero (b1_zero.1 h)
theorem blE_one {s : ByteArray} {a : Nat} (ha : a ≤ s.size) (h : b1 s a ≠ 0) : blE s a = blE s (a + b1 s a) := by
  have hb : bstep s a ≠ 0 := fun e => h (b1_zero.2 e)
  have e := blE_next ha hb
  by_cases g : a < s.size ∧ cl s a = 1
  · have hp := row_pos.2 g
    have hn := row_next hp
    have e1 : b1 s a = 1 := by unfold b1; rw [if_pos g]
    have e2 : bstep s a = rowN s (a + 1) 1 + 1 := by unfold bstep; rw [if_pos hp, hn]
    rw [e, e1, e2]
    rcases Nat.eq_zero_or_pos (rowN s (a + 1) 1) with h0 | h0
    · rw [h0]
    · have e3 : bstep s (a + 1) = rowN s (a + 1) 1 := by unfold bstep; rw [if_pos h0]
      rw [blE_next (a := a + 1) (by omega) (by omega), e3]
      congr 1
      omega
  · have e1 : b1 s a = bstep s a := by
      unfold b1 bstep
      rw [if_neg g, if_neg (fun e => g (row_pos.1 e))]
    rw [e1]
    exact e
theorem wdE_at {s : ByteArray} {a : Nat} (ha : a ≤ s.size) (h : wdE s a < s.size) : stops (fromK s a 0 (wdE s a - a)) (by8 s (wdE s a)) = true := by
  have hl := wdE_le ha
  have hs : lead (fun i => !stops (fromK s a 0 i) (by8 s (a + i))) (s.size - a) < s.size - a := by unfold wdE at h; omega
  have := lead_stop (fun i => !stops (fromK s a 0 i) (by8 s (a + i))) (z := s.size - a) hs
  have e : wdE s a - a = lead (fun i => !stops (fromK s a 0 i) (by8 s (a + i))) (s.size - a) := by unfold wdE; omega
  have e2 : wdE s a = a + lead (fun i => !stops (fromK s a 0 i) (by8 s (a + i))) (s.size - a) := rfl
  rw [e]
  rw [e2]
  simpa using this
theorem wdE_in {s : ByteArray} {a i : Nat} (h1 : a ≤ i) (h2 : i < wdE s a) : stops (fromK s a 0 (i - a)) (by8 s i) = false := by
  have := lead_all (fun i => !stops (fromK s a 0 i) (by8 s (a + i))) (z := s.size - a) (i := i - a) (by unfold wdE at h2; omega)
  rw [show a + (i - a) = i by omega] at this
  simpa using this

structure Beg (s t : ByteArray) (n : Nat) : Prop where
  a : n ≤ s.size
  b : n ≤ t.size
  e : ∀ i, i < n → by8 s i = by8 t i
section
variable {s t : ByteArray} {n : Nat} (h : Beg s t n)
include h
theorem Beg.symm : Beg t s n := ⟨h.b, h.a, fun i hi => (h.e i hi).symm⟩
theorem Beg.bt {i : Nat} (hi : i < n) : bt s i = bt t i := UInt8.toNat_inj.1 (h.e i hi)
theorem Beg.cl {i : Nat} (hi : i < n) : cl s i = cl t i := by unfold Go.Proofs.YtdjcidackkogjaaGreatDoor.cl; rw [h.bt hi]
theorem Beg.ext {a b : Nat} (hb : b ≤ n) : s.extract a b = t.extract a b := by
  have h1 := h.a
  have h2 := h.b
  refine bt_ext ?_ (fun i hi => ?_)
  · rw [ByteArray.size_extract, ByteArray.size_extract]; omega
  · rw [ByteArray.size_extract] at hi
    rw [bt_extract s a b i (by omega) (by omega), bt_extract t a b i (by omega) (by omega)]
    exact h.bt (by omega)
theorem b1_beg {a : Nat} (ha : a + 1 < n) : b1 t a = b1 s a := by
  have h1 := h.a
  have h2 := h.b
  unfold b1
  rw [h.cl (i := a) (by omega), h.e a (by omega), h.e (a + 1) ha]
  have p1 : a < s.size := by omega
  have p2 : a < t.size := by omega
  have p3 : a + 1 < s.size := by omega
  have p4 : a + 1 < t.size := by omega
  simp only [p1, p2, p3, p4, true_and]
theorem blE_beg : ∀ (k a : Nat), n - a ≤ k → a + 1 < n → blE s a + 2 ≤ n → blE t a = blE s a
  | 0, a, hk, ha, _ => by omega
  | k + 1, a, hk, ha, he => by
    have h1 := h.a
    have h2 := h.b
    have hb := b1_beg h ha
    by_cases h0 : b1 s a = 0
    · rw [blE_stop h0, blE_stop (by rw [hb]; exact h0)]
    · have e1 := blE_one (s := s) (a := a) (by omega) h0
      have e2 := blE_one (s := t) (a := a) (by omega) (by rw [hb]; exact h0)
      have hle := (blE_le (s := s) (a := a + b1 s a) (b1_le (by omega))).1
      rw [e1] at he
      rw [e2, hb, blE_beg k (a + b1 s a) (by omega) (by omega) he, ← e1]
theorem nlE_beg {a : Nat} (ha : a ≤ n) (he : nlE s a < n) : nlE t a = nlE s a := by
  have h1 := h.a
  have h2 := h.b
  have hle := nlE_le (s := s) (a := a) (by omega)
  refine nlE_eq hle.1 (by omega) (fun i g1 g2 => ?_) (fun _ => ?_)
  · rw [← h.e i (by omega)]; exact nlE_in g1 g2
  · rw [← h.e _ he]; exact nlE_at (by omega)
theorem fits_beg {a : Nat} (ha : a + 3 ≤ n) {d : ByteArray} (hd : d.size ≤ 3) : fits s a d ↔ fits t a d := by
  have h1 := h.a
  have h2 := h.b
  unfold fits
  rw [h.ext (a := a) (b := a + d.size) (by omega)]
  exact ⟨fun q => ⟨by omega, q.2⟩, fun q => ⟨by omega, q.2⟩⟩
theorem opN_beg {a : Nat} (ha : a + 3 ≤ n) : opN t a = opN s a := by
  have : (fun k => decide (fits t a (txt k))) = fun k => decide (fits s a (txt k)) := funext fun k => decide_eq_decide.2 (fits_beg h ha (txt_le k)).symm
  unfold opN
  rw [this]
theorem row_beg {a c : Nat} (ha : a + rowN s a c < n) : rowN t a c = rowN s a c := by
  have h1 := h.a
  have h2 := h.b
  conv => lhs; unfold rowN
  refine lead_eq _ (by omega) (fun i hi => ?_) (fun hi => ?_)
  · have := row_in hi
    rw [h.cl (by omega)] at this
    simpa using this
  · have := row_out (s := s) (a := a) (c := c) (by omega)
    rw [h.cl ha] at this
    simpa using this
theorem numN_beg {a : Nat} (ha : a + rowN s a 6 < n) : numN t a = numN s a := by
  have h1 := h.a
  have h2 := h.b
  unfold numN
  rw [row_beg h ha, h.e _ ha]
  have p1 : a + rowN s a 6 < s.size := by omega
  have p2 : a + rowN s a 6 < t.size := by omega
  simp only [p1, p2, true_and]
theorem wdE_beg {a : Nat} (ha : a ≤ n) (he : wdE s a < n) : wdE t a = wdE s a := by
  have h1 := h.a
  have h2 := h.b
  have hl := wdE_le (s := s) (a := a) (by omega)
  have hk : ∀ i, a + i ≤ n → fromK t a 0 i = fromK s a 0 i := fun i hi => runG_congr (fun j hj => (h.e _ (by omega)).symm)
  refine (wdE_of ⟨hl.1, by omega, fun i g1 g2 => ?_, fun _ => ?_⟩).symm
  · rw [hk _ (by omega), ← h.e i (by omega)]
    exact wdE_in g1 g2
  · rw [hk _ (by omega), ← h.e _ he]
    exact wdE_at (by omega) (by omega)
theorem num_word {a : Nat} (ha : a < s.size) (he : wdE s a + 2 ≤ n) : a + rowN s a 6 < n := by
  have h1 := h.a
  have hl := wdE_le (s := s) (a := a) (by omega)
  rcases Nat.lt_or_ge (a + rowN s a 6) n with g | g
  · exact g
  · exfalso
    have hc := row_in (s := s) (a := a) (c := 6) (i := wdE s a - a) (by omega)
    rw [show a + (wdE s a - a) = wdE s a by omega] at hc
    have hs := wdE_at (s := s) (a := a) (by omega) (by omega)
    unfold stops at hs
    rw [Bool.and_eq_true] at hs
    have hs1 := hs.1
    unfold endsB at hs1
    have hs2 := of_decide_eq_true hs1
    have : cls (by8 s (wdE s a)) = 6 := hc
    omega
theorem me_beg {a : Nat} (ha : a < s.size) (he : meE s a + 2 ≤ n) : meK t a = meK s a ∧ meE t a = meE s a := by
  have h1 := h.a
  have h2 := h.b
  have hok := meE_ok ha
  have hb : bstep t a = 0 ↔ bstep s a = 0 := by
    rw [← b1_zero, ← b1_zero, b1_beg h (by omega)]
  have hop := opN_beg h (a := a) (by omega)
  have hby := h.e a (by omega)
  have hm : a + 3 ≤ n := by omega
  unfold meK meE at *
  clear hok
  by_cases c1 : bstep s a = 0
  · have c1' := hb.2 c1
    have n1 : ¬ bstep s a ≠ 0 := fun e => e c1
    have n2 : ¬ bstep t a ≠ 0 := fun e => e c1'
    simp only [if_neg n1] at he
    simp only [if_neg n1, if_neg n2, ← hby]
    by_cases c2 : by8 s a = 10
    · simp only [if_pos c2]
      exact ⟨trivial, trivial⟩
    · simp only [if_neg c2] at he ⊢
      by_cases c3 : by8 s a = 35
      · simp only [if_pos c3] at he ⊢
        exact ⟨trivial, nlE_beg h (by omega) (by omega)⟩
      · simp only [if_neg c3] at he ⊢
        rw [hop]
        by_cases c4 : opN s a ≠ 0
        · simp only [if_pos c4]
          exact ⟨trivial, trivial⟩
        · simp only [if_neg c4] at he ⊢
          have hnn : a + rowN s a 6 < n := by
            by_cases c5 : numN s a ≠ 0
            · simp only [if_pos c5] at he
              have : numN s a = rowN s a 6 := by
                unfold numN at c5 ⊢
                split
                · rfl
                · rename_i g; rw [if_neg g] at c5; exact absurd rfl c5
              omega
            · simp only [if_neg c5] at he
              exact num_word h ha he
          rw [numN_beg h hnn]
          by_cases c5 : numN s a ≠ 0
          · simp only [if_pos c5]
            exact ⟨trivial, trivial⟩
          · simp only [if_neg c5] at he ⊢
            exact ⟨trivial, wdE_beg h (by omega) (by omega)⟩
  · have c1' : bstep t a ≠ 0 := fun e => c1 (hb.1 e)
    simp only [if_pos (show bstep s a ≠ 0 from c1)] at he
    simp only [if_pos (show bstep s a ≠ 0 from c1), if_pos c1']
    exact ⟨trivial, blE_beg h n a (by omega) (by omega) he⟩
end

def dAF (s : ByteArray) (d : Dl) : Nat → Nat → Nat × Bool
  | 0, a => (s.size, false)
  | k + 1, a => if a < s.size then (if delL (s.extract a (lnE s a)) d = true then (lnE s a, true) else dAF s d k (lnE s a)) else (s.size, false)
def dA (s : ByteArray) (d : Dl) (a : Nat) : Nat × Bool := dAF s d (s.size - a) a
section
variable (s : ByteArray) (d : Dl)
theorem dAF_more : ∀ (k a j : Nat), s.size - a ≤ k → k ≤ j → dAF s d j a = dAF s d k a
  | 0, a, 0, _, _ => rfl
  | 0, a, j + 1, h, _ => by
    show (if a < s.size then _ else _) = _
    rw [if_neg (by omega)]; rfl
  | k + 1, a, 0, _, h => by omega
  | k + 1, a, j + 1, h1, h2 => by
    unfold dAF
    by_cases h : a < s.size
    · rw [if_pos h, if_pos h]
      have := lnE_gt h
      rw [dAF_more k (lnE s a) j (by omega) (by omega)]
    · rw [if_neg h, if_neg h]
theorem dA_next {a : Nat} (h : a < s.size) : dA s d a = if delL (s.extract a (lnE s a)) d = true then (lnE s a, true) else dA s d (lnE s a) := by
  have hg := lnE_gt h
  unfold dA
  obtain ⟨k, hk⟩ : ∃ k, s.size - a = k + 1 := ⟨s.size - a - 1, by omega⟩
  rw [hk]
  conv => lhs; unfold dAF
  rw [if_pos h, dAF_more s d _ (lnE s a) k (Nat.le_refl _) (by omega)]
theorem dA_end {a : Nat} (h : ¬ a < s.size) : dA s d a = (s.size, false) := by
  unfold dA
  rw [show s.size - a = 0 by omega]; rfl
theorem dA_le : ∀ (k a : Nat), s.size - a ≤ k → a ≤ s.size → a ≤ (dA s d a).1 ∧ (dA s d a).1 ≤ s.size
  | 0, a, hk, ha => by rw [dA_end s d (by omega)]; exact ⟨ha, Nat.le_refl _⟩
  | k + 1, a, hk, ha => by
    by_cases h : a < s.size
    · have hg := lnE_gt h
      rw [dA_next s d h]
      split
      · exact ⟨by show a ≤ lnE s a; omega, by show lnE s a ≤ _; omega⟩
      · have := dA_le k (lnE s a) (by omega) (by omega)
        omega
    · rw [dA_end s d h]; exact ⟨ha, Nat.le_refl _⟩
theorem nlE_at_ext {a c : Nat} (hc : a + c ≤ s.size) : nlE (s.extract a s.size) c = nlE s (a + c) - a := by
  have hz := ext_size (s := s) (a := a) (b := s.size) (Nat.le_refl _)
  have hle := nlE_le (s := s) hc
  refine nlE_eq (by omega) (by omega) (fun i g1 hi => ?_) (fun hi => ?_)
  · rw [by8_ext (Nat.le_refl _) (by omega)]
    exact nlE_in (a := a + c) (by omega) (by omega)
  · rw [by8_ext (Nat.le_refl _) (by omega), show a + (nlE s (a + c) - a) = nlE s (a + c) by omega]
    exact nlE_at (by omega)
theorem lnE_at_ext {a c : Nat} (hc : a + c < s.size) : lnE (s.extract a s.size) c = lnE s (a + c) - a := by
  have hz := ext_size (s := s) (a := a) (b := s.size) (Nat.le_refl _)
  have hle := nlE_le (s := s) (Nat.le_of_lt hc)
  unfold lnE
  rw [nlE_at_ext s (Nat.le_of_lt hc), hz]
  by_cases h : nlE s (a + c) < s.size
  · rw [if_pos h, if_pos (by omega)]; omega
  · rw [if_neg h, if_neg (by omega)]
theorem docL_A (b : Nat) : ∀ (k c : Nat), s.size - b - c ≤ k → b + c ≤ s.size → docL d (lnF (s.extract b s.size) k c) c = ((dA s d (b + c)).1 - b, (dA s d (b + c)).2)
  | 0, c, hk, hc => by
    rw [dA_end s d (by omega)]
    show (c, false) = (s.size - b, false)
    rw [show c = s.size - b by omega]
  | k + 1, c, hk, hc => by
    have hz := ext_size (s := s) (a := b) (b := s.size) (Nat.le_refl _)
    unfold lnF
    by_cases h : b + c < s.size
    · have hg := lnE_gt h
      rw [if_pos (by omega), lnE_at_ext s h, dA_next s d h]
      have hx : (s.extract b s.size).extract c (lnE s (b + c) - b) = s.extract (b + c) (lnE s (b + c)) := by
        rw [ByteArray.extract_extract]
        congr 1
        omega
      rw [hx]
      show (if delL _ d = true then _ else docL d _ _) = _
      have hz2 : c + (s.extract (b + c) (lnE s (b + c))).size = lnE s (b + c) - b := by rw [ByteArray.size_extract]; omega
      rw [hz2]
      by_cases hd : delL (s.extract (b + c) (lnE s (b + c))) d = true
      · rw [if_pos hd, if_pos hd]
      · rw [if_neg hd, if_neg hd]
        have := docL_A b k (lnE s (b + c) - b) (by omega) (by omega)
        rw [show b + (lnE s (b + c) - b) = lnE s (b + c) by omega] at this
        exact this
    · rw [if_neg (by omega), dA_end s d h]
      show (c, false) = (s.size - b, false)
      rw [show c = s.size - b by omega]
theorem docN_A {a : Nat} (ha : a ≤ s.size) (ds : List Dl) : docN (s.extract a s.size) (d :: ds) = ((dA s d a).1 - a, (dA s d a).2) := by
  have hz := ext_size (s := s) (a := a) (b := s.size) (Nat.le_refl _)
  have := docL_A s d a (s.extract a s.size).size 0 (by omega) (by omega)
  exact this
end
section
variable {s t : ByteArray} {n : Nat} (h : Beg s t n)
include h
theorem dA_beg (d : Dl) : ∀ (k a : Nat), s.size - a ≤ k → a < s.size → (dA s d a).1 + 2 ≤ n → dA t d a = dA s d a
  | 0, a, hk, ha, _ => by omega
  | k + 1, a, hk, ha, he => by
    have h1 := h.a
    have h2 := h.b
    have hg := lnE_gt ha
    have hnl := nlE_le (s := s) (Nat.le_of_lt ha)
    have hle := dA_le s d (s.size - lnE s a) (lnE s a) (Nat.le_refl _) (by omega)
    have hlt : lnE s a + 2 ≤ n := by
      rw [dA_next s d ha] at he
      split at he
      · exact he
      · omega
    have hl : lnE s a = nlE s a + 1 ∧ nlE s a < s.size := by
      unfold lnE at hlt ⊢
      split
      · exact ⟨rfl, by assumption⟩
      · rename_i g; rw [if_neg g] at hlt; omega
    have hn := nlE_beg h (a := a) (by omega) (by omega)
    have hl2 : lnE t a = lnE s a := by
      conv => lhs; unfold lnE
      rw [hn, if_pos (by omega)]
      omega
    rw [dA_next t d (by omega), dA_next s d ha, hl2, ← h.ext (a := a) (b := lnE s a) (by omega)]
    split
    · rfl
    · rename_i g
      rw [dA_next s d ha, if_neg g] at he
      exact dA_beg d k (lnE s a) (by omega) (by omega) he
theorem tkN_beg {a : Nat} (x : Lx) (ha : a < s.size) (he : (tkN s a x).en + 2 ≤ n) : tkN t a x = tkN s a x ∧ nxN t a x = nxN s a x := by
  have h1 := h.a
  have h2 := h.b
  have hok := tkN_ok x ha
  have hat : a < t.size := by omega
  have hk : tkN t a x = tkN s a x := by
    unfold tkN at he ⊢
    by_cases hb : x.body = true
    · rw [if_pos hb] at he
      rw [if_pos hb, if_pos hb]
      match hp : x.pend with
      | [] =>
        rw [hp] at he
        have hz := ext_size (s := s) (a := a) (b := s.size) (Nat.le_refl _)
        have : (docN (s.extract a s.size) []).1 = s.size - a := hz
        dsimp only at he
        omega
      | d :: ds =>
        rw [hp] at he
        rw [docN_A s d (a := a) (by omega) ds] at he ⊢
        rw [docN_A t d (a := a) (by omega) ds]
        have hle := dA_le s d (s.size - a) a (Nat.le_refl _) (by omega)
        have he' : a + ((dA s d a).1 - a) + 2 ≤ n := he
        rw [dA_beg h d (s.size - a) a (Nat.le_refl _) ha (by omega)]
    · rw [if_neg hb] at he
      rw [if_neg hb, if_neg hb]
      obtain ⟨e1, e2⟩ := me_beg h ha he
      rw [e1, e2, h.ext (a := a) (b := meE s a) (by have : meE s a + 2 ≤ n := he; omega)]
  refine ⟨hk, ?_⟩
  unfold nxN
  rw [hk, h.ext (a := (tkN s a x).frm) (b := (tkN s a x).en) (by omega)]
end
end Go.Proofs.YtdjcidackkogjaaGreatDoor

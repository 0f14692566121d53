/- The plain facts on how the parts of a text lie to each other: within or apart; which one is the last around another one's place. No condition: nothing here speaks of the program. -/
import Derived.Test.YtholjhdjlhkocaaPtT
namespace Go.Proofs.Ytholjhdjlhkocaa
open Go.RowKit
set_option linter.unusedVariables false

/-- Behind a dollar that stays one the stack is what it was, as long as its parameter goes on. -/
theorem dollar_run {s : ByteArray} {f : Nat} (hb : born s f = true) (hm : md s (f + 1) f = 12) : ∀ i, 1 ≤ i → i ≤ paramN s (f + 1) → runK s (f + 1 + i) = ⟨blw s f ++ [(0, 0)], false⟩ := by
  have h1 := born_split hb
  rw [hm] at h1
  have hI := runK_inv s (f + 1)
  have hst : (runK s (f + 1)).st = (12, f) :: (blw s f ++ [(0, 0)]) := by rw [nt_st, h1]; rfl
  have hfr : (runK s (f + 1)).fresh = false := by
    rw [Bool.eq_false_iff]
    intro e
    have := hI.fr.2 e
    rw [hst] at this
    rcases this with h | h | h | h
    · simp [isProg, top] at h
    · simp [top] at h
    · simp [top] at h
    · simp [top] at h
  have hx : runK s (f + 1) = ⟨(12, f) :: (blw s f ++ [(0, 0)]), false⟩ := by
    cases hq : runK s (f + 1) with
    | mk a c => rw [hq] at hst hfr; simp at hst hfr; rw [hst, hfr]
  have hg := hI.good
  rw [hst] at hg
  obtain ⟨m2, f2, r2, hr2, ho, hg2⟩ := good_more hg (by decide)
  intro i
  induction i with
  | zero => intro h; omega
  | succ i ih =>
    intro _ hi
    rw [show f + 1 + (i + 1) = f + 1 + i + 1 by omega, runK_succ]
    obtain ⟨hp, hne⟩ := param_bytes (s := s) (k := f + 1) (i := i) (by omega)
    by_cases h0 : i = 0
    · subst h0
      rw [Nat.add_zero] at hp ⊢
      rw [hx]
      exact feed_par12 hg hp
    · rw [ih (by omega) (by omega), hr2]
      exact feed_par (over_base ho) hp (hne (by omega))
theorem dollar_nt {s : ByteArray} {f i : Nat} (hb : born s f = true) (hm : md s (f + 1) f = 12) (h1 : 1 ≤ i) (h2 : i ≤ paramN s (f + 1)) : nt s (f + 1 + i) = blw s f := by
  have := nt_st s (f + 1 + i)
  rw [dollar_run hb hm i h1 h2] at this
  exact (List.append_cancel_right this).symm
theorem blw_lt {s : ByteArray} {f : Nat} (hb : born s f = true) : ∀ x ∈ blw s f, x.2 < f := by
  intro x hx
  have h1 := born_split hb
  have h2 := nt_pw s (f + 1)
  rw [h1, List.pairwise_cons] at h2
  exact h2.1 x hx
/-- Nothing opens within a dollar's parameter. -/
theorem dollar_free {s : ByteArray} {g f : Nat} (hb : born s g = true) (hm : md s (g + 1) g = 12) (h1 : g < f) (h2 : f < g + 1 + paramN s (g + 1)) : born s f = false := by
  unfold born
  rw [Bool.eq_false_iff]
  intro h
  obtain ⟨m, hm2⟩ := pres_iff.1 h
  have e := dollar_nt hb hm (i := f - g) (by omega) (by omega)
  rw [show g + 1 + (f - g) = f + 1 by omega] at e
  rw [e] at hm2
  have := blw_lt hb _ hm2
  simp at this
  omega
/-- A part is a dollar's. -/
theorem is_dollar {s : ByteArray} {g : Nat} (hb : born s g = true) (hg : g < s.size) (h : cnt (md s (eK s g s.size) g) = 12) : eK s g s.size = g + 1 ∧ md s (g + 1) g = 12 := by
  have h12 := cnt_12.1 h
  have he := eK_born hb hg
  have hp := eK_pres (s := s) (f := g) (k := s.size) (j := eK s g s.size) (by omega) (Nat.le_refl _)
  have e := dollar_end hp h12
  rw [e] at h12
  exact ⟨e, h12⟩
theorem eK_ge {s : ByteArray} {g k : Nat} (hk : k ≤ s.size) (h : pres s k g = true) : k ≤ eK s g s.size := by
  apply Classical.byContradiction
  intro gg
  have hlt := pres_lt h
  have h1 := eK_stop (s := s) (f := g) (k := s.size) (by omega) (by omega)
  have h0 : g ≤ eK s g s.size := by unfold eK; omega
  have := (pres_all h).2 (eK s g s.size + 1) (by omega) (by omega)
  rw [this] at h1
  cases h1
/-- A part goes on behind another one's place, just if its frame stands below that one's. -/
theorem cover_iff {s : ByteArray} {g f : Nat} (hbg : born s g = true) (hbf : born s f = true) (hgf : g < f) (hf : f < s.size) : f < (prt s g).to ↔ pres s (f + 1) g = true := by
  rw [prt_eq hbg (by omega)]
  by_cases h12 : cnt (md s (eK s g s.size) g) = 12
  · obtain ⟨he, hm⟩ := is_dollar hbg (by omega) h12
    rw [if_pos h12]
    constructor
    · intro h
      have h' : f < g + 1 + paramN s (g + 1) := h
      rw [dollar_free hbg hm hgf h'] at hbf
      cases hbf
    · intro h
      have := eK_ge (s := s) (by omega) h
      omega
  · rw [if_neg h12]
    show f < (if eK s g s.size = s.size then s.size else eK s g s.size + 1) ↔ _
    constructor
    · intro h
      have hef : f ≤ eK s g s.size := by split at h <;> omega
      have hpf : pres s f g = true := eK_pres hgf hef
      -- what opens lets stand what is no dollar's
      obtain ⟨j, T, hj, hS, hN⟩ := nt_tr s f
      rcases hN with hN | ⟨n, hN, ho, hj2⟩
      · rw [not_born hS hN] at hbf; cases hbf
      · refine (stay hS (.inr ⟨n, hN⟩) hgf).2 ?_
        obtain ⟨m, hm⟩ := pres_iff.1 hpf
        rcases hj2 with rfl | ⟨rfl, htop⟩
        · exact ⟨m, hm⟩
        · cases hD : nt s f with
          | nil => rw [hD] at hm; cases hm
          | cons a D =>
            rw [hD] at hm htop
            rcases List.mem_cons.1 hm with e | e
            · exfalso
              subst e
              have hm12 : m = 12 := htop
              have hmd : md s f g = 12 := by rw [md_at (A := []) hD]; exact hm12
              have hn1 : pres s (f + 1) g = false := by
                rw [Bool.eq_false_iff]
                intro h2
                obtain ⟨m2, hm2⟩ := (stay hS (.inr ⟨n, hN⟩) hgf).1 h2
                rw [hD] at hm2
                have hp := nt_pw s f
                rw [hD, List.pairwise_cons] at hp
                have := hp.1 _ hm2
                simp at this
              have he : eK s g s.size = f := eK_eq (by omega) (by omega) (fun j h1 h2 => (pres_all hpf).2 j h1 h2) (fun _ => hn1)
              rw [he, hmd] at h12
              exact h12 rfl
            · exact ⟨m, e⟩
    · intro h
      have := eK_ge (s := s) (by omega) h
      split <;> omega
/-- A part that stands in another one ends no later. -/
theorem cover_to {s : ByteArray} {g f : Nat} (hbg : born s g = true) (hbf : born s f = true) (hgf : g < f) (hf : f < s.size) (h : pres s (f + 1) g = true) : (prt s f).to ≤ (prt s g).to := by
  have hg1 := eK_ge (s := s) (by omega) h
  have hgl := eK_le s (f := g) (k := s.size) (by omega)
  have hng : ¬ cnt (md s (eK s g s.size) g) = 12 := by
    intro h12
    have := (is_dollar hbg (by omega) h12).1
    omega
  have hgb : ∃ m, (m, g) ∈ blw s f := by
    obtain ⟨m, hm⟩ := pres_iff.1 h
    rw [born_split hbf] at hm
    rcases List.mem_cons.1 hm with e | e
    · simp at e; omega
    · exact ⟨m, e⟩
  -- g's frame is there as long as f's
  have hthere : ∀ k, k ≤ s.size → pres s k f = true ∨ (∃ R, nt s k = R ++ blw s f) → k ≤ eK s g s.size := by
    intro k hk hh
    refine eK_ge hk (pres_iff.2 ?_)
    obtain ⟨m, hm⟩ := hgb
    rcases hh with hh | ⟨R, hh⟩
    · obtain ⟨⟨A, hA⟩, _⟩ := pres_all hh
      exact ⟨m, by rw [hA]; simp [hm]⟩
    · exact ⟨m, by rw [hh]; simp [hm]⟩
  rw [prt_eq hbg (by omega), if_neg hng, prt_eq hbf hf]
  show _ ≤ (if eK s g s.size = s.size then s.size else eK s g s.size + 1)
  have hfl := eK_le s (f := f) (k := s.size) (by omega)
  have hf1 := eK_born hbf hf
  by_cases h12 : cnt (md s (eK s f s.size) f) = 12
  · obtain ⟨he, hm⟩ := is_dollar hbf hf h12
    rw [if_pos h12]
    show f + 1 + paramN s (f + 1) ≤ _
    have hle := paramN_le s (f + 1) (by omega)
    have : f + 1 + paramN s (f + 1) ≤ eK s g s.size := by
      by_cases h0 : paramN s (f + 1) = 0
      · rw [h0, Nat.add_zero]; exact hg1
      · exact hthere _ hle (.inr ⟨[], by rw [List.nil_append]; exact dollar_nt hbf hm (by omega) (Nat.le_refl _)⟩)
    split <;> omega
  · rw [if_neg h12]
    show (if eK s f s.size = s.size then s.size else eK s f s.size + 1) ≤ _
    have hp := eK_pres (s := s) (f := f) (k := s.size) (j := eK s f s.size) (by omega) (Nat.le_refl _)
    have := hthere _ hfl (.inl hp)
    split <;> split <;> omega
theorem to_gt {s : ByteArray} {f : Nat} (hb : born s f = true) (hf : f < s.size) : f < (prt s f).to := by
  have he := eK_born hb hf
  rw [prt_eq hb hf]
  split
  · show f < f + 1 + _; omega
  · show f < (if eK s f s.size = s.size then s.size else eK s f s.size + 1)
    split <;> omega

/-- The last one of the first k parts that goes on behind a place. -/
def lastU (s : ByteArray) (f : Nat) : Nat → Int
  | 0 => -1
  | k + 1 => if f < (prt s ((bornL s s.size)[k]?.getD 0)).to then (k : Nat) else lastU s f k
theorem lastU_none {s : ByteArray} {f : Nat} : ∀ {k : Nat}, (∀ j g, j < k → (bornL s s.size)[j]? = some g → ¬ f < (prt s g).to) → k ≤ (bornL s s.size).length → lastU s f k = -1
  | 0, _, _ => rfl
  | k + 1, h, hl => by
    unfold lastU
    have hg : (bornL s s.size)[k]? = some (bornL s s.size)[k] := List.getElem?_eq_getElem (by omega)
    rw [hg, Option.getD_some, if_neg (h k _ (Nat.lt_succ_self _) hg)]
    exact lastU_none (fun j g hj => h j g (by omega)) (by omega)
theorem lastU_at {s : ByteArray} {f i g0 : Nat} (hi : (bornL s s.size)[i]? = some g0) (hc : f < (prt s g0).to) : ∀ {k : Nat}, i < k → (∀ j g, i < j → j < k → (bornL s s.size)[j]? = some g → ¬ f < (prt s g).to) → k ≤ (bornL s s.size).length → lastU s f k = (i : Nat)
  | 0, h, _, _ => by omega
  | k + 1, h, hn, hl => by
    unfold lastU
    by_cases e : i = k
    · subst e
      rw [hi, Option.getD_some, if_pos hc]
    · have hg : (bornL s s.size)[k]? = some (bornL s s.size)[k] := List.getElem?_eq_getElem (by omega)
      rw [hg, Option.getD_some, if_neg (hn k _ (by omega) (Nat.lt_succ_self _) hg)]
      exact lastU_at hi hc (by omega) (fun j g h1 h2 => hn j g h1 (by omega)) (by omega)
/-- The last part around another one's place is its own. -/
theorem lastU_up {s : ByteArray} {f : Nat} (hb : born s f = true) (hf : f < s.size) : lastU s f (idx s f) = upI s f := by
  have hil := idx_lt hb hf
  have hcov : ∀ j g, j < idx s f → (bornL s s.size)[j]? = some g → born s g = true ∧ g < f ∧ (f < (prt s g).to ↔ ∃ m, (m, g) ∈ blw s f) := by
    intro j g hj hg
    obtain ⟨h1, h2, h3⟩ := idx_get hg
    have hgf : g < f := by
      apply Classical.byContradiction
      intro gg
      have : idx s f ≤ idx s g := by
        rcases Nat.eq_or_lt_of_le (Nat.le_of_not_lt gg) with e | e
        · rw [e]; exact Nat.le_refl _
        · exact Nat.le_of_lt (idx_mono hb e)
      omega
    refine ⟨h3, hgf, ?_⟩
    rw [cover_iff h3 hb hgf hf]
    constructor
    · intro h
      obtain ⟨m, hm⟩ := pres_iff.1 h
      rw [born_split hb] at hm
      rcases List.mem_cons.1 hm with e | e
      · simp at e; omega
      · exact ⟨m, e⟩
    · rintro ⟨m, hm⟩
      exact pres_iff.2 ⟨m, by rw [born_split hb]; exact List.mem_cons_of_mem _ hm⟩
  unfold upI
  cases hB : blw s f with
  | nil =>
    refine lastU_none (fun j g hj hg h => ?_) (by omega)
    obtain ⟨_, _, h3⟩ := hcov j g hj hg
    obtain ⟨m, hm⟩ := h3.1 h
    rw [hB] at hm
    cases hm
  | cons x R =>
    obtain ⟨hgb, hgl⟩ := blw_born (m := x.1) (g := x.2) (R := R) hb hB
    have hgi := bornL_get s x.2 hgb (k := s.size) (by omega)
    have hgm := idx_mono hgb hgl
    refine lastU_at hgi ((hcov _ _ hgm hgi).2.2.2 ⟨x.1, by rw [hB]; simp⟩) hgm (fun j g h1 h2 hg h => ?_) (by omega)
    obtain ⟨h4, h5, h6⟩ := hcov j g h2 hg
    obtain ⟨m, hm⟩ := h6.1 h
    have hjg := (idx_get hg).1
    have hp := nt_pw s (f + 1)
    rw [born_split hb, hB, List.pairwise_cons, List.pairwise_cons] at hp
    rw [hB] at hm
    rcases List.mem_cons.1 hm with e | e
    · have e2 : g = x.2 := by rw [← e]
      rw [← e2] at h1
      omega
    · have := hp.2.1 _ e
      simp at this
      have := idx_mono h4 this
      omega
end Go.Proofs.Ytholjhdjlhkocaa

/- The plain facts on how the parts of a text lie to each other. No condition: nothing here speaks of the program.
The plain facts on how the parts of a text lie to each other: within or apart; which one is the last around another one's place. No condition: nothing here speaks of the program. -/
import Derived.Test.YtiklnlkakhghdaaGreatDoorPtK
namespace Go.Proofs.YtiklnlkakhghdaaGreatDoor
open Go.RowKit
set_option linter.unusedVariables false

/-- A byte that can stand in a parameter behind a dollar. -/
def parB (b : Nat) : Prop := cls b = 5 ∨ cls b = 6 ∨ specB b = true
theorem parB_ne {b : Nat} (h : parB b) : b ≠ 92 ∧ b ≠ 39 ∧ b ≠ 34 ∧ b ≠ 96 ∧ b ≠ 40 ∧ b ≠ 41 ∧ b ≠ 125 ∧ b ≠ 123 ∧ b ≠ 10 ∧ endsB b = false := by
  refine ⟨?_, ?_, ?_, ?_, ?_, ?_, ?_, ?_, ?_, ?_⟩
  all_goals first
    | (rintro rfl; revert h; unfold parB; decide)
    | skip
  unfold endsB
  rw [decide_eq_false_iff_not]
  intro g
  rcases h with h | h | h
  · omega
  · omega
  · unfold specB at h
    rw [decide_eq_true_iff] at h
    rcases h with rfl | rfl | rfl | rfl | rfl | rfl | rfl <;> revert g <;> decide
/-- Such a byte leaves a stack as it is, where a dollar's frame stood. -/
theorem mv_par {m b : Nat} (hm : base m = true) (h : parB b) (h36 : b ≠ 36) : mv m b false = (.keep, false) := by
  obtain ⟨h1, h2, h3, h4, h5, h6, h7, h8, h9, h10⟩ := parB_ne h
  have hm' : m ≠ 3 ∧ m ≠ 4 ∧ m ≠ 11 ∧ m ≠ 12 ∧ m ≠ 13 ∧ m ≠ 14 ∧ m ≤ 14 := by unfold base at hm; simpa using hm
  have ho : opn b = 15 := by unfold opn; rw [if_neg h1, if_neg h36, if_neg h4]
  unfold mv
  by_cases hP : isProg m = true
  · rw [if_pos hP, if_neg h1, if_neg h2, if_neg h3, if_neg (by omega), if_neg (by simp), if_neg h5, if_neg h6, h10]
  · rw [if_neg hP, if_neg hm'.2.2.2.2.1, if_neg hm'.2.1, if_neg hm'.2.2.2.2.2.1]
    by_cases e6 : m = 6
    · rw [if_pos e6, if_neg h4, if_neg h1]
    rw [if_neg e6, if_neg (by simp [ho])]
    by_cases e9 : m = 9 ∨ m = 10
    · rw [if_pos e9, if_neg h5, if_neg (fun h => h6 h.1), if_neg h6]
    rw [if_neg e9]
    by_cases e5 : m = 5
    · rw [if_pos e5, if_neg h3]
    rw [if_neg e5, if_neg h3, if_neg h7, if_neg (fun h => h2 h.1)]
theorem plain_par {m f : Nat} {r : List Fr} {b p : Nat} (hm : base m = true) (h : parB b) (h36 : b ≠ 36) : plainF ((m, f) :: r) false b p = ⟨(m, f) :: r, false⟩ := by
  show (⟨(mv m b false).1.run ((m, f) :: r) p, (mv m b false).2⟩ : Ms) = _
  rw [mv_par hm h h36]
  rfl
theorem feed_par12 {f : Nat} {r : List Fr} {b p : Nat} (hg : good ((12, f) :: r)) (h : parB b) : feed ⟨(12, f) :: r, false⟩ b p = ⟨r, false⟩ := by
  obtain ⟨h1, h2, h3, h4, h5, h6, h7, h8, h9, h10⟩ := parB_ne h
  obtain ⟨m2, f2, r2, rfl, ho, hg2⟩ := good_more hg (by decide)
  unfold feed
  simp only [if_true]
  rw [if_neg h5, if_neg h8]
  by_cases h36 : b = 36
  · rw [if_pos h36]
  · rw [if_neg h36, plain_par (over_base ho) h h36]
theorem feed_par {m f : Nat} {r : List Fr} {b p : Nat} (hm : base m = true) (h : parB b) (h36 : b ≠ 36) : feed ⟨(m, f) :: r, false⟩ b p = ⟨(m, f) :: r, false⟩ := by
  have hm' : m ≠ 3 ∧ m ≠ 4 ∧ m ≠ 11 ∧ m ≠ 12 ∧ m ≠ 13 ∧ m ≠ 14 ∧ m ≤ 14 := by unfold base at hm; simpa using hm
  rw [feed_plain hm'.1 hm'.2.2.1 hm'.2.2.2.1, plain_par hm h h36]

/-- The bytes of a parameter. -/
theorem param_bytes {s : ByteArray} {k i : Nat} (h : i < paramN s k) : parB (by8 s (k + i)) ∧ (0 < i → by8 s (k + i) ≠ 36) := by
  unfold paramN at h
  split at h
  · rename_i hn
    have := lead_all (fun i => mayN (cl s (k + i)) i) (z := s.size - k) (i := i) h
    have h5 : cl s (k + i) = 5 ∨ (cl s (k + i) = 6 ∧ 0 < i) := by unfold mayN at this; simpa using this
    have e : cl s (k + i) = cls (by8 s (k + i)) := rfl
    rw [e] at h5
    refine ⟨?_, fun _ h36 => ?_⟩
    · rcases h5 with h5 | h5
      · exact .inl h5
      · exact .inr (.inl h5.1)
    · rw [h36] at h5
      revert h5
      have : cls 36 = 4 := by decide
      omega
  · split at h
    · rename_i hx
      obtain rfl : i = 0 := by omega
      refine ⟨?_, fun h => by omega⟩
      rw [Nat.add_zero]
      rcases hx.2 with h6 | h6
      · exact .inr (.inl h6)
      · exact .inr (.inr h6)
    · omega

/-- A dollar's frame is the last one. -/
theorem dollar_last {s : ByteArray} {k f : Nat} {A R : List Fr} (h : nt s k = A ++ (12, f) :: R) : A = [] := by
  cases hA : A.reverse with
  | nil => simpa using hA
  | cons a A2 =>
    exfalso
    have e : A = A2.reverse ++ [a] := by
      have := congrArg List.reverse hA
      simpa using this
    have hg := (runK_inv s k).good
    rw [nt_st, h, e] at hg
    have hd : ∀ (B : List Fr) (C : List Fr), good (B ++ a :: (12, f) :: C) → False := by
      intro B
      induction B with
      | nil =>
        intro C h
        have := over_base (good_two (m := a.1) (f := a.2) h).1
        simp [base] at this
      | cons b B ih =>
        intro C h
        refine ih C ?_
        cases hB : B ++ a :: (12, f) :: C with
        | nil => simp at hB
        | cons c D =>
          rw [List.cons_append, hB] at h
          exact (good_two (m := b.1) (f := b.2) (m2 := c.1) (f2 := c.2) h).2
    refine hd A2.reverse (R ++ [(0, 0)]) ?_
    simpa using hg
/-- A dollar's frame doesn't stay a dollar's. -/
theorem dollar_once {s : ByteArray} {k f : Nat} (h : pres s (k + 1) f = true) (hf : f < k) (hm : md s k f = 12) : md s (k + 1) f ≠ 12 := by
  obtain ⟨A, R, hA⟩ := pres_split (pres_back h hf)
  rw [hm] at hA
  obtain rfl := dollar_last hA
  rw [List.nil_append] at hA
  have hI := runK_inv s k
  have hst : (runK s k).st = (12, f) :: (R ++ [(0, 0)]) := by rw [nt_st, hA]; rfl
  have hRf : ∀ x ∈ R, x.2 ≠ f := by
    have := nt_pw s k
    rw [hA, List.pairwise_cons] at this
    intro x hx e
    have := this.1 x hx
    simp at this
    omega
  obtain ⟨st, fr⟩ : ∃ x, x = runK s k := ⟨_, rfl⟩
  have hN := nt_st s (k + 1)
  have hsu := runK_succ s k
  obtain ⟨m', hm'⟩ := pres_iff.1 h
  -- by the byte
  have key : ∀ b, (feed (runK s k) b k).st = nt s (k + 1) ++ [(0, 0)] → md s (k + 1) f ≠ 12 := by
    intro b hb
    have hx : runK s k = ⟨(12, f) :: (R ++ [(0, 0)]), (runK s k).fresh⟩ := by
      cases hq : runK s k with
      | mk a c => rw [hq] at hst; simp at hst; rw [hst]
    rw [hx] at hb
    unfold feed at hb
    simp only [if_true] at hb
    have not : ∀ D : List Fr, D = R → (nt s (k + 1) = D ∨ (∃ n, nt s (k + 1) = (n, k) :: D)) → False := by
      intro D hD hh
      subst hD
      rcases hh with hh | ⟨n, hh⟩
      · rw [hh] at hm'
        exact hRf _ hm' rfl
      · rw [hh] at hm'
        rcases List.mem_cons.1 hm' with e | e
        · simp at e; omega
        · exact hRf _ e rfl
    split at hb
    · have e : nt s (k + 1) = (3, f) :: R := by
        have : (3, f) :: (R ++ [(0, 0)]) = nt s (k + 1) ++ [(0, 0)] := hb
        rw [← List.cons_append] at this
        exact (List.append_cancel_right this).symm
      rw [md_at (A := []) e]
      decide
    split at hb
    · have e : nt s (k + 1) = (brace (top (R ++ [(0, 0)])), f) :: R := by
        have : (brace (top (R ++ [(0, 0)])), f) :: (R ++ [(0, 0)]) = nt s (k + 1) ++ [(0, 0)] := hb
        rw [← List.cons_append] at this
        exact (List.append_cancel_right this).symm
      rw [md_at (A := []) e]
      unfold brace
      split <;> decide
    split at hb
    · exact absurd (.inl (List.append_cancel_right (show R ++ [(0, 0)] = nt s (k + 1) ++ [(0, 0)] from hb)).symm) (fun h => not R rfl h)
    · -- the byte comes to what stands below
      exfalso
      have hgd := hI.good
      rw [hst] at hgd
      obtain ⟨m2, f2, r2, hr2, ho, hg2⟩ := good_more hgd (by decide)
      rw [hr2] at hb
      have hmem : ∀ x ∈ nt s (k + 1) ++ [(0, 0)], x.2 = f → x ∈ nt s (k + 1) → False := by
        intro x hx hxf hxn
        rw [← hb] at hx
        have hsub : ∀ y ∈ ((m2, f2) :: r2), y.2 = f → y ∈ R ∨ y = (0, 0) := by
          intro y hy _
          rw [← hr2] at hy
          rcases List.mem_append.1 hy with hy | hy
          · exact .inl hy
          · exact .inr (by simpa using hy)
        have h00 : (0, 0) ∈ nt s (k + 1) → False := by
          intro h0
          have hgg := (runK_inv s (k + 1)).good
          obtain ⟨A2, B2, hAB⟩ := List.append_of_mem h0
          rw [nt_st, hAB] at hgg
          have hz : ∀ (C : List Fr), good (C ++ (0, 0) :: (B2 ++ [(0, 0)])) → False := by
            intro C
            induction C with
            | nil =>
              intro h
              have := good_zero h
              simp at this
            | cons c C ih =>
              intro h
              refine ih ?_
              cases hC : C ++ (0, 0) :: (B2 ++ [(0, 0)]) with
              | nil => simp at hC
              | cons d D =>
                rw [List.cons_append, hC] at h
                exact (good_two (m := c.1) (f := c.2) (m2 := d.1) (f2 := d.2) h).2
          refine hz A2 ?_
          simpa using hgg
        have fin : x ∈ ((m2, f2) :: r2) → False := by
          intro hx2
          rcases hsub x hx2 hxf with h1 | h1
          · exact hRf x h1 hxf
          · rw [h1] at hxn
            exact h00 hxn
        rcases plain_cases m2 f2 r2 (runK s k).fresh b k with e | ⟨n, e, _⟩ | ⟨_, e⟩ | ⟨e9, e⟩
        · rw [e] at hx; exact fin hx
        · rw [e] at hx
          rcases List.mem_cons.1 hx with h1 | h1
          · rw [h1] at hxf
            simp at hxf
            omega
          · exact fin h1
        · rw [e] at hx; exact fin (List.mem_cons_of_mem _ hx)
        · rw [e] at hx
          rcases List.mem_cons.1 hx with h1 | h1
          · -- the turned frame's place is that of one below
            have : f2 = f := by rw [h1] at hxf; exact hxf
            have hin : (m2, f2) ∈ R ∨ (m2, f2) = (0, 0) := hsub (m2, f2) (by simp) this
            rcases hin with h2 | h2
            · exact hRf _ h2 this
            · simp at h2; omega
          · exact fin (List.mem_cons_of_mem _ h1)
      exact hmem (m', f) (List.mem_append_left _ hm') rfl hm'
  have := key (by8 s k) (by rw [← hsu]; exact hN)
  exact this
theorem md_turn {s : ByteArray} {k f : Nat} (h : pres s (k + 1) f = true) (hf : f < k) (hm : md s (k + 1) f = 12) : md s k f = 12 := by
  obtain ⟨j, T, hj, hS, hN0⟩ := nt_tr s k
  have hN := tr_or hN0
  obtain ⟨A, R, hA⟩ := pres_split (pres_back h hf)
  obtain ⟨A2, hA2⟩ := drop_split (nt_pw s k) hA ((stay hS hN hf).1 h)
  have hT : ∃ A3, T = A3 ++ (12, f) :: R := by
    have hTe : ∃ A3 n, T = A3 ++ (n, f) :: R := by
      rcases hS with rfl | ⟨m1, n1, f1, r1, hD, rfl, _⟩
      · exact ⟨A2, _, hA2⟩
      · rw [hD] at hA2
        cases A2 with
        | nil => simp at hA2; obtain ⟨⟨rfl, rfl⟩, rfl⟩ := hA2; exact ⟨[], n1, rfl⟩
        | cons a A2 => simp at hA2; obtain ⟨rfl, rfl⟩ := hA2; exact ⟨(n1, f1) :: A2, _, rfl⟩
    obtain ⟨A3, n, hT⟩ := hTe
    have hn : md s (k + 1) f = n := by
      rcases hN with h | ⟨n2, h⟩
      · exact md_at (by rw [h]; exact hT)
      · exact md_at (A := (n2, k) :: A3) (by rw [h, hT]; rfl)
    exact ⟨A3, by rw [hT, ← hn, hm]⟩
  obtain ⟨A3, hT⟩ := hT
  rcases hS with rfl | ⟨m1, n1, f1, r1, hD, rfl, ht⟩
  · rw [hA2] at hT
    have h1 := md_at hA
    have hp := nt_pw s k
    have hp2 : (A2 ++ (md s k f, f) :: R).Pairwise (fun a b => b.2 < a.2) := by rw [← hA2]; exact hp.sublist (List.drop_sublist _ _)
    have e1 := find_pw hp2 rfl
    have e2 := find_pw hp2 hT
    rw [e1] at e2
    simpa using e2
  · rw [hD] at hA2
    cases A2 with
    | nil =>
      simp at hA2
      obtain ⟨⟨hm1, rfl⟩, rfl⟩ := hA2
      cases A3 with
      | nil =>
        simp at hT
        subst hT
        unfold turns at ht
        omega
      | cons a A3 =>
        simp at hT
        have := congrArg List.length hT.2
        simp at this
        omega
    | cons a A2 =>
      simp at hA2
      obtain ⟨rfl, rfl⟩ := hA2
      cases A3 with
      | nil =>
        simp at hT
        have := congrArg List.length hT.2
        simp at this
        omega
      | cons b A3 =>
        simp at hT
        have hp := nt_pw s k
        have hp2 : (A2 ++ (md s k f, f) :: R).Pairwise (fun a b => b.2 < a.2) := by
          have h3 := hp.sublist (List.drop_sublist j (nt s k))
          rw [hD] at h3
          exact (List.pairwise_cons.1 h3).2
        have e1 := find_pw hp2 rfl
        have e2 := find_pw hp2 hT.2
        rw [e1] at e2
        simpa using e2
/-- A part that is a dollar's at its end has had one beginning. -/
theorem dollar_end {s : ByteArray} {k f : Nat} (h : pres s k f = true) (hm : md s k f = 12) : k = f + 1 := by
  have hlt := pres_lt h
  apply Classical.byContradiction
  intro g
  obtain ⟨j, rfl⟩ : ∃ j, k = j + 1 := ⟨k - 1, by omega⟩
  have h1 := md_turn h (by omega) hm
  exact dollar_once h (by omega) h1 hm
end Go.Proofs.YtiklnlkakhghdaaGreatDoor
namespace Go.Proofs.YtiklnlkakhghdaaGreatDoor
open Go.RowKit
set_option linter.unusedVariables false

/-- Behind a dollar that stays one the stack is what it was, as long as its parameter goes on. -/
theorem dollar_run {s : ByteArray} {f : Nat} (hb : born s f = true) (hm : md s (f + 1) f = 12) : ∀ i, 1 ≤ i → i ≤ paramN s (f + 1) → runK s (f + 1 + i) = ⟨blw s f ++ [(0, 0)], false⟩ := by
  have h1 := born_split hb
  rw [hm] at h1
  have hI := runK_inv s (f + 1)
  have hst : (runK s (f + 1)).st = (12, f) :: (blw s f ++ [(0, 0)]) := by rw [nt_st, h1]; rfl
  have hfr : (runK s (f + 1)).fresh = false := by
    rw [Bool.eq_false_iff]
    intro e
    have := hI.fr.2 e
    rw [hst] at this
    rcases this with h | h | h | h
    · simp [isProg, top] at h
    · simp [top] at h
    · simp [top] at h
    · simp [top] at h
  have hx : runK s (f + 1) = ⟨(12, f) :: (blw s f ++ [(0, 0)]), false⟩ := by
    cases hq : runK s (f + 1) with
    | mk a c => rw [hq] at hst hfr; simp at hst hfr; rw [hst, hfr]
  have hg := hI.good
  rw [hst] at hg
  obtain ⟨m2, f2, r2, hr2, ho, hg2⟩ := good_more hg (by decide)
  intro i
  induction i with
  | zero => intro h; omega
  | succ i ih =>
    intro _ hi
    rw [show f + 1 + (i + 1) = f + 1 + i + 1 by omega, runK_succ]
    obtain ⟨hp, hne⟩ := param_bytes (s := s) (k := f + 1) (i := i) (by omega)
    by_cases h0 : i = 0
    · subst h0
      rw [Nat.add_zero] at hp ⊢
      rw [hx]
      exact feed_par12 hg hp
    · rw [ih (by omega) (by omega), hr2]
      exact feed_par (over_base ho) hp (hne (by omega))
theorem dollar_nt {s : ByteArray} {f i : Nat} (hb : born s f = true) (hm : md s (f + 1) f = 12) (h1 : 1 ≤ i) (h2 : i ≤ paramN s (f + 1)) : nt s (f + 1 + i) = blw s f := by
  have := nt_st s (f + 1 + i)
  rw [dollar_run hb hm i h1 h2] at this
  exact (List.append_cancel_right this).symm
theorem blw_lt {s : ByteArray} {f : Nat} (hb : born s f = true) : ∀ x ∈ blw s f, x.2 < f := by
  intro x hx
  have h1 := born_split hb
  have h2 := nt_pw s (f + 1)
  rw [h1, List.pairwise_cons] at h2
  exact h2.1 x hx
/-- Nothing opens within a dollar's parameter. -/
theorem dollar_free {s : ByteArray} {g f : Nat} (hb : born s g = true) (hm : md s (g + 1) g = 12) (h1 : g < f) (h2 : f < g + 1 + paramN s (g + 1)) : born s f = false := by
  unfold born
  rw [Bool.eq_false_iff]
  intro h
  obtain ⟨m, hm2⟩ := pres_iff.1 h
  have e := dollar_nt hb hm (i := f - g) (by omega) (by omega)
  rw [show g + 1 + (f - g) = f + 1 by omega] at e
  rw [e] at hm2
  have := blw_lt hb _ hm2
  simp at this
  omega
/-- A part is a dollar's. -/
theorem is_dollar {s : ByteArray} {g : Nat} (hb : born s g = true) (hg : g < s.size) (h : cnt (md s (eK s g s.size) g) = 12) : eK s g s.size = g + 1 ∧ md s (g + 1) g = 12 := by
  have h12 := cnt_12.1 h
  have he := eK_born hb hg
  have hp := eK_pres (s := s) (f := g) (k := s.size) (j := eK s g s.size) (by omega) (Nat.le_refl _)
  have e := dollar_end hp h12
  rw [e] at h12
  exact ⟨e, h12⟩
theorem eK_ge {s : ByteArray} {g k : Nat} (hk : k ≤ s.size) (h : pres s k g = true) : k ≤ eK s g s.size := by
  apply Classical.byContradiction
  intro gg
  have hlt := pres_lt h
  have h1 := eK_stop (s := s) (f := g) (k := s.size) (by omega) (by omega)
  have h0 : g ≤ eK s g s.size := by unfold eK; omega
  have := (pres_all h).2 (eK s g s.size + 1) (by omega) (by omega)
  rw [this] at h1
  cases h1
/-- A part goes on behind another one's place, just if its frame stands below that one's. -/
theorem cover_iff {s : ByteArray} {g f : Nat} (hbg : born s g = true) (hbf : born s f = true) (hgf : g < f) (hf : f < s.size) : f < (prt s g).to ↔ pres s (f + 1) g = true := by
  rw [prt_eq hbg (by omega)]
  by_cases h12 : cnt (md s (eK s g s.size) g) = 12
  · obtain ⟨he, hm⟩ := is_dollar hbg (by omega) h12
    rw [if_pos h12]
    constructor
    · intro h
      have h' : f < g + 1 + paramN s (g + 1) := h
      rw [dollar_free hbg hm hgf h'] at hbf
      cases hbf
    · intro h
      have := eK_ge (s := s) (by omega) h
      omega
  · rw [if_neg h12]
    show f < (if eK s g s.size = s.size then s.size else eK s g s.size + 1) ↔ _
    constructor
    · intro h
      have hef : f ≤ eK s g s.size := by split at h <;> omega
      have hpf : pres s f g = true := eK_pres hgf hef
      -- what opens lets stand what is no dollar's
      obtain ⟨j, T, hj, hS, hN⟩ := nt_tr s f
      rcases hN with hN | ⟨n, hN, ho, hj2⟩
      · rw [not_born hS hN] at hbf; cases hbf
      · refine (stay hS (.inr ⟨n, hN⟩) hgf).2 ?_
        obtain ⟨m, hm⟩ := pres_iff.1 hpf
        rcases hj2 with rfl | ⟨rfl, htop⟩
        · exact ⟨m, hm⟩
        · cases hD : nt s f with
          | nil => rw [hD] at hm; cases hm
          | cons a D =>
            rw [hD] at hm htop
            rcases List.mem_cons.1 hm with e | e
            · exfalso
              subst e
              have hm12 : m = 12 := htop
              have hmd : md s f g = 12 := by rw [md_at (A := []) hD]; exact hm12
              have hn1 : pres s (f + 1) g = false := by
                rw [Bool.eq_false_iff]
                intro h2
                obtain ⟨m2, hm2⟩ := (stay hS (.inr ⟨n, hN⟩) hgf).1 h2
                rw [hD] at hm2
                have hp := nt_pw s f
                rw [hD, List.pairwise_cons] at hp
                have := hp.1 _ hm2
                simp at this
              have he : eK s g s.size = f := eK_eq (by omega) (by omega) (fun j h1 h2 => (pres_all hpf).2 j h1 h2) (fun _ => hn1)
              rw [he, hmd] at h12
              exact h12 rfl
            · exact ⟨m, e⟩
    · intro h
      have := eK_ge (s := s) (by omega) h
      split <;> omega
/-- A part that stands in another one ends no later. -/
theorem cover_to {s : ByteArray} {g f : Nat} (hbg : born s g = true) (hbf : born s f = true) (hgf : g < f) (hf : f < s.size) (h : pres s (f + 1) g = true) : (prt s f).to ≤ (prt s g).to := by
  have hg1 := eK_ge (s := s) (by omega) h
  have hgl := eK_le s (f := g) (k := s.size) (by omega)
  have hng : ¬ cnt (md s (eK s g s.size) g) = 12 := by
    intro h12
    have := (is_dollar hbg (by omega) h12).1
    omega
  have hgb : ∃ m, (m, g) ∈ blw s f := by
    obtain ⟨m, hm⟩ := pres_iff.1 h
    rw [born_split hbf] at hm
    rcases List.mem_cons.1 hm with e | e
    · simp at e; omega
    · exact ⟨m, e⟩
  -- g's frame is there as long as f's
  have hthere : ∀ k, k ≤ s.size → pres s k f = true ∨ (∃ R, nt s k = R ++ blw s f) → k ≤ eK s g s.size := by
    intro k hk hh
    refine eK_ge hk (pres_iff.2 ?_)
    obtain ⟨m, hm⟩ := hgb
    rcases hh with hh | ⟨R, hh⟩
    · obtain ⟨⟨A, hA⟩, _⟩ := pres_all hh
      exact ⟨m, by rw [hA]; simp [hm]⟩
    · exact ⟨m, by rw [hh]; simp [hm]⟩
  rw [prt_eq hbg (by omega), if_neg hng, prt_eq hbf hf]
  show _ ≤ (if eK s g s.size = s.size then s.size else eK s g s.size + 1)
  have hfl := eK_le s (f := f) (k := s.size) (by omega)
  have hf1 := eK_born hbf hf
  by_cases h12 : cnt (md s (eK s f s.size) f) = 12
  · obtain ⟨he, hm⟩ := is_dollar hbf hf h12
    rw [if_pos h12]
    show f + 1 + paramN s (f + 1) ≤ _
    have hle := paramN_le s (f + 1) (by omega)
    have : f + 1 + paramN s (f + 1) ≤ eK s g s.size := by
      by_cases h0 : paramN s (f + 1) = 0
      · rw [h0, Nat.add_zero]; exact hg1
      · exact hthere _ hle (.inr ⟨[], by rw [List.nil_append]; exact dollar_nt hbf hm (by omega) (Nat.le_refl _)⟩)
    split <;> omega
  · rw [if_neg h12]
    show (if eK s f s.size = s.size then s.size else eK s f s.size + 1) ≤ _
    have hp := eK_pres (s := s) (f := f) (k := s.size) (j := eK s f s.size) (by omega) (Nat.le_refl _)
    have := hthere _ hfl (.inl hp)
    split <;> split <;> omega
theorem to_gt {s : ByteArray} {f : Nat} (hb : born s f = true) (hf : f < s.size) : f < (prt s f).to := by
  have he := eK_born hb hf
  rw [prt_eq hb hf]
  split
  · show f < f + 1 + _; omega
  · show f < (if eK s f s.size = s.size then s.size else eK s f s.size + 1)
    split <;> omega

/-- The last one of the first k parts that goes on behind a place. -/
def lastU (s : ByteArray) (f : Nat) : Nat → Int
  | 0 => -1
  | k + 1 => if f < (prt s ((bornL s s.size)[k]?.getD 0)).to then (k : Nat) else lastU s f k
theorem lastU_none {s : ByteArray} {f : Nat} : ∀ {k : Nat}, (∀ j g, j < k → (bornL s s.size)[j]? = some g → ¬ f < (prt s g).to) → k ≤ (bornL s s.size).length → lastU s f k = -1
  | 0, _, _ => rfl
  | k + 1, h, hl => by
    unfold lastU
    have hg : (bornL s s.size)[k]? = some (bornL s s.size)[k] := List.getElem?_eq_getElem (by omega)
    rw [hg, Option.getD_some, if_neg (h k _ (Nat.lt_succ_self _) hg)]
    exact lastU_none (fun j g hj => h j g (by omega)) (by omega)
theorem lastU_at {s : ByteArray} {f i g0 : Nat} (hi : (bornL s s.size)[i]? = some g0) (hc : f < (prt s g0).to) : ∀ {k : Nat}, i < k → (∀ j g, i < j → j < k → (bornL s s.size)[j]? = some g → ¬ f < (prt s g).to) → k ≤ (bornL s s.size).length → lastU s f k = (i : Nat)
  | 0, h, _, _ => by omega
  | k + 1, h, hn, hl => by
    unfold lastU
    by_cases e : i = k
    · subst e
      rw [hi, Option.getD_some, if_pos hc]
    · have hg : (bornL s s.size)[k]? = some (bornL s s.size)[k] := List.getElem?_eq_getElem (by omega)
      rw [hg, Option.getD_some, if_neg (hn k _ (by omega) (Nat.lt_succ_self _) hg)]
      exact lastU_at hi hc (by omega) (fun j g h1 h2 => hn j g h1 (by omega)) (by omega)
/-- The last part around another one's place is its own. -/
theorem lastU_up {s : ByteArray} {f : Nat} (hb : born s f = true) (hf : f < s.size) : lastU s f (idx s f) = upI s f := by
  have hil := idx_lt hb hf
  have hcov : ∀ j g, j < idx s f → (bornL s s.size)[j]? = some g → born s g = true ∧ g < f ∧ (f < (prt s g).to ↔ ∃ m, (m, g) ∈ blw s f) := by
    intro j g hj hg
    obtain ⟨h1, h2, h3⟩ := idx_get hg
    have hgf : g < f := by
      apply Classical.byContradiction
      intro gg
      have : idx s f ≤ idx s g := by
        rcases Nat.eq_or_lt_of_le (Nat.le_of_not_lt gg) with e | e
        · rw [e]; exact Nat.le_refl _
        · exact Nat.le_of_lt (idx_mono hb e)
      omega
    refine ⟨h3, hgf, ?_⟩
    rw [cover_iff h3 hb hgf hf]
    constructor
    · intro h
      obtain ⟨m, hm⟩ := pres_iff.1 h
      rw [born_split hb] at hm
      rcases List.mem_cons.1 hm with e | e
      · simp at e; omega
      · exact ⟨m, e⟩
    · rintro ⟨m, hm⟩
      exact pres_iff.2 ⟨m, by rw [born_split hb]; exact List.mem_cons_of_mem _ hm⟩
  unfold upI
  cases hB : blw s f with
  | nil =>
    refine lastU_none (fun j g hj hg h => ?_) (by omega)
    obtain ⟨_, _, h3⟩ := hcov j g hj hg
    obtain ⟨m, hm⟩ := h3.1 h
    rw [hB] at hm
    cases hm
  | cons x R =>
    obtain ⟨hgb, hgl⟩ := blw_born (m := x.1) (g := x.2) (R := R) hb hB
    have hgi := bornL_get s x.2 hgb (k := s.size) (by omega)
    have hgm := idx_mono hgb hgl
    refine lastU_at hgi ((hcov _ _ hgm hgi).2.2.2 ⟨x.1, by rw [hB]; simp⟩) hgm (fun j g h1 h2 hg h => ?_) (by omega)
    obtain ⟨h4, h5, h6⟩ := hcov j g h2 hg
    obtain ⟨m, hm⟩ := h6.1 h
    have hjg := (idx_get hg).1
    have hp := nt_pw s (f + 1)
    rw [born_split hb, hB, List.pairwise_cons, List.pairwise_cons] at hp
    rw [hB] at hm
    rcases List.mem_cons.1 hm with e | e
    · have e2 : g = x.2 := by rw [← e]
      rw [← e2] at h1
      omega
    · have := hp.2.1 _ e
      simp at this
      have := idx_mono h4 this
      omega
end Go.Proofs.YtiklnlkakhghdaaGreatDoor

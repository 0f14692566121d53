/- The plain facts on how the parts of a text lie to each other. No condition: nothing here speaks of the program. -/
import Derived.Test.YtholjhdjlhkocaaPtK
namespace Go.Proofs.Ytholjhdjlhkocaa
open Go.RowKit
set_option linter.unusedVariables false

/-- A byte that can stand in a parameter behind a dollar. -/
def parB (b : Nat) : Prop := cls b = 5 ∨ cls b = 6 ∨ specB b = true
theorem parB_ne {b : Nat} (h : parB b) : b ≠ 92 ∧ b ≠ 39 ∧ b ≠ 34 ∧ b ≠ 96 ∧ b ≠ 40 ∧ b ≠ 41 ∧ b ≠ 125 ∧ b ≠ 123 ∧ b ≠ 10 ∧ endsB b = false := by
  refine ⟨?_, ?_, ?_, ?_, ?_, ?_, ?_, ?_, ?_, ?_⟩
  all_goals first
    | (rintro rfl; revert h; unfold parB; decide)
    | skip
  unfold endsB
  rw [decide_eq_false_iff_not]
  intro g
  rcases h with h | h | h
  · omega
  · omega
  · unfold specB at h
    rw [decide_eq_true_iff] at h
    rcases h with rfl | rfl | rfl | rfl | rfl | rfl | rfl <;> revert g <;> decide
/-- Such a byte leaves a stack as it is, where a dollar's frame stood. -/
theorem mv_par {m b : Nat} (hm : base m = true) (h : parB b) (h36 : b ≠ 36) : mv m b false = (.keep, false) := by
  obtain ⟨h1, h2, h3, h4, h5, h6, h7, h8, h9, h10⟩ := parB_ne h
  have hm' : m ≠ 3 ∧ m ≠ 4 ∧ m ≠ 11 ∧ m ≠ 12 ∧ m ≠ 13 ∧ m ≠ 14 ∧ m ≤ 14 := by unfold base at hm; simpa using hm
  have ho : opn b = 15 := by unfold opn; rw [if_neg h1, if_neg h36, if_neg h4]
  unfold mv
  by_cases hP : isProg m = true
  · rw [if_pos hP, if_neg h1, if_neg h2, if_neg h3, if_neg (by omega), if_neg (by simp), if_neg h5, if_neg h6, h10]
  · rw [if_neg hP, if_neg hm'.2.2.2.2.1, if_neg hm'.2.1, if_neg hm'.2.2.2.2.2.1]
    by_cases e6 : m = 6
    · rw [if_pos e6, if_neg h4, if_neg h1]
    rw [if_neg e6, if_neg (by simp [ho])]
    by_cases e9 : m = 9 ∨ m = 10
    · rw [if_pos e9, if_neg h5, if_neg (fun h => h6 h.1), if_neg h6]
    rw [if_neg e9]
    by_cases e5 : m = 5
    · rw [if_pos e5, if_neg h3]
    rw [if_neg e5, if_neg h3, if_neg h7, if_neg (fun h => h2 h.1)]
theorem plain_par {m f : Nat} {r : List Fr} {b p : Nat} (hm : base m = true) (h : parB b) (h36 : b ≠ 36) : plainF ((m, f) :: r) false b p = ⟨(m, f) :: r, false⟩ := by
  show (⟨(mv m b false).1.run ((m, f) :: r) p, (mv m b false).2⟩ : Ms) = _
  rw [mv_par hm h h36]
  rfl
theorem feed_par12 {f : Nat} {r : List Fr} {b p : Nat} (hg : good ((12, f) :: r)) (h : parB b) : feed ⟨(12, f) :: r, false⟩ b p = ⟨r, false⟩ := by
  obtain ⟨h1, h2, h3, h4, h5, h6, h7, h8, h9, h10⟩ := parB_ne h
  obtain ⟨m2, f2, r2, rfl, ho, hg2⟩ := good_more hg (by decide)
  unfold feed
  simp only [if_true]
  rw [if_neg h5, if_neg h8]
  by_cases h36 : b = 36
  · rw [if_pos h36]
  · rw [if_neg h36, plain_par (over_base ho) h h36]
theorem feed_par {m f : Nat} {r : List Fr} {b p : Nat} (hm : base m = true) (h : parB b) (h36 : b ≠ 36) : feed ⟨(m, f) :: r, false⟩ b p = ⟨(m, f) :: r, false⟩ := by
  have hm' : m ≠ 3 ∧ m ≠ 4 ∧ m ≠ 11 ∧ m ≠ 12 ∧ m ≠ 13 ∧ m ≠ 14 ∧ m ≤ 14 := by unfold base at hm; simpa using hm
  rw [feed_plain hm'.1 hm'.2.2.1 hm'.2.2.2.1, plain_par hm h h36]

/-- The bytes of a parameter. -/
theorem param_bytes {s : ByteArray} {k i : Nat} (h : i < paramN s k) : parB (by8 s (k + i)) ∧ (0 < i → by8 s (k + i) ≠ 36) := by
  unfold paramN at h
  split at h
  · rename_i hn
    have := lead_all (fun i => mayN (cl s (k + i)) i) (z := s.size - k) (i := i) h
    have h5 : cl s (k + i) = 5 ∨ (cl s (k + i) = 6 ∧ 0 < i) := by unfold mayN at this; simpa using this
    have e : cl s (k + i) = cls (by8 s (k + i)) := rfl
    rw [e] at h5
    refine ⟨?_, fun _ h36 => ?_⟩
    · rcases h5 with h5 | h5
      · exact .inl h5
      · exact .inr (.inl h5.1)
    · rw [h36] at h5
      revert h5
      have : cls 36 = 4 := by decide
      omega
  · split at h
    · rename_i hx
      obtain rfl : i = 0 := by omega
      refine ⟨?_, fun h => by omega⟩
      rw [Nat.add_zero]
      rcases hx.2 with h6 | h6
      · exact .inr (.inl h6)
      · exact .inr (.inr h6)
    · omega

/-- A dollar's frame is the last one. -/
theorem dollar_last {s : ByteArray} {k f : Nat} {A R : List Fr} (h : nt s k = A ++ (12, f) :: R) : A = [] := by
  cases hA : A.reverse with
  | nil => simpa using hA
  | cons a A2 =>
    exfalso
    have e : A = A2.reverse ++ [a] := by
      have := congrArg List.reverse hA
      simpa using this
    have hg := (runK_inv s k).good
    rw [nt_st, h, e] at hg
    have hd : ∀ (B : List Fr) (C : List Fr), good (B ++ a :: (12, f) :: C) → False := by
      intro B
      induction B with
      | nil =>
        intro C h
        have := over_base (good_two (m := a.1) (f := a.2) h).1
        simp [base] at this
      | cons b B ih =>
        intro C h
        refine ih C ?_
        cases hB : B ++ a :: (12, f) :: C with
        | nil => simp at hB
        | cons c D =>
          rw [List.cons_append, hB] at h
          exact (good_two (m := b.1) (f := b.2) (m2 := c.1) (f2 := c.2) h).2
    refine hd A2.reverse (R ++ [(0, 0)]) ?_
    simpa using hg
/-- A dollar's frame doesn't stay a dollar's. -/
theorem dollar_once {s : ByteArray} {k f : Nat} (h : pres s (k + 1) f = true) (hf : f < k) (hm : md s k f = 12) : md s (k + 1) f ≠ 12 := by
  obtain ⟨A, R, hA⟩ := pres_split (pres_back h hf)
  rw [hm] at hA
  obtain rfl := dollar_last hA
  rw [List.nil_append] at hA
  have hI := runK_inv s k
  have hst : (runK s k).st = (12, f) :: (R ++ [(0, 0)]) := by rw [nt_st, hA]; rfl
  have hRf : ∀ x ∈ R, x.2 ≠ f := by
    have := nt_pw s k
    rw [hA, List.pairwise_cons] at this
    intro x hx e
    have := this.1 x hx
    simp at this
    omega
  obtain ⟨st, fr⟩ : ∃ x, x = runK s k := ⟨_, rfl⟩
  have hN := nt_st s (k + 1)
  have hsu := runK_succ s k
  obtain ⟨m', hm'⟩ := pres_iff.1 h
  -- by the byte
  have key : ∀ b, (feed (runK s k) b k).st = nt s (k + 1) ++ [(0, 0)] → md s (k + 1) f ≠ 12 := by
    intro b hb
    have hx : runK s k = ⟨(12, f) :: (R ++ [(0, 0)]), (runK s k).fresh⟩ := by
      cases hq : runK s k with
      | mk a c => rw [hq] at hst; simp at hst; rw [hst]
    rw [hx] at hb
    unfold feed at hb
    simp only [if_true] at hb
    have not : ∀ D : List Fr, D = R → (nt s (k + 1) = D ∨ (∃ n, nt s (k + 1) = (n, k) :: D)) → False := by
      intro D hD hh
      subst hD
      rcases hh with hh | ⟨n, hh⟩
      · rw [hh] at hm'
        exact hRf _ hm' rfl
      · rw [hh] at hm'
        rcases List.mem_cons.1 hm' with e | e
        · simp at e; omega
        · exact hRf _ e rfl
    split at hb
    · have e : nt s (k + 1) = (3, f) :: R := by
        have : (3, f) :: (R ++ [(0, 0)]) = nt s (k + 1) ++ [(0, 0)] := hb
        rw [← List.cons_append] at this
        exact (List.append_cancel_right this).symm
      rw [md_at (A := []) e]
      decide
    split at hb
    · have e : nt s (k + 1) = (brace (top (R ++ [(0, 0)])), f) :: R := by
        have : (brace (top (R ++ [(0, 0)])), f) :: (R ++ [(0, 0)]) = nt s (k + 1) ++ [(0, 0)] := hb
        rw [← List.cons_append] at this
        exact (List.append_cancel_right this).symm
      rw [md_at (A := []) e]
      unfold brace
      split <;> decide
    split at hb
    · exact absurd (.inl (List.append_cancel_right (show R ++ [(0, 0)] = nt s (k + 1) ++ [(0, 0)] from hb)).symm) (fun h => not R rfl h)
    · -- the byte comes to what stands below
      exfalso
      have hgd := hI.good
      rw [hst] at hgd
      obtain ⟨m2, f2, r2, hr2, ho, hg2⟩ := good_more hgd (by decide)
      rw [hr2] at hb
      have hmem : ∀ x ∈ nt s (k + 1) ++ [(0, 0)], x.2 = f → x ∈ nt s (k + 1) → False := by
        intro x hx hxf hxn
        rw [← hb] at hx
        have hsub : ∀ y ∈ ((m2, f2) :: r2), y.2 = f → y ∈ R ∨ y = (0, 0) := by
          intro y hy _
          rw [← hr2] at hy
          rcases List.mem_append.1 hy with hy | hy
          · exact .inl hy
          · exact .inr (by simpa using hy)
        have h00 : (0, 0) ∈ nt s (k + 1) → False := by
          intro h0
          have hgg := (runK_inv s (k + 1)).good
          obtain ⟨A2, B2, hAB⟩ := List.append_of_mem h0
          rw [nt_st, hAB] at hgg
          have hz : ∀ (C : List Fr), good (C ++ (0, 0) :: (B2 ++ [(0, 0)])) → False := by
            intro C
            induction C with
            | nil =>
              intro h
              have := good_zero h
              simp at this
            | cons c C ih =>
              intro h
              refine ih ?_
              cases hC : C ++ (0, 0) :: (B2 ++ [(0, 0)]) with
              | nil => simp at hC
              | cons d D =>
                rw [List.cons_append, hC] at h
                exact (good_two (m := c.1) (f := c.2) (m2 := d.1) (f2 := d.2) h).2
          refine hz A2 ?_
          simpa using hgg
        have fin : x ∈ ((m2, f2) :: r2) → False := by
          intro hx2
          rcases hsub x hx2 hxf with h1 | h1
          · exact hRf x h1 hxf
          · rw [h1] at hxn
            exact h00 hxn
        rcases plain_cases m2 f2 r2 (runK s k).fresh b k with e | ⟨n, e, _⟩ | ⟨_, e⟩ | ⟨e9, e⟩
        · rw [e] at hx; exact fin hx
        · rw [e] at hx
          rcases List.mem_cons.1 hx with h1 | h1
          · rw [h1] at hxf
            simp at hxf
            omega
          · exact fin h1
        · rw [e] at hx; exact fin (List.mem_cons_of_mem _ hx)
        · rw [e] at hx
          rcases List.mem_cons.1 hx with h1 | h1
          · -- the turned frame's place is that of one below
            have : f2 = f := by rw [h1] at hxf; exact hxf
            have hin : (m2, f2) ∈ R ∨ (m2, f2) = (0, 0) := hsub (m2, f2) (by simp) this
            rcases hin with h2 | h2
            · exact hRf _ h2 this
            · simp at h2; omega
          · exact fin (List.mem_cons_of_mem _ h1)
      exact hmem (m', f) (List.mem_append_left _ hm') rfl hm'
  have := key (by8 s k) (by rw [← hsu]; exact hN)
  exact this
theorem md_turn {s : ByteArray} {k f : Nat} (h : pres s (k + 1) f = true) (hf : f < k) (hm : md s (k + 1) f = 12) : md s k f = 12 := by
  obtain ⟨j, T, hj, hS, hN0⟩ := nt_tr s k
  have hN := tr_or hN0
  obtain ⟨A, R, hA⟩ := pres_split (pres_back h hf)
  obtain ⟨A2, hA2⟩ := drop_split (nt_pw s k) hA ((stay hS hN hf).1 h)
  have hT : ∃ A3, T = A3 ++ (12, f) :: R := by
    have hTe : ∃ A3 n, T = A3 ++ (n, f) :: R := by
      rcases hS with rfl | ⟨m1, n1, f1, r1, hD, rfl, _⟩
      · exact ⟨A2, _, hA2⟩
      · rw [hD] at hA2
        cases A2 with
        | nil => simp at hA2; obtain ⟨⟨rfl, rfl⟩, rfl⟩ := hA2; exact ⟨[], n1, rfl⟩
        | cons a A2 => simp at hA2; obtain ⟨rfl, rfl⟩ := hA2; exact ⟨(n1, f1) :: A2, _, rfl⟩
    obtain ⟨A3, n, hT⟩ := hTe
    have hn : md s (k + 1) f = n := by
      rcases hN with h | ⟨n2, h⟩
      · exact md_at (by rw [h]; exact hT)
      · exact md_at (A := (n2, k) :: A3) (by rw [h, hT]; rfl)
    exact ⟨A3, by rw [hT, ← hn, hm]⟩
  obtain ⟨A3, hT⟩ := hT
  rcases hS with rfl | ⟨m1, n1, f1, r1, hD, rfl, ht⟩
  · rw [hA2] at hT
    have h1 := md_at hA
    have hp := nt_pw s k
    have hp2 : (A2 ++ (md s k f, f) :: R).Pairwise (fun a b => b.2 < a.2) := by rw [← hA2]; exact hp.sublist (List.drop_sublist _ _)
    have e1 := find_pw hp2 rfl
    have e2 := find_pw hp2 hT
    rw [e1] at e2
    simpa using e2
  · rw [hD] at hA2
    cases A2 with
    | nil =>
      simp at hA2
      obtain ⟨⟨hm1, rfl⟩, rfl⟩ := hA2
      cases A3 with
      | nil =>
        simp at hT
        subst hT
        unfold turns at ht
        omega
      | cons a A3 =>
        simp at hT
        have := congrArg List.length hT.2
        simp at this
        omega
    | cons a A2 =>
      simp at hA2
      obtain ⟨rfl, rfl⟩ := hA2
      cases A3 with
      | nil =>
        simp at hT
        have := congrArg List.length hT.2
        simp at this
        omega
      | cons b A3 =>
        simp at hT
        have hp := nt_pw s k
        have hp2 : (A2 ++ (md s k f, f) :: R).Pairwise (fun a b => b.2 < a.2) := by
          have h3 := hp.sublist (List.drop_sublist j (nt s k))
          rw [hD] at h3
          exact (List.pairwise_cons.1 h3).2
        have e1 := find_pw hp2 rfl
        have e2 := find_pw hp2 hT.2
        rw [e1] at e2
        simpa using e2
/-- A part that is a dollar's at its end has had one beginning. -/
theorem dollar_end {s : ByteArray} {k f : Nat} (h : pres s k f = true) (hm : md s k f = 12) : k = f + 1 := by
  have hlt := pres_lt h
  apply Classical.byContradiction
  intro g
  obtain ⟨j, rfl⟩ : ∃ j, k = j + 1 := ⟨k - 1, by omega⟩
  have h1 := md_turn h (by omega) hm
  exact dollar_once h (by omega) h1 hm
end Go.Proofs.Ytholjhdjlhkocaa

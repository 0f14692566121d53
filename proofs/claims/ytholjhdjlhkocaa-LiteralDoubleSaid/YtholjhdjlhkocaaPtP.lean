/- The plain facts on the frames of a machine behind a text's beginnings: how they come and go, byte by byte. No condition: nothing here speaks of the program. -/
import Derived.Test.YtholjhdjlhkocaaMdR
namespace Go.Proofs.Ytholjhdjlhkocaa
open Go.RowKit
set_option linter.unusedVariables false

theorem good_allm : ∀ {st : List Fr}, good st → ∀ x ∈ st, x.1 ≤ 14
  | [], h, x, hx => by simp at hx
  | [(m, f)], h, x, hx => by
    simp at hx
    subst hx
    exact good_le h
  | (m, f) :: (m2, f2) :: r, h, x, hx => by
    rcases List.mem_cons.1 hx with rfl | hx
    · exact good_le h
    · exact good_allm (good_two h).2 x hx

/-- Upon Top alone, each frame's place behind those below it, and ahead of k. -/
def dsc : Nat → List Fr → Prop
  | _, [] => False
  | _, [(m, f)] => m = 0 ∧ f = 0
  | k, (m, f) :: y :: r => f < k ∧ dsc f (y :: r)
theorem dsc_mono : ∀ {st : List Fr} {k l : Nat}, dsc k st → k ≤ l → dsc l st
  | [], _, _, h, _ => h
  | [(m, f)], _, _, h, _ => h
  | (m, f) :: y :: r, _, _, h, hl => ⟨Nat.lt_of_lt_of_le h.1 hl, h.2⟩
theorem dsc_tail {k m f : Nat} {r : List Fr} (h : dsc k ((m, f) :: r)) (hr : r ≠ []) : dsc k r := by
  cases r with
  | nil => exact absurd rfl hr
  | cons y r => exact dsc_mono h.2 (Nat.le_of_lt h.1)
theorem dsc_turn {k m f : Nat} {r : List Fr} (h : dsc k ((m, f) :: r)) (hr : r ≠ []) (n : Nat) : dsc k ((n, f) :: r) := by
  cases r with
  | nil => exact absurd rfl hr
  | cons y r => exact h
theorem dsc_push {k : Nat} {st : List Fr} (h : dsc k st) (n : Nat) : dsc (k + 1) ((n, k) :: st) := by
  cases st with
  | nil => exact absurd h (by simp [dsc])
  | cons y r => exact ⟨Nat.lt_succ_self _, h⟩

/-- What a byte makes of a stack that takes it. -/
theorem mv_cases (m b : Nat) (fresh : Bool) : (mv m b fresh).1 = .keep ∨ (∃ n, (mv m b fresh).1 = .push n ∧ (n = 13 ∨ n = 4 ∨ n = 5 ∨ n = 6 ∨ n = 12 ∨ n = 14 ∨ n = 2 ∨ n = 10)) ∨ (m ≠ 0 ∧ (mv m b fresh).1 = .pop) ∨ (m = 9 ∧ (mv m b fresh).1 = .turn 11) := by
  have ho := opn_cases b
  obtain ⟨v, hv⟩ : ∃ v, mv m b fresh = v := ⟨_, rfl⟩
  rw [hv]
  unfold mv at hv
  by_cases hP : isProg m = true
  · rw [if_pos hP] at hv
    repeat' split at hv
    all_goals subst hv
    all_goals first
      | exact .inl rfl
      | exact .inr (.inl ⟨_, rfl, by omega⟩)
      | (refine .inr (.inl ⟨_, rfl, ?_⟩); rename_i h; unfold opn; rcases h with rfl | rfl <;> simp)
      | exact .inr (.inr (.inl ⟨by assumption, rfl⟩))
  · rw [if_neg hP] at hv
    have h0 : m ≠ 0 := by rintro rfl; exact hP rfl
    repeat' split at hv
    all_goals subst hv
    all_goals first
      | exact .inl rfl
      | exact .inr (.inr (.inl ⟨h0, rfl⟩))
      | exact .inr (.inl ⟨_, rfl, by omega⟩)
      | exact .inr (.inr (.inr ⟨by omega, rfl⟩))
theorem plain_cases (m f : Nat) (r : List Fr) (fresh : Bool) (b p : Nat) :
    (plainF ((m, f) :: r) fresh b p).st = (m, f) :: r ∨ (∃ n, (plainF ((m, f) :: r) fresh b p).st = (n, p) :: (m, f) :: r ∧ (n = 13 ∨ n = 4 ∨ n = 5 ∨ n = 6 ∨ n = 12 ∨ n = 14 ∨ n = 2 ∨ n = 10)) ∨ (m ≠ 0 ∧ (plainF ((m, f) :: r) fresh b p).st = r) ∨ (m = 9 ∧ (plainF ((m, f) :: r) fresh b p).st = (11, f) :: r) := by
  show (fin (mv m b fresh) ((m, f) :: r) p).st = _ ∨ _
  unfold plainF fin
  simp only
  rcases mv_cases m b fresh with h | ⟨n, h, hn⟩ | ⟨h0, h⟩ | ⟨h0, h⟩
  · rw [h]; exact .inl rfl
  · rw [h]; exact .inr (.inl ⟨n, rfl, hn⟩)
  · rw [h]; exact .inr (.inr (.inl ⟨h0, rfl⟩))
  · rw [h]; exact .inr (.inr (.inr ⟨h0, rfl⟩))

/-- A frame becomes another mode. -/
def turns (m n : Nat) : Prop := (m = 12 ∧ (n = 3 ∨ n = 7 ∨ n = 8)) ∨ (m = 3 ∧ (n = 9 ∨ n = 1)) ∨ (m = 9 ∧ n = 11) ∨ (m = 11 ∧ n = 9)
/-- Which modes open. -/
def opensM (n : Nat) : Prop := n = 13 ∨ n = 4 ∨ n = 5 ∨ n = 6 ∨ n = 12 ∨ n = 14 ∨ n = 2 ∨ n = 10
/-- The last frame may have become another mode. -/
def Sim (T D : List Fr) : Prop := T = D ∨ ∃ m n f r, D = (m, f) :: r ∧ T = (n, f) :: r ∧ turns m n
/-- What a byte leaves of the frames D: some are shut, one turned, one opens. -/
def Tr (p : Nat) (D N : List Fr) : Prop :=
  ∃ j T, j ≤ D.length ∧ Sim T (D.drop j) ∧ (N = T ∨ ∃ n, N = (n, p) :: T ∧ opensM n ∧ (j = 0 ∨ (j = 1 ∧ top D = 12)))

/-- A byte that comes, as a turn of the whole stack. -/
theorem feed_tr (x : Ms) (hI : Inv x) (b p : Nat) : ∃ j T m f r, x.st.drop j = (m, f) :: r ∧ (T = (m, f) :: r ∨ ∃ n, T = (n, f) :: r ∧ turns m n) ∧ ((feed x b p).st = T ∨ ∃ n, (feed x b p).st = (n, p) :: T ∧ opensM n ∧ (j = 0 ∨ (j = 1 ∧ top x.st = 12))) ∧ (x.st = [(0, 0)] → True) := by
  obtain ⟨st, fresh⟩ := x
  have hg := hI.good
  cases st with
  | nil => exact absurd hg (by simp [good])
  | cons a r =>
    obtain ⟨m, f⟩ := a
    simp only at hg
    -- the byte comes to a mode that stands so deep
    have pl : ∀ (j m1 f1 : Nat) (r1 : List Fr) (m0 : Nat), ((m, f) :: r).drop j = (m0, f1) :: r1 → (m0 = m1 ∨ turns m0 m1) → (m1 = 9 → m0 = 9 ∨ m0 = 11) → (j = 0 ∨ (j = 1 ∧ m = 12)) → good ((m1, f1) :: r1) → m1 ≤ 14 →
        ∃ j T m' f' r', ((m, f) :: r).drop j = (m', f') :: r' ∧ (T = (m', f') :: r' ∨ ∃ n, T = (n, f') :: r' ∧ turns m' n) ∧ ((plainF ((m1, f1) :: r1) fresh b p).st = T ∨ ∃ n, (plainF ((m1, f1) :: r1) fresh b p).st = (n, p) :: T ∧ opensM n ∧ (j = 0 ∨ (j = 1 ∧ m = 12))) ∧ (((m, f) :: r) = [(0, 0)] → True) := by
      intro j m1 f1 r1 m0 hd ht h9 hj hg1 hle
      rcases plain_cases m1 f1 r1 fresh b p with h | ⟨n, h, hn⟩ | ⟨h0, h⟩ | ⟨h0, h⟩
      · refine ⟨j, (m1, f1) :: r1, m0, f1, r1, hd, ?_, .inl h, fun _ => trivial⟩
        rcases ht with rfl | ht
        · exact .inl rfl
        · exact .inr ⟨m1, rfl, ht⟩
      · refine ⟨j, (m1, f1) :: r1, m0, f1, r1, hd, ?_, .inr ⟨n, h, hn, hj⟩, fun _ => trivial⟩
        rcases ht with rfl | ht
        · exact .inl rfl
        · exact .inr ⟨m1, rfl, ht⟩
      · obtain ⟨m2, f2, r2, rfl, h1, h2⟩ := good_more hg1 h0
        refine ⟨j + 1, (m2, f2) :: r2, m2, f2, r2, ?_, .inl rfl, .inl h, fun _ => trivial⟩
        rw [← List.drop_drop, hd]
        rfl
      · subst h0
        refine ⟨j, (11, f1) :: r1, m0, f1, r1, hd, ?_, .inl h, fun _ => trivial⟩
        rcases h9 rfl with rfl | rfl
        · exact .inr ⟨11, rfl, .inr (.inr (.inl ⟨rfl, rfl⟩))⟩
        · exact .inl rfl
    have hle := good_le hg
    unfold feed
    simp only
    by_cases h12 : m = 12
    · rw [if_pos h12]
      split
      · exact ⟨0, (3, f) :: r, m, f, r, rfl, .inr ⟨3, rfl, .inl ⟨h12, .inl rfl⟩⟩, .inl rfl, fun _ => trivial⟩
      split
      · refine ⟨0, (brace (top r), f) :: r, m, f, r, rfl, .inr ⟨_, rfl, .inl ⟨h12, ?_⟩⟩, .inl rfl, fun _ => trivial⟩
        unfold brace
        split
        · exact .inr (.inr rfl)
        · exact .inr (.inl rfl)
      obtain ⟨m2, f2, r2, rfl, h1, h2⟩ := good_more hg (by omega)
      split
      · exact ⟨1, (m2, f2) :: r2, m2, f2, r2, rfl, .inl rfl, .inl rfl, fun _ => trivial⟩
      · exact pl 1 m2 f2 r2 m2 rfl (.inl rfl) (fun h => .inl h) (.inr ⟨rfl, h12⟩) h2 (good_le h2)
    rw [if_neg h12]
    by_cases h3 : m = 3
    · rw [if_pos h3]
      split
      · exact ⟨0, (9, f) :: r, m, f, r, rfl, .inr ⟨9, rfl, .inr (.inl ⟨h3, .inl rfl⟩)⟩, .inl rfl, fun _ => trivial⟩
      · exact pl 0 1 f r m rfl (.inr (.inr (.inl ⟨h3, .inr rfl⟩))) (fun h => by omega) (.inl rfl) (good_turn hg (by omega) 1 (by decide) f) (by omega)
    rw [if_neg h3]
    by_cases h11 : m = 11
    · rw [if_pos h11]
      split
      · obtain ⟨m2, f2, r2, rfl, h1, h2⟩ := good_more hg (by omega)
        exact ⟨1, (m2, f2) :: r2, m2, f2, r2, rfl, .inl rfl, .inl rfl, fun _ => trivial⟩
      · exact pl 0 9 f r m rfl (.inr (.inr (.inr (.inr ⟨h11, rfl⟩)))) (fun h => .inr h11) (.inl rfl) (good_turn hg (by omega) 9 (by decide) f) (by omega)
    rw [if_neg h11]
    exact pl 0 m f r m rfl (.inl rfl) (fun h => .inl h) (.inl rfl) hg hle

theorem turns_ne {m n : Nat} (h : turns m n) : m ≠ 0 := by unfold turns at h; omega
theorem dsc_feed (x : Ms) (hI : Inv x) (b p : Nat) (h : dsc p x.st) : dsc (p + 1) (feed x b p).st := by
  obtain ⟨j, T, m, f, r, hd, hT, hN, _⟩ := feed_tr x hI b p
  have drp : ∀ (j : Nat) (st : List Fr), dsc p st → st.drop j ≠ [] → dsc p (st.drop j) := by
    intro j
    induction j with
    | zero => intro st h _; exact h
    | succ j ih =>
      intro st h hn
      cases st with
      | nil => exact absurd rfl hn
      | cons a st =>
        rw [List.drop_succ_cons] at hn ⊢
        refine ih st (dsc_tail h ?_) hn
        rintro rfl
        simp at hn
  have hD : dsc p ((m, f) :: r) := by
    have := drp j x.st h (by rw [hd]; simp)
    rwa [hd] at this
  have hDT : dsc p T := by
    rcases hT with rfl | ⟨n, rfl, ht⟩
    · exact hD
    · refine dsc_turn hD ?_ n
      rintro rfl
      have := turns_ne ht
      exact this hD.1
  rcases hN with hN | ⟨n, hN, _⟩
  · rw [hN]; exact dsc_mono hDT (Nat.le_succ _)
  · rw [hN]; exact dsc_push hDT n
theorem dsc_run (s : ByteArray) : ∀ k, dsc k (runK s k).st
  | 0 => ⟨rfl, rfl⟩
  | k + 1 => by
    rw [runK_succ]
    exact dsc_feed _ (runK_inv s k) _ _ (dsc_run s k)

/-- The frames upon Top behind the first k bytes, the last one first. -/
def nt (s : ByteArray) (k : Nat) : List Fr := (runK s k).st.dropLast
theorem dsc_last : ∀ {st : List Fr} {k : Nat}, dsc k st → st = st.dropLast ++ [(0, 0)]
  | [], _, h => absurd h (by simp [dsc])
  | [(m, f)], _, h => by obtain ⟨rfl, rfl⟩ := h; rfl
  | (m, f) :: y :: r, k, h => by
    have := dsc_last h.2
    rw [List.dropLast_cons_of_ne_nil (by simp), List.cons_append, ← this]
theorem nt_st (s : ByteArray) (k : Nat) : (runK s k).st = nt s k ++ [(0, 0)] := dsc_last (dsc_run s k)
theorem nt_zero (s : ByteArray) : nt s 0 = [] := rfl
theorem dsc_pw : ∀ {D : List Fr} {k : Nat}, dsc k (D ++ [(0, 0)]) → (∀ x ∈ D, x.2 < k) ∧ D.Pairwise (fun a b => b.2 < a.2)
  | [], _, _ => ⟨by simp, List.Pairwise.nil⟩
  | (m, f) :: D, k, h => by
    have h2 : f < k ∧ dsc f (D ++ [(0, 0)]) := by
      cases D with
      | nil => exact h
      | cons y D => exact h
    obtain ⟨h3, h4⟩ := dsc_pw h2.2
    refine ⟨fun x hx => ?_, List.Pairwise.cons (fun x hx => h3 x hx) h4⟩
    rcases List.mem_cons.1 hx with rfl | hx
    · exact h2.1
    · exact Nat.lt_trans (h3 x hx) h2.1
theorem nt_lt (s : ByteArray) (k : Nat) {x : Fr} (h : x ∈ nt s k) : x.2 < k := (dsc_pw (by rw [← nt_st]; exact dsc_run s k)).1 x h
theorem nt_pw (s : ByteArray) (k : Nat) : (nt s k).Pairwise (fun a b => b.2 < a.2) := (dsc_pw (by rw [← nt_st]; exact dsc_run s k)).2
theorem nt_le14 (s : ByteArray) (k : Nat) {x : Fr} (h : x ∈ nt s k) : x.1 ≤ 14 := good_allm (runK_inv s k).good x (by rw [nt_st]; exact List.mem_append_left _ h)
theorem nt_len (s : ByteArray) (k : Nat) : (nt s k).length ≤ k := by
  have := runK_len s k
  rw [nt_st] at this
  simp at this
  exact this

/-- A byte, told of the frames upon Top. -/
theorem nt_tr (s : ByteArray) (k : Nat) : Tr k (nt s k) (nt s (k + 1)) := by
  obtain ⟨j, T, m, f, r, hd, hT, hN, _⟩ := feed_tr (runK s k) (runK_inv s k) (by8 s k) k
  rw [← runK_succ, nt_st s (k + 1)] at hN
  have htop : top (nt s k ++ [(0, 0)]) = top (nt s k) := by
    cases nt s k with
    | nil => rfl
    | cons a D => rfl
  rw [nt_st s k] at hd hN
  rw [htop] at hN
  have hj : j ≤ (nt s k).length := by
    have : j < (nt s k ++ [(0, 0)]).length := by
      apply Classical.byContradiction
      intro g
      rw [List.drop_eq_nil_of_le (by omega)] at hd
      cases hd
    simp at this
    omega
  rw [List.drop_append_of_le_length hj] at hd
  -- the turned stack has Top below, too
  have hT2 : ∃ T2, T = T2 ++ [(0, 0)] ∧ Sim T2 ((nt s k).drop j) := by
    rcases hT with rfl | ⟨n, rfl, ht⟩
    · exact ⟨_, hd.symm, .inl rfl⟩
    · cases hD : (nt s k).drop j with
      | nil =>
        rw [hD] at hd
        simp at hd
        exact absurd hd.1.1.symm (turns_ne ht)
      | cons a D =>
        rw [hD] at hd
        simp at hd
        obtain ⟨rfl, rfl⟩ := hd
        exact ⟨(n, f) :: D, rfl, .inr ⟨m, n, f, D, rfl, rfl, ht⟩⟩
  obtain ⟨T2, rfl, hS⟩ := hT2
  refine ⟨j, T2, hj, hS, ?_⟩
  rcases hN with hN | ⟨n, hN, ho, hj2⟩
  · exact .inl (List.append_cancel_right hN)
  · refine .inr ⟨n, ?_, ho, hj2⟩
    rw [← List.cons_append] at hN
    exact List.append_cancel_right hN
end Go.Proofs.Ytholjhdjlhkocaa

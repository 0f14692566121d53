/- The plain facts on machines of modes that begin at other places, behind $(, between quotes, and on what shuts all that is open. No condition: nothing here speaks of the program. -/
import Derived.Test.YtiklnlkakhghdaaGreatDoorMdR
namespace Go.Proofs.YtiklnlkakhghdaaGreatDoor
open Go.RowKit
set_option linter.unusedVariables false

theorem feed_plain' {m f : Nat} {r : List Fr} {fresh : Bool} {b p : Nat} (h3 : m ≠ 3) (h11 : m ≠ 11) (h12 : m ≠ 12) : feed ⟨(m, f) :: r, fresh⟩ b p = plainF ((m, f) :: r) fresh b p := by
  unfold feed
  simp only [h3, h11, h12, if_false]
/-- A stack's frames so many places on. -/
def shift (d : Nat) (l : List Fr) : List Fr := l.map fun x => (x.1, x.2 + d)
theorem shift_cons (d m f : Nat) (l : List Fr) : shift d ((m, f) :: l) = (m, f + d) :: shift d l := rfl
theorem shift_len (d : Nat) (l : List Fr) : (shift d l).length = l.length := by simp [shift]
theorem top_app {m f : Nat} {u rest : List Fr} : top ((m, f) :: u ++ rest) = m := rfl
/-- The first frame of what lies on a stack: a command or a sum that has begun. -/
def rooted (ms : List Nat) : List Fr → Prop
  | [] => False
  | [(m, _)] => m ∈ ms
  | _ :: a :: u => rooted ms (a :: u)
theorem rooted_two {ms : List Nat} {a b : Fr} {u : List Fr} : rooted ms (a :: b :: u) = rooted ms (b :: u) := rfl
theorem rooted_head {ms : List Nat} {a b : Fr} {u : List Fr} (h : rooted ms (a :: u)) (hu : u ≠ []) : rooted ms (b :: u) := by
  cases u with
  | nil => exact absurd rfl hu
  | cons c u => exact h

/-- What takes no frame away and turns none. -/
def Stay (v : Mv × Bool) : Prop := v.1 = .keep ∨ ∃ n, v.1 = .push n
theorem stay_k (c : Bool) : Stay (.keep, c) := .inl rfl
theorem stay_p (n : Nat) (c : Bool) : Stay (.push n, c) := .inr ⟨n, rfl⟩
theorem mv_stay1 (b : Nat) (fr : Bool) (hb : b ≠ 41) : Stay (mv 1 b fr) := by
  unfold mv
  rw [if_pos (by decide)]
  by_cases h1 : b = 92
  · rw [if_pos h1]; exact stay_p _ _
  rw [if_neg h1]
  by_cases h2 : b = 39
  · rw [if_pos h2]; exact stay_p _ _
  rw [if_neg h2]
  by_cases h3 : b = 34
  · rw [if_pos h3]; exact stay_p _ _
  rw [if_neg h3]
  by_cases h4 : b = 96 ∨ b = 36
  · rw [if_pos h4]; exact stay_p _ _
  rw [if_neg h4]
  by_cases h5 : b = 35 ∧ fr = true
  · rw [if_pos h5]; exact stay_p _ _
  rw [if_neg h5]
  by_cases h6 : b = 40
  · rw [if_pos h6, if_neg (by decide)]; exact stay_p _ _
  rw [if_neg h6, if_neg hb]
  exact stay_k _
theorem mv_stay9 (b : Nat) (fr : Bool) (hb : b ≠ 41) : Stay (mv 9 b fr) := by
  unfold mv
  rw [if_neg (by decide), if_neg (by decide), if_neg (by decide), if_neg (by decide), if_neg (by decide)]
  by_cases h1 : opn b ≠ 15
  · rw [if_pos h1]; exact stay_p _ _
  rw [if_neg h1, if_pos (by decide)]
  by_cases h6 : b = 40
  · rw [if_pos h6]; exact stay_p _ _
  rw [if_neg h6, if_neg (fun h => hb h.1), if_neg hb]
  exact stay_k _

/-- A byte that is no ) leaves what lies below such a frame alone, and hangs on nothing there. -/
theorem plain_inner {m f : Nat} {u : List Fr} {fr : Bool} {b : Nat} (h : rooted [1, 3, 9] ((m, f) :: u)) (h3 : m ≠ 3) (hb : b ≠ 41) (p : Nat) :
    ∃ u2 fr2, rooted [1, 3, 9] u2 ∧ ∀ d rest, plainF (shift d ((m, f) :: u) ++ rest) fr b (p + d) = ⟨shift d u2 ++ rest, fr2⟩ := by
  refine ⟨(mv m b fr).1.run ((m, f) :: u) p, (mv m b fr).2, ?_, ?_⟩
  · cases u with
    | nil =>
      have h' : m = 1 ∨ m = 9 := by simp [rooted] at h; omega
      have hs : Stay (mv m b fr) := by
        rcases h' with rfl | rfl
        · exact mv_stay1 b fr hb
        · exact mv_stay9 b fr hb
      rcases hs with hv | ⟨n, hv⟩
      · rw [hv]; exact h
      · rw [hv]; exact h
    | cons a u =>
      cases hv : (mv m b fr).1 with
      | keep => exact h
      | push n => exact h
      | pop => exact h
      | turn n => exact h
  · intro d rest
    show fin (mv m b fr) ((m, f + d) :: (shift d u ++ rest)) (p + d) = _
    unfold fin
    cases hv : (mv m b fr).1 with
    | keep => rfl
    | push n => rfl
    | pop => rfl
    | turn n => rfl
theorem feed_inner {u : List Fr} {fr : Bool} {b : Nat} (h : rooted [1, 3, 9] u) (hg : ∀ a c v, u = a :: c :: v → base c.1 = true) (hb : b ≠ 41) (p : Nat) :
    ∃ u2 fr2, rooted [1, 3, 9] u2 ∧ ∀ d rest, feed ⟨shift d u ++ rest, fr⟩ b (p + d) = ⟨shift d u2 ++ rest, fr2⟩ := by
  cases u with
  | nil => exact absurd h (by simp [rooted])
  | cons a u =>
    obtain ⟨m, f⟩ := a
    have hs : ∀ d rest, shift d ((m, f) :: u) ++ rest = (m, f + d) :: (shift d u ++ rest) := fun d rest => rfl
    by_cases h12 : m = 12
    · subst h12
      cases u with
      | nil => exact absurd h (by simp [rooted])
      | cons c u =>
        obtain ⟨m2, f2⟩ := c
        have hB := hg (12, f) (m2, f2) u rfl
        have h' : rooted [1, 3, 9] ((m2, f2) :: u) := h
        have hm3 : m2 ≠ 3 := by
          have hB' : base m2 = true := hB
          unfold base at hB'
          rw [decide_eq_true_iff] at hB'
          exact hB'.1
        by_cases h40 : b = 40
        · subst h40
          exact ⟨(3, f) :: (m2, f2) :: u, true, h, fun d rest => rfl⟩
        by_cases h123 : b = 123
        · subst h123
          exact ⟨(brace m2, f) :: (m2, f2) :: u, fr, h, fun d rest => rfl⟩
        by_cases h36 : b = 36
        · subst h36
          exact ⟨(m2, f2) :: u, fr, h', fun d rest => rfl⟩
        obtain ⟨u2, fr2, k1, k2⟩ := plain_inner (fr := fr) h' hm3 hb p
        refine ⟨u2, fr2, k1, fun d rest => ?_⟩
        rw [← k2 d rest, hs]
        unfold feed
        simp [h40, h123, h36]
    by_cases h3 : m = 3
    · subst h3
      by_cases h40 : b = 40
      · subst h40
        refine ⟨(9, f) :: u, false, ?_, fun d rest => rfl⟩
        cases u with
        | nil => simp [rooted]
        | cons c u => exact h
      have h1 : rooted [1, 3, 9] ((1, f) :: u) := by
        cases u with
        | nil => simp [rooted]
        | cons c u => exact h
      obtain ⟨u2, fr2, k1, k2⟩ := plain_inner (fr := fr) h1 (by omega) hb p
      refine ⟨u2, fr2, k1, fun d rest => ?_⟩
      rw [← k2 d rest, hs]
      unfold feed
      simp only [h40, if_false, if_true]
      rfl
    by_cases h11 : m = 11
    · subst h11
      have h1 : rooted [1, 3, 9] ((9, f) :: u) := by
        cases u with
        | nil => simp [rooted]
        | cons c u => exact h
      obtain ⟨u2, fr2, k1, k2⟩ := plain_inner (fr := fr) h1 (by omega) hb p
      refine ⟨u2, fr2, k1, fun d rest => ?_⟩
      rw [← k2 d rest, hs]
      unfold feed
      simp only [hb, if_false, if_true]
      rfl
    obtain ⟨u2, fr2, k1, k2⟩ := plain_inner (fr := fr) h h3 hb p
    refine ⟨u2, fr2, k1, fun d rest => ?_⟩
    rw [← k2 d rest, hs]
    unfold feed
    simp only [h3, h11, h12, if_false]

/-- The bytes of a text behind another one are fed to what that leaves. -/
theorem by8_l {a b : ByteArray} {i : Nat} (h : i < a.size) : by8 (a ++ b) i = by8 a i := by
  unfold by8
  congr 1
  have h0 : i < (a ++ b).size := by simp; omega
  rw [bt_eq h0, bt_eq h]
  simp only [ByteArray.getElem_eq_getElem_data]
  have e : (a ++ b).data = a.data ++ b.data := by simp
  simp only [e]
  exact Array.getElem_append_left h
theorem by8_r {a b : ByteArray} {i : Nat} (h : i < b.size) : by8 (a ++ b) (a.size + i) = by8 b i := by
  unfold by8
  congr 1
  have h0 : a.size + i < (a ++ b).size := by simp; omega
  rw [bt_eq h0, bt_eq h]
  simp only [ByteArray.getElem_eq_getElem_data]
  have e : (a ++ b).data = a.data ++ b.data := by simp
  simp only [e]
  have hs : a.size = a.data.size := rfl
  rw [Array.getElem_append_right (by omega)]
  congr 1
  omega
theorem runK_app (a b : ByteArray) {k : Nat} (hk : k ≤ b.size) : runK (a ++ b) (a.size + k) = runG (runK a a.size) (by8 b) a.size k := by
  unfold runK
  rw [runG_add, Nat.zero_add]
  rw [runG_congr (x := Ms.start) (β := by8 (a ++ b)) (γ := by8 a) fun i hi => by8_l hi]
  exact runG_congr fun i hi => by8_r (by omega)
theorem runK_size {s : ByteArray} : (runK s s.size) = runK s s.size := rfl

/-- What such a frame's bytes come to, with anything beneath. -/
theorem run_inner (β : Nat → Nat) (p : Nat) {u : List Fr} {fr : Bool} (h : rooted [1, 3, 9] u) (hI : Inv ⟨u ++ [(0, 0)], fr⟩) : ∀ k, (∀ i, i < k → β i ≠ 41) →
    ∃ u2 fr2, rooted [1, 3, 9] u2 ∧ Inv ⟨u2 ++ [(0, 0)], fr2⟩ ∧ ∀ d rest, runG ⟨shift d u ++ rest, fr⟩ β (p + d) k = ⟨shift d u2 ++ rest, fr2⟩
  | 0, _ => ⟨u, fr, h, hI, fun d rest => rfl⟩
  | k + 1, hb => by
    obtain ⟨u1, fr1, h1, hI1, e1⟩ := run_inner β p h hI k (fun i hi => hb i (by omega))
    have hg : ∀ a c v, u1 = a :: c :: v → base c.1 = true := by
      rintro a c v rfl
      exact over_base (good_two hI1.good).1
    obtain ⟨u2, fr2, h2, e2⟩ := feed_inner (fr := fr1) h1 hg (hb k (by omega)) (p + k)
    have hz := e2 0 [(0, 0)]
    have s0 : ∀ l : List Fr, shift 0 l = l := fun l => by simp [shift]
    rw [s0, s0, Nat.add_zero] at hz
    refine ⟨u2, fr2, h2, ?_, fun d rest => ?_⟩
    · rw [← hz]
      exact feed_inv hI1 _ _
    · show feed (runG ⟨shift d u ++ rest, fr⟩ β (p + d) k) (β k) (p + d + k) = _
      rw [e1 d rest, show p + d + k = p + k + d by omega]
      exact e2 d rest

/-- Within quotes nothing but a quote. -/
theorem run_quoted (β : Nat → Nat) (p : Nat) (f : Nat) (r : List Fr) (fr : Bool) : ∀ k, (∀ i, i < k → β i ≠ 39) → runG ⟨(4, f) :: r, fr⟩ β p k = ⟨(4, f) :: r, fr⟩
  | 0, _ => rfl
  | k + 1, hb => by
    show feed (runG ⟨(4, f) :: r, fr⟩ β p k) (β k) (p + k) = _
    rw [run_quoted β p f r fr k (fun i hi => hb i (by omega)), feed_plain' (by decide) (by decide) (by decide)]
    have hm : mv 4 (β k) fr = (.keep, fr) := by
      have := hb k (by omega)
      unfold mv
      simp [isProg, this]
    show fin (mv 4 (β k) fr) _ _ = _
    rw [hm]
    rfl
end Go.Proofs.YtiklnlkakhghdaaGreatDoor

/- The plain facts on the parts of a text: which frames are there behind which beginnings, what a part is behind so many bytes and at the end. No condition: nothing here speaks of the program. -/
import Derived.Test.YtholjhdjlhkocaaPtP
namespace Go.Proofs.Ytholjhdjlhkocaa
open Go.RowKit
set_option linter.unusedVariables false

/-- Is a frame of a place there behind k bytes? -/
def pres (s : ByteArray) (k f : Nat) : Bool := (nt s k).any fun x => x.2 == f
theorem pres_iff {s : ByteArray} {k f : Nat} : pres s k f = true ↔ ∃ m, (m, f) ∈ nt s k := by
  unfold pres
  rw [List.any_eq_true]
  constructor
  · rintro ⟨⟨m, g⟩, hx, h⟩
    obtain rfl : g = f := by simpa using h
    exact ⟨m, hx⟩
  · rintro ⟨m, hx⟩
    exact ⟨_, hx, by simp⟩
theorem pres_lt {s : ByteArray} {k f : Nat} (h : pres s k f = true) : f < k := by
  obtain ⟨m, hm⟩ := pres_iff.1 h
  exact nt_lt s k hm
/-- The mode of the frame of a place. -/
def md (s : ByteArray) (k f : Nat) : Nat := (((nt s k).find? fun x => x.2 == f).map Prod.fst).getD 0
theorem find_pw : ∀ {D A R : List Fr} {m f : Nat}, D.Pairwise (fun a b => b.2 < a.2) → D = A ++ (m, f) :: R → D.find? (fun x => x.2 == f) = some (m, f)
  | _, [], R, m, f, hp, rfl => by simp
  | _, a :: A, R, m, f, hp, rfl => by
    have hp' := hp
    rw [List.cons_append, List.pairwise_cons] at hp'
    have hlt : f < a.2 := hp'.1 (m, f) (by simp)
    rw [List.cons_append, List.find?_cons_of_neg (by simp; omega)]
    exact find_pw hp'.2 rfl
theorem md_at {s : ByteArray} {k m f : Nat} {A R : List Fr} (h : nt s k = A ++ (m, f) :: R) : md s k f = m := by
  unfold md
  rw [find_pw (nt_pw s k) h]
  rfl
theorem pres_split {s : ByteArray} {k f : Nat} (h : pres s k f = true) : ∃ A R, nt s k = A ++ (md s k f, f) :: R := by
  obtain ⟨m, hm⟩ := pres_iff.1 h
  obtain ⟨A, R, hA⟩ := List.append_of_mem hm
  exact ⟨A, R, by rw [md_at hA]; exact hA⟩
theorem pres_at {s : ByteArray} {k m f : Nat} {A R : List Fr} (h : nt s k = A ++ (m, f) :: R) : pres s k f = true := pres_iff.2 ⟨m, by rw [h]; simp⟩
theorem md_le (s : ByteArray) (k f : Nat) : md s k f ≤ 14 := by
  by_cases h : pres s k f = true
  · obtain ⟨A, R, hA⟩ := pres_split h
    exact nt_le14 s k (x := (md s k f, f)) (by rw [hA]; simp)
  · unfold md
    rw [List.find?_eq_none.2 (fun x hx e => h (pres_iff.2 ⟨x.1, by
      obtain rfl : x.2 = f := by simpa using e
      exact hx⟩))]
    simp

/-- The frames below the one that opens at a place. -/
def blw (s : ByteArray) (f : Nat) : List Fr := (nt s (f + 1)).tail
theorem born_split {s : ByteArray} {f : Nat} (h : pres s (f + 1) f = true) : nt s (f + 1) = (md s (f + 1) f, f) :: blw s f := by
  obtain ⟨A, R, hA⟩ := pres_split h
  cases A with
  | nil => unfold blw; rw [hA]; rfl
  | cons a A =>
    have h1 := nt_lt s (f + 1) (x := a) (by rw [hA]; simp)
    have h2 := nt_pw s (f + 1)
    rw [hA, List.cons_append, List.pairwise_cons] at h2
    have h3 : f < a.2 := h2.1 (md s (f + 1) f, f) (by simp)
    omega

theorem sim_places {T D : List Fr} (h : Sim T D) : T.map Prod.snd = D.map Prod.snd ∧ T.tail = D.tail := by
  rcases h with rfl | ⟨m, n, f, r, rfl, rfl, _⟩
  · exact ⟨rfl, rfl⟩
  · exact ⟨rfl, rfl⟩
theorem sim_mem {T D : List Fr} (h : Sim T D) {f : Nat} (hm : ∃ m, (m, f) ∈ T) : ∃ m, (m, f) ∈ D := by
  have := (sim_places h).1
  obtain ⟨m, hm⟩ := hm
  have h2 : f ∈ T.map Prod.snd := List.mem_map.2 ⟨_, hm, rfl⟩
  rw [this] at h2
  obtain ⟨x, hx, rfl⟩ := List.mem_map.1 h2
  exact ⟨x.1, hx⟩
theorem sim_mem' {T D : List Fr} (h : Sim T D) {f : Nat} (hm : ∃ m, (m, f) ∈ D) : ∃ m, (m, f) ∈ T := by
  have := (sim_places h).1
  obtain ⟨m, hm⟩ := hm
  have h2 : f ∈ D.map Prod.snd := List.mem_map.2 ⟨_, hm, rfl⟩
  rw [← this] at h2
  obtain ⟨x, hx, rfl⟩ := List.mem_map.1 h2
  exact ⟨x.1, hx⟩
/-- What was there ahead of a byte and is there behind it is one of those that stayed. -/
theorem stay {s : ByteArray} {k f : Nat} {j : Nat} {T : List Fr} (hS : Sim T ((nt s k).drop j)) (hN : nt s (k + 1) = T ∨ ∃ n, nt s (k + 1) = (n, k) :: T) (hf : f < k) : pres s (k + 1) f = true ↔ ∃ m, (m, f) ∈ (nt s k).drop j := by
  constructor
  · intro h
    obtain ⟨m, hm⟩ := pres_iff.1 h
    refine sim_mem hS ⟨m, ?_⟩
    rcases hN with hN | ⟨n, hN⟩
    · rwa [hN] at hm
    · rw [hN] at hm
      rcases List.mem_cons.1 hm with h | h
      · simp at h; omega
      · exact h
  · intro h
    obtain ⟨m, hm⟩ := sim_mem' hS h
    refine pres_iff.2 ⟨m, ?_⟩
    rcases hN with hN | ⟨n, hN⟩
    · rwa [hN]
    · rw [hN]; exact List.mem_cons_of_mem _ hm
theorem tr_or {s : ByteArray} {k : Nat} {T : List Fr} {j : Nat} (h : nt s (k + 1) = T ∨ ∃ n, nt s (k + 1) = (n, k) :: T ∧ opensM n ∧ (j = 0 ∨ (j = 1 ∧ top (nt s k) = 12))) : nt s (k + 1) = T ∨ ∃ n, nt s (k + 1) = (n, k) :: T :=
  h.imp id fun ⟨n, h, _⟩ => ⟨n, h⟩
theorem pres_back {s : ByteArray} {k f : Nat} (h : pres s (k + 1) f = true) (hf : f < k) : pres s k f = true := by
  obtain ⟨j, T, hj, hS, hN⟩ := nt_tr s k
  obtain ⟨m, hm⟩ := (stay hS (tr_or hN) hf).1 h
  exact pres_iff.2 ⟨m, List.mem_of_mem_drop hm⟩
theorem drop_split {D A R : List Fr} {m f j : Nat} (hp : D.Pairwise (fun a b => b.2 < a.2)) (h : D = A ++ (m, f) :: R) (hm : ∃ n, (n, f) ∈ D.drop j) : ∃ A2, D.drop j = A2 ++ (m, f) :: R := by
  by_cases hj : j ≤ A.length
  · exact ⟨A.drop j, by rw [h, List.drop_append_of_le_length hj]⟩
  · exfalso
    obtain ⟨n, hn⟩ := hm
    rw [h] at hp
    have e : D.drop j = R.drop (j - (A.length + 1)) := by
      rw [h, show j = A.length + ((j - (A.length + 1)) + 1) by omega, ← List.drop_drop, List.drop_left, List.drop_succ_cons]
      congr 1
      omega
    rw [e] at hn
    have := (List.pairwise_cons.1 (List.pairwise_append.1 hp).2.1).1 _ (List.mem_of_mem_drop hn)
    simp at this
/-- The frames below stay as long as the frame itself. -/
theorem step_below {s : ByteArray} {k m f : Nat} {A R : List Fr} (h : nt s k = A ++ (m, f) :: R) (hp : pres s (k + 1) f = true) (hf : f < k) : ∃ A2 n, nt s (k + 1) = A2 ++ (n, f) :: R := by
  obtain ⟨j, T, hj, hS, hN⟩ := nt_tr s k
  obtain ⟨A2, hA2⟩ := drop_split (nt_pw s k) h ((stay hS (tr_or hN) hf).1 hp)
  have hT : ∃ A3 n, T = A3 ++ (n, f) :: R := by
    rcases hS with rfl | ⟨m1, n1, f1, r1, hD, rfl, _⟩
    · exact ⟨A2, m, hA2⟩
    · rw [hD] at hA2
      cases A2 with
      | nil =>
        simp at hA2
        obtain ⟨⟨rfl, rfl⟩, rfl⟩ := hA2
        exact ⟨[], n1, rfl⟩
      | cons a A2 =>
        simp at hA2
        obtain ⟨rfl, rfl⟩ := hA2
        exact ⟨(n1, f1) :: A2, m, rfl⟩
  obtain ⟨A3, n, rfl⟩ := hT
  rcases tr_or hN with hN | ⟨n2, hN⟩
  · exact ⟨A3, n, hN⟩
  · exact ⟨(n2, k) :: A3, n, hN⟩
theorem pres_all {s : ByteArray} {f : Nat} : ∀ {k : Nat}, pres s k f = true → (∃ A, nt s k = A ++ (md s k f, f) :: blw s f) ∧ ∀ j, f < j → j ≤ k → pres s j f = true
  | 0, h => absurd (pres_lt h) (by omega)
  | k + 1, h => by
    have hf := pres_lt h
    by_cases e : f = k
    · subst e
      refine ⟨⟨[], born_split h⟩, fun j h1 h2 => ?_⟩
      obtain rfl : j = f + 1 := by omega
      exact h
    · obtain ⟨⟨A, hA⟩, ha⟩ := pres_all (pres_back h (by omega))
      obtain ⟨A2, n, hA2⟩ := step_below hA h (by omega)
      refine ⟨⟨A2, by rw [md_at hA2]; exact hA2⟩, fun j h1 h2 => ?_⟩
      by_cases e2 : j = k + 1
      · rw [e2]; exact h
      · exact ha j h1 (by omega)

/-- Up to which beginning a frame is there, of the first k. -/
def eK (s : ByteArray) (f k : Nat) : Nat := f + lead (fun i => pres s (f + 1 + i) f) (k - f)
theorem eK_le (s : ByteArray) {f k : Nat} (h : f ≤ k) : eK s f k ≤ k := by
  have := lead_le (fun i => pres s (f + 1 + i) f) (k - f)
  unfold eK
  omega
theorem eK_pres {s : ByteArray} {f k j : Nat} (h1 : f < j) (h2 : j ≤ eK s f k) : pres s j f = true := by
  unfold eK at h2
  have := lead_all (fun i => pres s (f + 1 + i) f) (z := k - f) (i := j - (f + 1)) (by omega)
  rwa [show f + 1 + (j - (f + 1)) = j by omega] at this
theorem eK_eq {s : ByteArray} {f k e : Nat} (h0 : f ≤ e) (h1 : e ≤ k) (hp : ∀ j, f < j → j ≤ e → pres s j f = true) (hs : e < k → pres s (e + 1) f = false) : eK s f k = e := by
  unfold eK
  rw [lead_eq (n := e - f) _ (by omega) (fun i hi => hp _ (by omega) (by omega)) (fun h => by
    have := hs (by omega)
    rwa [show f + 1 + (e - f) = e + 1 by omega])]
  omega
theorem eK_full {s : ByteArray} {f k : Nat} (h : pres s k f = true) : eK s f k = k :=
  eK_eq (Nat.le_of_lt (pres_lt h)) (Nat.le_refl _) (pres_all h).2 (fun g => absurd g (Nat.lt_irrefl _))
theorem eK_stop {s : ByteArray} {f k : Nat} (hf : f ≤ k) (h : eK s f k < k) : pres s (eK s f k + 1) f = false := by
  unfold eK at h ⊢
  have := lead_stop (fun i => pres s (f + 1 + i) f) (z := k - f) (by omega)
  rwa [show f + lead (fun i => pres s (f + 1 + i) f) (k - f) + 1 = f + 1 + lead (fun i => pres s (f + 1 + i) f) (k - f) by omega]
theorem eK_not {s : ByteArray} {f k : Nat} (hf : f < k) (h : pres s k f = false) : eK s f k < k := by
  have h1 := eK_le s (Nat.le_of_lt hf)
  have h2 := eK_pres (s := s) (f := f) (k := k) (j := k) hf
  rcases Nat.lt_or_ge (eK s f k) k with g | g
  · exact g
  · rw [h2 g] at h; cases h
/-- A frame that is shut ahead of the last byte was shut ahead of it. -/
theorem eK_same {s : ByteArray} {f k : Nat} (hf : f < k) (h : pres s k f = false) : eK s f (k + 1) = eK s f k := by
  have h1 := eK_not hf h
  exact eK_eq (by unfold eK; omega) (by omega) (fun j a b => eK_pres a b) (fun _ => eK_stop (Nat.le_of_lt hf) h1)
theorem eK_shut {s : ByteArray} {f k : Nat} (h : pres s k f = true) (h' : pres s (k + 1) f = false) : eK s f (k + 1) = k :=
  eK_eq (Nat.le_of_lt (pres_lt h)) (Nat.le_succ _) (pres_all h).2 (fun _ => h')

/-- A part: its mode, where it begins and ends, the number of the one that it stands in, is it open. -/
structure Prt where
  mode : Nat
  frm : Nat
  to : Nat
  up : Int
  op : Bool
/-- The mode as which a mode counts. -/
def cnt (m : Nat) : Nat := if m = 3 then 1 else if m = 11 then 9 else m
theorem cnt_le {m : Nat} (h : m ≤ 14) : cnt m ≤ 14 := by unfold cnt; (repeat' split) <;> omega
theorem cnt_12 {m : Nat} : cnt m = 12 ↔ m = 12 := by unfold cnt; (repeat' split) <;> omega
theorem cnt_opens {m : Nat} (h : opensM m) : cnt m = m := by unfold opensM at h; unfold cnt; (repeat' split) <;> omega
/-- Does a frame open at a place? -/
def born (s : ByteArray) (f : Nat) : Bool := pres s (f + 1) f
/-- The places ahead of k at which frames open. -/
def bornL (s : ByteArray) (k : Nat) : List Nat := (List.range k).filter (born s)
theorem bornL_succ (s : ByteArray) (k : Nat) : bornL s (k + 1) = bornL s k ++ if born s k = true then [k] else [] := by
  unfold bornL
  rw [List.range_succ, List.filter_append]
  congr 1
  simp [List.filter_cons]
theorem bornL_mem {s : ByteArray} {k f : Nat} : f ∈ bornL s k ↔ f < k ∧ born s f = true := by
  unfold bornL
  rw [List.mem_filter, List.mem_range]
theorem bornL_pw (s : ByteArray) (k : Nat) : (bornL s k).Pairwise (· < ·) := List.Pairwise.filter _ List.pairwise_lt_range
theorem bornL_len (s : ByteArray) (k : Nat) : (bornL s k).length ≤ k := by
  have := List.length_filter_le (born s) (List.range k)
  rw [List.length_range] at this
  exact this
/-- The number of the part that begins at a place. -/
def idx (s : ByteArray) (f : Nat) : Nat := (bornL s f).length
theorem bornL_get (s : ByteArray) (f : Nat) (hb : born s f = true) : ∀ {k : Nat}, f < k → (bornL s k)[idx s f]? = some f
  | 0, h => by omega
  | k + 1, h => by
    rw [bornL_succ]
    by_cases e : f = k
    · subst e
      rw [if_pos hb]
      unfold idx
      simp
    · have h1 := bornL_get s f hb (k := k) (by omega)
      have hl : idx s f < (bornL s k).length := (List.getElem?_eq_some_iff.1 h1).1
      rw [List.getElem?_append_left hl]
      exact h1
theorem idx_lt {s : ByteArray} {f k : Nat} (hb : born s f = true) (h : f < k) : idx s f < (bornL s k).length := (List.getElem?_eq_some_iff.1 (bornL_get s f hb h)).1
theorem idx_mono {s : ByteArray} {f g : Nat} (hb : born s f = true) (h : f < g) : idx s f < idx s g := idx_lt hb h
/-- The i-th place is the one whose number is i. -/
theorem idx_get {s : ByteArray} {k i f : Nat} (h : (bornL s k)[i]? = some f) : idx s f = i ∧ f < k ∧ born s f = true := by
  obtain ⟨hk, hb⟩ := bornL_mem.1 (List.mem_of_getElem? h)
  refine ⟨?_, hk, hb⟩
  have h2 := bornL_get s f hb hk
  have hn := List.pairwise_iff_getElem.1 (bornL_pw s k)
  obtain ⟨hi, h3⟩ := List.getElem?_eq_some_iff.1 h
  obtain ⟨hj, h4⟩ := List.getElem?_eq_some_iff.1 h2
  apply Classical.byContradiction
  intro g
  rcases Nat.lt_or_ge (idx s f) i with g2 | g2
  · have := hn _ _ hj hi g2
    omega
  · have := hn _ _ hi hj (by omega)
    omega
/-- The number of the part that the one at a place stands in. -/
def upI (s : ByteArray) (f : Nat) : Int := match blw s f with
  | [] => -1
  | x :: _ => (idx s x.2 : Nat)
/-- A part ends: a dollar behind its parameter. -/
def closeP (s : ByteArray) (to : Nat) (op : Bool) (p : Prt) : Prt := if p.mode = 12 then { p with to := p.frm + 1 + paramN s (p.frm + 1), op := false } else { p with to := to, op := op }
/-- A part behind the first k bytes. -/
def prtK (s : ByteArray) (k f : Nat) : Prt :=
  if eK s f k = k then ⟨cnt (md s k f), f, 0, upI s f, false⟩ else closeP s (eK s f k + 1) false ⟨cnt (md s (eK s f k) f), f, 0, upI s f, false⟩
/-- A part of the text. -/
def prt (s : ByteArray) (f : Nat) : Prt :=
  if eK s f s.size = s.size then closeP s s.size true (prtK s s.size f) else prtK s s.size f
def LK (s : ByteArray) (k : Nat) : List Prt := (bornL s k).map (prtK s k)
/-- The parts of a text. -/
def PL (s : ByteArray) : List Prt := (bornL s s.size).map (prt s)

theorem closeP_frm (s : ByteArray) (to : Nat) (op : Bool) (p : Prt) : (closeP s to op p).frm = p.frm ∧ (closeP s to op p).mode = p.mode ∧ (closeP s to op p).up = p.up := by
  unfold closeP
  split <;> exact ⟨rfl, rfl, rfl⟩
theorem prtK_in {s : ByteArray} {k f : Nat} (h : pres s k f = true) : prtK s k f = ⟨cnt (md s k f), f, 0, upI s f, false⟩ := by
  unfold prtK
  rw [if_pos (eK_full h)]
theorem prtK_frm (s : ByteArray) (k f : Nat) : (prtK s k f).frm = f ∧ (prtK s k f).up = upI s f ∧ (prtK s k f).mode ≤ 14 := by
  unfold prtK
  split
  · exact ⟨rfl, rfl, cnt_le (md_le _ _ _)⟩
  · have h := closeP_frm s (eK s f k + 1) false ⟨cnt (md s (eK s f k) f), f, 0, upI s f, false⟩
    exact ⟨h.1, h.2.2, by rw [h.2.1]; exact cnt_le (md_le _ _ _)⟩
theorem prtK_shut {s : ByteArray} {k f : Nat} (h : pres s k f = true) (h' : pres s (k + 1) f = false) : prtK s (k + 1) f = closeP s (k + 1) false (prtK s k f) := by
  rw [prtK_in h]
  unfold prtK
  rw [eK_shut h h', if_neg (by omega)]
theorem prtK_same {s : ByteArray} {k f : Nat} (hf : f < k) (h : pres s k f = false) : prtK s (k + 1) f = prtK s k f := by
  have h1 := eK_not hf h
  unfold prtK
  rw [eK_same hf h, if_neg (by omega), if_neg (by omega)]
end Go.Proofs.Ytholjhdjlhkocaa

/- The plain facts on the frames at a place and the parts around it. No condition: nothing here speaks of the program. -/
import Derived.Test.YthelcmjgikfbjaaPtU
import Derived.Test.YthelcmjgikfbjaaPtLd
namespace Go.Proofs.Ythelcmjgikfbjaa
open Go.RowKit
set_option linter.unusedVariables false

/-- Two rising rows of the same numbers are the same. -/
theorem inc_ext : ∀ {l k : List Nat}, l.Pairwise (· < ·) → k.Pairwise (· < ·) → (∀ x, x ∈ l ↔ x ∈ k) → l = k
  | [], [], _, _, _ => rfl
  | [], b :: k, _, _, h => absurd ((h b).2 (by simp)) (by simp)
  | a :: l, [], _, _, h => absurd ((h a).1 (by simp)) (by simp)
  | a :: l, b :: k, hl, hk, h => by
    rw [List.pairwise_cons] at hl hk
    have hab : a = b := by
      have h1 := (h a).1 (by simp)
      have h2 := (h b).2 (by simp)
      rcases List.mem_cons.1 h1 with e | e
      · exact e
      · rcases List.mem_cons.1 h2 with e2 | e2
        · exact e2.symm
        · have := hk.1 a e
          have := hl.1 b e2
          omega
    subst hab
    have : l = k := inc_ext hl.2 hk.2 (fun x => by
      constructor
      · intro hx
        have h1 := hl.1 x hx
        rcases List.mem_cons.1 ((h x).1 (List.mem_cons_of_mem _ hx)) with e | e
        · omega
        · exact e
      · intro hx
        have h1 := hk.1 x hx
        rcases List.mem_cons.1 ((h x).2 (List.mem_cons_of_mem _ hx)) with e | e
        · omega
        · exact e)
    rw [this]
theorem filter_at {q : Nat → Bool} : ∀ {l : List Nat} {i x : Nat}, l[i]? = some x → q x = true → (l.filter q)[((l.take i).filter q).length]? = some x
  | [], i, x, h, _ => by simp at h
  | a :: l, 0, x, h, hq => by
    simp at h
    subst h
    simp [hq]
  | a :: l, i + 1, x, h, hq => by
    have h' : l[i]? = some x := by simpa using h
    have ih := filter_at h' hq
    rw [List.take_succ_cons]
    by_cases e : q a = true
    · rw [List.filter_cons_of_pos e, List.filter_cons_of_pos e]
      simpa using ih
    · rw [List.filter_cons_of_neg e, List.filter_cons_of_neg e]
      exact ih
theorem filter_take {q : Nat → Bool} {l : List Nat} {i x : Nat} (h : l[i]? = some x) : (l.take (i + 1)).filter q = (l.take i).filter q ++ if q x = true then [x] else [] := by
  rw [List.take_add_one, h, List.filter_append]
  congr 1
  show List.filter q [x] = _
  by_cases e : q x = true
  · rw [if_pos e, List.filter_cons_of_pos e]; rfl
  · rw [if_neg e, List.filter_cons_of_neg e]; rfl
/-- A place's part is no dollar's. -/
def ndB (s : ByteArray) (f : Nat) : Bool := decide ((prt s f).mode ≠ 12)
theorem prt_mode {s : ByteArray} {f : Nat} (hb : born s f = true) (hf : f < s.size) : (prt s f).mode = cnt (md s (eK s f s.size) f) := by
  rw [prt_eq hb hf]
  split
  · rename_i h; exact h.symm
  · rfl
/-- The parts as of whatever numbers. -/
def pvP (s : ByteArray) (i : Nat) : PVal := match (PL s)[i]? with
  | none => ⟨0, 0, 0, 0, false⟩
  | some p => ⟨(p.mode : Int), (p.frm : Int), (p.to : Int), p.up, p.op⟩
/-- A part that is no dollar's is around a place, just if its frame is there. -/
theorem around_iff {s : ByteArray} {f a : Nat} (hb : born s f = true) (hf : f < s.size) (hn : ndB s f = true) (ha : a ≤ s.size) : (f < a ∧ (a < (prt s f).to ∨ ((prt s f).op = true ∧ a = (prt s f).to))) ↔ pres s a f = true := by
  have hm : ¬ cnt (md s (eK s f s.size) f) = 12 := by
    unfold ndB at hn
    rw [decide_eq_true_iff, prt_mode hb hf] at hn
    exact hn
  have he := eK_le s (Nat.le_of_lt hf)
  rw [prt_eq hb hf, if_neg hm]
  show (f < a ∧ (a < (if eK s f s.size = s.size then s.size else eK s f s.size + 1) ∨ (decide (eK s f s.size = s.size) = true ∧ a = (if eK s f s.size = s.size then s.size else eK s f s.size + 1)))) ↔ _
  constructor
  · rintro ⟨h1, h2⟩
    refine eK_pres (k := s.size) h1 ?_
    by_cases e : eK s f s.size = s.size
    · omega
    · rw [if_neg e, decide_eq_false e] at h2
      rcases h2 with h2 | h2
      · omega
      · cases h2.1
  · intro h
    have h1 := pres_lt h
    have h2 := eK_ge ha h
    refine ⟨h1, ?_⟩
    by_cases e : eK s f s.size = s.size
    · rw [if_pos e, decide_eq_true e]
      rcases Nat.lt_or_ge a s.size with g | g
      · exact .inl g
      · exact .inr ⟨rfl, by omega⟩
    · rw [if_neg e]
      exact .inl (by omega)
/-- The numbers of the parts around a place. -/
def arN (s : ByteArray) (a : Nat) : List Nat := sel (aroundB (a : Int)) (pvP s) (PL s).length
theorem arN_mem {s : ByteArray} {a i : Nat} : i ∈ arN s a ↔ ∃ f, (bornL s s.size)[i]? = some f ∧ f < a ∧ (a < (prt s f).to ∨ ((prt s f).op = true ∧ a = (prt s f).to)) := by
  unfold arN sel
  rw [List.mem_filter, List.mem_range]
  constructor
  · rintro ⟨hi, h⟩
    obtain ⟨f, hf, he, _, _, hpf, _, _⟩ := PL_get (List.getElem?_eq_getElem hi)
    refine ⟨f, hf, ?_⟩
    unfold pvP aroundB at h
    rw [List.getElem?_eq_getElem hi] at h
    simp only at h
    rw [he, decide_eq_true_iff, prt_frm] at h
    refine ⟨by omega, ?_⟩
    rcases h.2 with h | ⟨h1, h2⟩
    · exact .inl (by omega)
    · exact .inr ⟨h1, by omega⟩
  · rintro ⟨f, hf, h1, h2⟩
    have hi : i < (bornL s s.size).length := (List.getElem?_eq_some_iff.1 hf).1
    have hl : i < (PL s).length := by unfold PL; rw [List.length_map]; exact hi
    refine ⟨hl, ?_⟩
    have hp : (PL s)[i]? = some (prt s f) := by unfold PL; rw [List.getElem?_map, hf]; rfl
    unfold pvP aroundB
    rw [hp]
    simp only
    rw [decide_eq_true_iff, prt_frm]
    refine ⟨by omega, ?_⟩
    rcases h2 with h | ⟨h1, h2⟩
    · exact .inl (by omega)
    · exact .inr ⟨h1, by omega⟩
/-- Their places, without the dollars'. -/
def arF (s : ByteArray) (l : List Nat) : List Nat := (l.map fun i => (bornL s s.size)[i]?.getD 0).filter (ndB s)
theorem sel_pw (q : PVal → Bool) (pv : Nat → PVal) (k : Nat) : (sel q pv k).Pairwise (· < ·) := List.Pairwise.filter _ List.pairwise_lt_range
/-- The places of the frames behind a beginning. -/
def spl (s : ByteArray) (a : Nat) : List Nat := (nt s a).reverse.map Prod.snd
theorem spl_mem {s : ByteArray} {a f : Nat} : f ∈ spl s a ↔ pres s a f = true := by
  unfold spl
  rw [List.mem_map, pres_iff]
  constructor
  · rintro ⟨x, hx, rfl⟩
    exact ⟨x.1, by simpa using hx⟩
  · rintro ⟨m, hm⟩
    exact ⟨(m, f), by simpa using hm, rfl⟩
theorem stack_parts {s : ByteArray} {a : Nat} (ha : a ≤ s.size) : arF s (arN s a) = (spl s a).filter (ndB s) := by
  refine inc_ext ?_ ?_ ?_
  · unfold arF
    refine List.Pairwise.filter _ ?_
    rw [List.pairwise_map]
    refine (List.Pairwise.and_mem.1 (sel_pw _ _ _)).imp ?_
    rintro i j ⟨hi, hj, hij⟩
    obtain ⟨f, hf, _⟩ := arN_mem.1 hi
    obtain ⟨g, hg, _⟩ := arN_mem.1 hj
    rw [hf, hg]
    show f < g
    obtain ⟨h1, _, hb1⟩ := idx_get hf
    obtain ⟨h2, _, hb2⟩ := idx_get hg
    apply Classical.byContradiction
    intro gg
    rcases Nat.eq_or_lt_of_le (Nat.le_of_not_lt gg) with e | e
    · rw [e] at h2; omega
    · have := idx_mono hb2 e; omega
  · unfold spl
    refine List.Pairwise.filter _ ?_
    rw [List.pairwise_map, List.pairwise_reverse]
    exact nt_pw s a
  · intro x
    rw [List.mem_filter, spl_mem]
    unfold arF
    rw [List.mem_filter, List.mem_map]
    constructor
    · rintro ⟨⟨i, hi, hx⟩, hn⟩
      obtain ⟨f, hf, h⟩ := arN_mem.1 hi
      rw [hf] at hx
      obtain rfl : f = x := hx
      obtain ⟨_, h2, h3⟩ := idx_get hf
      exact ⟨(around_iff h3 h2 hn ha).1 h, hn⟩
    · rintro ⟨hp, hn⟩
      have hb := pres_born hp
      have hlt := pres_lt hp
      have hg := bornL_get s x hb (k := s.size) (by omega)
      exact ⟨⟨idx s x, arN_mem.2 ⟨x, hg, (around_iff hb (by omega) hn ha).2 hp⟩, by rw [hg]; rfl⟩, hn⟩
/-- Is a place's part a dollar's, so far as the first k tell. -/
def dolK (s : ByteArray) (p k : Nat) : Bool := ((PL s).take k).any fun q => (q.frm == p) && (q.mode == 12)
theorem dolK_succ {s : ByteArray} {p k : Nat} {q : Prt} (h : (PL s)[k]? = some q) : dolK s p (k + 1) = (dolK s p k || ((q.frm == p) && (q.mode == 12))) := by
  unfold dolK
  rw [List.take_add_one, h, List.any_append]
  simp
theorem dolK_end {s : ByteArray} {p : Nat} (hb : born s p = true) (hp : p < s.size) : dolK s p (PL s).length = !ndB s p := by
  unfold dolK
  rw [List.take_length]
  unfold ndB
  rw [Bool.eq_iff_iff]
  have e : (!decide ((prt s p).mode ≠ 12)) = true ↔ (prt s p).mode = 12 := by simp
  rw [e, List.any_eq_true]
  constructor
  · rintro ⟨q, hq, h⟩
    obtain ⟨i, hi, rfl⟩ := List.getElem_of_mem hq
    obtain ⟨f, _, he, _, _, hpf, _, _⟩ := PL_get (List.getElem?_eq_getElem hi)
    simp at h
    rw [hpf] at h
    rw [← h.1, ← he]
    exact h.2
  · intro h
    have hg := bornL_get s p hb (k := s.size) hp
    have hpi : (PL s)[idx s p]? = some (prt s p) := by unfold PL; rw [List.getElem?_map, hg]; rfl
    exact ⟨_, List.mem_of_getElem? hpi, by simp [prt_frm, h]⟩
end Go.Proofs.Ythelcmjgikfbjaa

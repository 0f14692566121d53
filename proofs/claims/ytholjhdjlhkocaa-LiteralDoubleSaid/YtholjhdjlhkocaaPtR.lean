/- The plain facts on what a byte makes of the parts found so far. No condition: nothing here speaks of the program. -/
import Derived.Test.YtholjhdjlhkocaaPtQ
namespace Go.Proofs.Ytholjhdjlhkocaa
open Go.RowKit
set_option linter.unusedVariables false

theorem map_set {g : Nat → Prt} {s : ByteArray} {k f : Nat} (hb : born s f = true) (hf : f < k) (v : Prt) : ((bornL s k).map g).set (idx s f) v = (bornL s k).map fun x => if x = f then v else g x := by
  apply List.ext_getElem?
  intro i
  rw [List.getElem?_set]
  by_cases h : idx s f = i
  · subst h
    rw [if_pos rfl, List.getElem?_map, bornL_get s f hb hf]
    have := idx_lt hb hf
    simp [this]
  · rw [if_neg h, List.getElem?_map, List.getElem?_map]
    cases hx : (bornL s k)[i]? with
    | none => rfl
    | some x =>
      have hne : x ≠ f := by
        rintro rfl
        exact h (idx_get hx).1
      simp [hne]
theorem pres_born {s : ByteArray} {k f : Nat} (h : pres s k f = true) : born s f = true := (pres_all h).2 (f + 1) (Nat.lt_succ_self _) (pres_lt h)

/-- The parts, where the last i of the open ones have been shut by the byte at k. -/
def Gi (s : ByteArray) (k i : Nat) (x : Nat) : Prt := if ((nt s k).take i).any (fun y => y.2 == x) = true then closeP s (k + 1) false (prtK s k x) else prtK s k x
def LKi (s : ByteArray) (k i : Nat) : List Prt := (bornL s k).map (Gi s k i)
/-- The numbers of the open ones, the first one first. -/
def OKi (s : ByteArray) (k i : Nat) : List Nat := (((nt s k).drop i).map fun x => idx s x.2).reverse
theorem LKi_zero (s : ByteArray) (k : Nat) : LKi s k 0 = LK s k := by
  unfold LKi LK
  congr 1
theorem LKi_len (s : ByteArray) (k i : Nat) : (LKi s k i).length = idx s k := by unfold LKi idx; simp
theorem LK_len (s : ByteArray) (k : Nat) : (LK s k).length = idx s k := by unfold LK idx; simp
theorem OKi_len (s : ByteArray) (k i : Nat) : (OKi s k i).length = (nt s k).length - i := by unfold OKi; simp
theorem not_taken {s : ByteArray} {k i m f : Nat} {R : List Fr} (h : (nt s k).drop i = (m, f) :: R) : ((nt s k).take i).any (fun y => y.2 == f) = false := by
  have hp := nt_pw s k
  rw [← List.take_append_drop i (nt s k), h] at hp
  rw [Bool.eq_false_iff]
  intro g
  obtain ⟨y, hy, e⟩ := List.any_eq_true.1 g
  have := (List.pairwise_append.1 hp).2.2 y hy (m, f) (by simp)
  simp at e
  simp at this
  omega
theorem drop_pres {s : ByteArray} {k i m f : Nat} {R : List Fr} (h : (nt s k).drop i = (m, f) :: R) : pres s k f = true ∧ md s k f = m ∧ i < (nt s k).length := by
  have e : nt s k = (nt s k).take i ++ (m, f) :: R := by rw [← h, List.take_append_drop]
  refine ⟨pres_at e, md_at e, ?_⟩
  apply Classical.byContradiction
  intro g
  rw [List.drop_eq_nil_of_le (by omega)] at h
  cases h
theorem LKi_get {s : ByteArray} {k i m f : Nat} {R : List Fr} (h : (nt s k).drop i = (m, f) :: R) : (LKi s k i)[idx s f]? = some (prtK s k f) := by
  obtain ⟨hp, _, _⟩ := drop_pres h
  unfold LKi
  rw [List.getElem?_map, bornL_get s f (pres_born hp) (pres_lt hp), Option.map_some]
  unfold Gi
  rw [if_neg (by rw [not_taken h]; simp)]
theorem LKi_succ {s : ByteArray} {k i m f : Nat} {R : List Fr} (h : (nt s k).drop i = (m, f) :: R) : (LKi s k i).set (idx s f) (closeP s (k + 1) false (prtK s k f)) = LKi s k (i + 1) := by
  obtain ⟨hp, _, hi⟩ := drop_pres h
  unfold LKi
  rw [map_set (pres_born hp) (pres_lt hp)]
  apply List.map_congr_left
  intro x _
  have e : (nt s k).take (i + 1) = (nt s k).take i ++ [(m, f)] := by
    rw [List.take_add_one]
    have : (nt s k)[i]? = some (m, f) := by
      have h2 := congrArg (fun l => l[0]?) h
      simpa using h2
    rw [this]
    rfl
  unfold Gi
  rw [e, List.any_append]
  by_cases g : x = f
  · subst g
    simp
  · rw [if_neg g]
    have : ([(m, f)].any fun y => y.2 == x) = false := by simp; omega
    rw [this, Bool.or_false]
theorem OKi_last {s : ByteArray} {k i m f : Nat} {R : List Fr} (h : (nt s k).drop i = (m, f) :: R) : OKi s k i = OKi s k (i + 1) ++ [idx s f] := by
  unfold OKi
  rw [h, List.map_cons, List.reverse_cons]
  congr 2
  have : (nt s k).drop (i + 1) = R := by rw [← List.drop_drop, h]; rfl
  rw [this]
theorem prtK_step {s : ByteArray} {k f : Nat} (h : pres s (k + 1) f = true) (hf : f < k) : prtK s (k + 1) f = { prtK s k f with mode := cnt (md s (k + 1) f) } := by
  rw [prtK_in h, prtK_in (pres_back h hf)]

/-- Behind a byte that opens nothing, none being left: the parts as they are then. -/
def LKm (s : ByteArray) (k j : Nat) : List Prt := (bornL s k).map (prtK s (k + 1))
theorem LK_none {s : ByteArray} {k j : Nat} {T : List Fr} (hS : Sim T ((nt s k).drop j)) (hN : nt s (k + 1) = T ∨ ∃ n, nt s (k + 1) = (n, k) :: T) (hD : (nt s k).drop j = []) : LKi s k j = (bornL s k).map (prtK s (k + 1)) := by
  unfold LKi
  apply List.map_congr_left
  intro x hx
  obtain ⟨hlt, _⟩ := bornL_mem.1 hx
  have h' : pres s (k + 1) x = false := by
    rw [Bool.eq_false_iff]
    intro g
    obtain ⟨m, hm⟩ := (stay hS hN hlt).1 g
    rw [hD] at hm
    cases hm
  unfold Gi
  by_cases h : pres s k x = true
  · have : (nt s k).take j = nt s k := List.take_of_length_le (by
      apply Classical.byContradiction
      intro g
      have := congrArg List.length hD
      simp at this
      omega)
    have h3 : (nt s k).any (fun y => y.2 == x) = true := h
    rw [this, if_pos h3, prtK_shut h h']
  · have h2 : pres s k x = false := by simpa using h
    rw [if_neg, prtK_same hlt h2]
    intro g
    obtain ⟨y, hy, e⟩ := List.any_eq_true.1 g
    exact h (List.any_eq_true.2 ⟨y, List.mem_of_mem_take hy, e⟩)
theorem LK_some {s : ByteArray} {k j m f : Nat} {R T : List Fr} (hS : Sim T ((nt s k).drop j)) (hN : nt s (k + 1) = T ∨ ∃ n, nt s (k + 1) = (n, k) :: T) (hD : (nt s k).drop j = (m, f) :: R) :
    (LKi s k j).set (idx s f) { prtK s k f with mode := cnt (md s (k + 1) f) } = (bornL s k).map (prtK s (k + 1)) := by
  obtain ⟨hp, hm, hj⟩ := drop_pres hD
  unfold LKi
  rw [map_set (pres_born hp) (pres_lt hp)]
  apply List.map_congr_left
  intro x hx
  obtain ⟨hlt, _⟩ := bornL_mem.1 hx
  by_cases g : x = f
  · subst g
    rw [if_pos rfl, prtK_step ((stay hS hN hlt).2 ⟨m, by rw [hD]; simp⟩) hlt]
  rw [if_neg g]
  unfold Gi
  by_cases ht : ((nt s k).take j).any (fun y => y.2 == x) = true
  · rw [if_pos ht]
    obtain ⟨y, hy, e⟩ := List.any_eq_true.1 ht
    have h : pres s k x = true := List.any_eq_true.2 ⟨y, List.mem_of_mem_take hy, e⟩
    have h' : pres s (k + 1) x = false := by
      rw [Bool.eq_false_iff]
      intro g2
      obtain ⟨n, hn⟩ := (stay hS hN hlt).1 g2
      have hpw := nt_pw s k
      rw [← List.take_append_drop j (nt s k)] at hpw
      have := (List.pairwise_append.1 hpw).2.2 y hy _ hn
      simp at e this
      omega
    rw [prtK_shut h h']
  · rw [if_neg ht]
    by_cases h : pres s k x = true
    · -- it stands below the last one that stayed: nothing of it has turned
      have hR : ∃ n, (n, x) ∈ R := by
        obtain ⟨n, hn⟩ := pres_iff.1 h
        rw [← List.take_append_drop j (nt s k), hD] at hn
        rcases List.mem_append.1 hn with hn | hn
        · exact absurd (List.any_eq_true.2 ⟨_, hn, by simp⟩) ht
        · rcases List.mem_cons.1 hn with hn | hn
          · simp at hn; exact absurd hn.2 g
          · exact ⟨n, hn⟩
      obtain ⟨n, hn⟩ := hR
      obtain ⟨A, B, rfl⟩ := List.append_of_mem hn
      have h1 : md s k x = n := md_at (A := (nt s k).take j ++ (m, f) :: A) (R := B) (by rw [List.append_assoc, List.cons_append, ← hD, List.take_append_drop])
      have hT : T.tail = A ++ (n, x) :: B := by rw [(sim_places hS).2, hD]; rfl
      have hT2 : ∃ a, T = a :: (A ++ (n, x) :: B) := by
        cases T with
        | nil => simp at hT
        | cons a T => exact ⟨a, by rw [← hT]; rfl⟩
      obtain ⟨a, rfl⟩ := hT2
      have h2 : md s (k + 1) x = n := by
        rcases hN with hN | ⟨n2, hN⟩
        · exact md_at (A := a :: A) (R := B) hN
        · exact md_at (A := (n2, k) :: a :: A) (R := B) hN
      rw [prtK_step ((stay hS hN hlt).2 ⟨n, by rw [hD]; simp⟩) hlt, h2, ← h1, prtK_in h]
    · have h2 : pres s k x = false := by simpa using h
      rw [prtK_same hlt h2]
/-- With the part that opens. -/
theorem LK_next (s : ByteArray) (k : Nat) : LK s (k + 1) = (bornL s k).map (prtK s (k + 1)) ++ if born s k = true then [prtK s (k + 1) k] else [] := by
  unfold LK
  rw [bornL_succ, List.map_append]
  congr 1
  split <;> rfl
theorem not_born {s : ByteArray} {k : Nat} {T : List Fr} {j : Nat} (hS : Sim T ((nt s k).drop j)) (hN : nt s (k + 1) = T) : born s k = false := by
  unfold born
  rw [Bool.eq_false_iff]
  intro g
  obtain ⟨m, hm⟩ := pres_iff.1 g
  rw [hN] at hm
  obtain ⟨m2, hm2⟩ := sim_mem hS ⟨m, hm⟩
  have := nt_lt s k (List.mem_of_mem_drop hm2)
  simp at this
theorem is_born {s : ByteArray} {k n : Nat} {T : List Fr} (hN : nt s (k + 1) = (n, k) :: T) (ho : opensM n) : born s k = true ∧ prtK s (k + 1) k = ⟨n, k, 0, upI s k, false⟩ ∧ blw s k = T := by
  have hp : pres s (k + 1) k = true := pres_at (A := []) hN
  have hm : md s (k + 1) k = n := md_at (A := []) hN
  refine ⟨hp, ?_, ?_⟩
  · rw [prtK_in hp, hm, cnt_opens ho]
  · unfold blw
    rw [hN]
    rfl
theorem OK_same {s : ByteArray} {k j : Nat} {T : List Fr} (hS : Sim T ((nt s k).drop j)) : (T.map fun x => idx s x.2).reverse = OKi s k j := by
  unfold OKi
  congr 1
  have := (sim_places hS).1
  have h2 := congrArg (List.map (idx s)) this
  rw [List.map_map, List.map_map] at h2
  exact h2
end Go.Proofs.Ytholjhdjlhkocaa

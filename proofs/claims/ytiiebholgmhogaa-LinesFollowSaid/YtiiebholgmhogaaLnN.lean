/- What slices.Replace at a row of ints returns where something stands behind what is taken out, and there is room. Condition: at most a million ints; what comes lies in another block. -/
import Derived.Test.YtiiebholgmhogaaLnM
namespace Go.Proofs.Ytiiebholgmhogaa
open Go.RowKit Go.Shelf
set_option linter.unusedVariables false

section
variable (w : World) (g cap n i j m : Nat) (cur : Array Value) (xs ys : List Value) (a : Option Addr) (c : Nat)
set_option maxRecDepth 100000 in
set_option maxHeartbeats 2000000 in
theorem rep_mid_fits (hB : Blk w g cur 3) (hcs : cur.size = cap) (hnc : n ≤ cap) (hcm : cap ≤ maxLen) (htk : cur.toList.take n = xs) (hxl : xs.length = n) (h1 : ∀ v ∈ xs, v.oneCell' = true) (hv : Vs w (.slice a m c) m ys) (hap : ∀ k, (Value.slice a m c).ownBlock = some k → k ≠ g)
    (hij : i < j) (hjn : j < n) (hroom : i + m ≤ j) (hn : n ≤ 1000000) (hm : m ≤ 1000000) :
    Calls Try.prog 27 #[.slice (some ⟨g, 0, none⟩) n cap, .int .i64 i, .int .i64 j, .slice a m c] w (Rep w (.slice (some ⟨g, 0, none⟩) n cap) (i + m + (n - j)) (xs.take i ++ ys ++ xs.drop j)) := by
  have hyl := hv.len
  have hmx : cap ≤ 9223372036854775807 := by unfold maxLen at hcm; omega
  have e1 : (i : Int) ≤ j := by omega
  have e2 : ¬ ((i : Int) = j) := by omega
  have e3 : ¬ (cap = i) := by omega
  have e4 : (j : Int) ≤ cap := by omega
  have e5 : ¬ ((j : Int) = n) := by omega
  have e6 : ¬ (cap = j) := by omega
  have e7 : (j : Int) ≤ n := by omega
  have e8 : ¬ (cap = i + m) := by omega
  have e9 : (i : Int) + m ≤ j := by omega
  obtain ⟨d, hnd⟩ : ∃ d, n - j = d := ⟨_, rfl⟩
  rw [hnd]
  have hd0 : 0 < d := by omega
  have htot : i + m + d ≤ n := by omega
  have q2 : ¬ ((cap : Int) < (i : Int) + m + d) := by omega
  have q3 : (i : Int) + m + d ≤ cap := by omega
  have q4 : (0 : Int) ≤ (i : Int) + m + d := by omega
  have q5 : ((i : Int) + (m : Int) + (d : Int)).toNat = i + m + d := by omega
  have hT : (xs.take i ++ ys ++ xs.drop j).length = i + m + d := by simp; omega
  have hdl : (xs.drop j).length = d := by simp; omega
  have hgt := fun k => target_get (xs := xs) (i := i) (j := j) (by omega) hyl k
  obtain ⟨TT, hTT⟩ : ∃ TT, xs.take i ++ ys ++ xs.drop j = TT := ⟨_, rfl⟩
  rw [hTT] at hT hgt ⊢
  clear hTT
  have w1 : IntKind.i64.wrap ((i : Int) + (m : Int)) = (i : Int) + (m : Int) := by rw [IntWalk.i64_in] <;> omega
  have w2 : ((i : Int) + (m : Int)).toNat = i + m := by omega
  have w3 : (0 : Int) ≤ (i : Int) + (m : Int) := by omega
  have w4 : (i : Int) + (m : Int) ≤ (i : Int) + (m : Int) + (d : Int) := by omega
  have w5 : (i : Int) ≤ (i : Int) + (m : Int) + (d : Int) := by omega
  go_enter Try.func27, Try.ntmps27
  go_wp2
  go_quiet (fail)
  obtain ⟨W, hW⟩ : ∃ W, W = w.drewN nq := ⟨_, rfl⟩
  have hBW : Blk W g cur 3 := hW ▸ hB.drewN nq
  have hFW : Frm (fun k => (Value.slice (some ⟨g, 0, none⟩) n cap).ownBlock = some k) w W := hW ▸ (Frm.refl _ w).drewN nq
  rw [← hW]
  clear hW
  have hvW : Vs W (.slice a m c) m ys := hv.frm hFW (fun k hk h => hap k hk (by simpa [Value.ownBlock] using h.symm))
  have hcp1 := fun ty dc => run_copy_vs (ty := ty) (dCap := dc) (dLen := i + m + d - i) (o := i) hvW (by omega) hBW (by omega)
  have hB1 := hBW.spliced (o := i) (l := ys) (by omega)
  have hF1 := hFW.setCells (b := g) ys i (.inl rfl)
  obtain ⟨W1, hW1⟩ : ∃ W1, W1 = W.setCells g i ys := ⟨_, rfl⟩
  rw [← hW1] at hcp1 hB1 hF1
  have hsrc : ((splice cur.toList i ys).toArray.toList.drop j).take d = xs.drop j := by
    rw [List.take_drop]
    apply List.ext_getElem?
    intro k
    rw [List.getElem?_drop, List.getElem?_drop]
    by_cases ck : k < d
    · rw [List.getElem?_take_of_lt (by omega), splice_get (by simp; omega), if_neg (by omega), if_neg (by omega), get_of_take htk (by omega)]
    · rw [List.getElem?_eq_none (by simp [splice]; omega), List.getElem?_eq_none (by omega)]
  have hcp2 := fun ty dc sc => run_copy_in (ty := ty) (o := i + m) (dLen := d) (dCap := dc) (p := j) (sLen := d) (sCap := sc) hB1.drew (xs.drop j) (by omega) (by simp [splice]; omega) hsrc (by simp [splice]; omega) (fun v hv => h1 v (List.mem_of_mem_drop hv))
  have hB2 := hB1.drew.spliced (o := i + m) (l := xs.drop j) (by simp [splice]; omega)
  have hF2 := hF1.drew.setCells (b := g) (xs.drop j) (i + m) (.inl rfl)
  obtain ⟨W2, hW2⟩ : ∃ W2, W2 = W1.drew.setCells g (i + m) (xs.drop j) := ⟨_, rfl⟩
  rw [← hW2] at hcp2 hB2 hF2
  have hget : ∀ k, k < i + m + d → (splice (splice cur.toList i ys) (i + m) (xs.drop j))[k]? = TT[k]? := fun k hk => by
    rw [hgt, splice_get (by rw [splice_len (by simp; omega)]; simp; omega), splice_get (by simp; omega)]
    by_cases c1 : k < i
    · rw [if_pos (by omega), if_pos c1, if_pos c1, get_of_take htk (by omega)]
    · by_cases c2 : k < i + m
      · rw [if_pos c2, if_neg c1, if_pos (by omega), if_neg c1, if_pos c2]
      · rw [if_neg c2, if_pos (by rw [hdl]; omega), if_neg c1, if_neg c2, List.getElem?_drop]
  clear hW1 hW2 hsrc hgt
  by_cases hlt : i + m + d < n
  · have e10 : ¬ (cap = i + m + d) := by omega
    have e11 : (i : Int) + m + d ≤ n := by omega
    have hcl := fun ty => run_clear_in (ty := ty) (o := i + m + d) (n := n - (i + m + d)) (c := cap - (i + m + d)) hB2 (by omega) (by simp [splice]; omega)
    have hB3 := hB2.spliced (o := i + m + d) (l := List.replicate (n - (i + m + d)) (.int .i64 0)) (by simp [splice]; omega)
    have hF3 := hF2.setCells (b := g) (List.replicate (n - (i + m + d)) (.int .i64 0)) (i + m + d) (.inl rfl)
    obtain ⟨W3, hW3⟩ : ∃ W3, W3 = W2.setCells g (i + m + d) (List.replicate (n - (i + m + d)) (.int .i64 0)) := ⟨_, rfl⟩
    rw [← hW3] at hcl hB3 hF3
    clear hW3
    go_wp2
    go_region_law (refine step_copy_runI rfl _ _ 47 47 rfl (.slice (some ⟨g, i + m, none⟩) d (cap - (i + m))) (.slice (some ⟨g, j, none⟩) d (cap - j)) (by simp [Act.eval, Act.put] <;> omega) (by simp [Act.eval, Act.put] <;> omega) (hcp2 3 (cap - (i + m)) (cap - j)) ?_)
    all_goals
      go_wp2
      go_ret
      refine ⟨_, rfl, owns_of_blk hB3 (by simp [splice]; omega) (by omega) hcm (take_of_get hT fun k hk => ?_), fun k hk => .inl (by simpa [Value.ownBlock] using hk), hF3⟩
      show (splice (splice (splice cur.toList i ys) (i + m) (xs.drop j)) (i + m + d) (List.replicate (n - (i + m + d)) (.int .i64 0)))[k]? = _
      rw [splice_get (by rw [splice_len (by rw [splice_len (by simp; omega)]; simp; omega), splice_len (by simp; omega)]; simp; omega), if_pos hk]
      exact hget k hk
  · have e10 : i + m + d = n := by omega
    have e11 : (i : Int) + m + d = n := by omega
    have HE := Lib.hid e10
    have HE2 := Lib.hid e11
    have e12 : (i : Int) + m + d ≤ n := by omega
    clear e10 e11
    have hclz : ∀ (ty : TypeId) (a' : Option Addr) (c' : Nat), (Builtin.clear_ #[47] ty #[.slice a' (n - (i + m + d)) c']).run Try.prog W2 = .ok (.tuple #[]) W2 := fun ty a' c' => by rw [show n - (i + m + d) = 0 from by have := HE.out; omega]; exact run_clear_none
    have hfin : Rep w (.slice (some ⟨g, 0, none⟩) n cap) (i + m + d) TT (.returned (.slice (some ⟨g, 0, none⟩) (i + m + d) cap)) W2 :=
      ⟨_, rfl, owns_of_blk hB2 (by simp [splice]; omega) (by omega) hcm (take_of_get hT fun k hk => hget k hk), fun k hk => .inl (by simpa [Value.ownBlock] using hk), hF2⟩
    by_cases hcn : cap = i + m + d
    · rw [hcn] at hfin
      go_wp2
      go_region_law (refine step_copy_runI rfl _ _ 47 47 rfl (.slice (some ⟨g, i + m, none⟩) d (cap - (i + m))) (.slice (some ⟨g, j, none⟩) d (cap - j)) (by simp [Act.eval, Act.put] <;> omega) (by simp [Act.eval, Act.put] <;> omega) (hcp2 3 (cap - (i + m)) (cap - j)) ?_)
      all_goals
        go_wp2
        go_ret
        exact hfin
    · go_wp2
      go_region_law (refine step_copy_runI rfl _ _ 47 47 rfl (.slice (some ⟨g, i + m, none⟩) d (cap - (i + m))) (.slice (some ⟨g, j, none⟩) d (cap - j)) (by simp [Act.eval, Act.put] <;> omega) (by simp [Act.eval, Act.put] <;> omega) (hcp2 3 (cap - (i + m)) (cap - j)) ?_)
      all_goals
        go_wp2
        go_ret
        exact hfin
end
end Go.Proofs.Ytiiebholgmhogaa

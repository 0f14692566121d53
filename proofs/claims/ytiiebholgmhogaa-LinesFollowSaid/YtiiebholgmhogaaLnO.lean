/- What slices.Replace at a row of ints returns where something stands behind what is taken out, what comes is longer, and there is room; and all ways of slices.Replace in one law. Condition: at most a million ints; what comes lies in another block. -/
import Derived.Test.YtiiebholgmhogaaLnN
namespace Go.Proofs.Ytiiebholgmhogaa
open Go.RowKit Go.Shelf
set_option linter.unusedVariables false

section
variable (w : World) (g cap n i j m : Nat) (cur : Array Value) (xs ys : List Value) (a : Option Addr) (c : Nat)
set_option maxRecDepth 100000 in
set_option maxHeartbeats 2000000 in
theorem rep_mid_over (hB : Blk w g cur 3) (hcs : cur.size = cap) (hnc : n ≤ cap) (hcm : cap ≤ maxLen) (htk : cur.toList.take n = xs) (hxl : xs.length = n) (h1 : ∀ v ∈ xs, v.oneCell' = true) (hv : Vs w (.slice a m c) m ys) (hap : ∀ k, (Value.slice a m c).ownBlock = some k → k ≠ g)
    (hij : i < j) (hjn : j < n) (hov : j < i + m) (hroom : i + m + (n - j) ≤ cap) (hn : n ≤ 1000000) (hm : m ≤ 1000000) :
    Calls Try.prog 27 #[.slice (some ⟨g, 0, none⟩) n cap, .int .i64 i, .int .i64 j, .slice a m c] w (Rep w (.slice (some ⟨g, 0, none⟩) n cap) (i + m + (n - j)) (xs.take i ++ ys ++ xs.drop j)) := by
  have hyl := hv.len
  have hmx : cap ≤ 9223372036854775807 := by unfold maxLen at hcm; omega
  have e1 : (i : Int) ≤ j := by omega
  have e2 : ¬ ((i : Int) = j) := by omega
  have e3 : ¬ (cap = i) := by omega
  have e4 : (j : Int) ≤ cap := by omega
  have e5 : ¬ ((j : Int) = n) := by omega
  have e6 : ¬ (cap = j) := by omega
  have e7 : (j : Int) ≤ n := by omega
  have e8 : ¬ (cap = i + m) := by omega
  have e9 : ¬ ((i : Int) + m ≤ j) := by omega
  obtain ⟨d, hnd⟩ : ∃ d, n - j = d := ⟨_, rfl⟩
  rw [hnd] at hroom ⊢
  have hd0 : 0 < d := by omega
  have q2 : ¬ ((cap : Int) < (i : Int) + m + d) := by omega
  have q3 : (i : Int) + m + d ≤ cap := by omega
  have q4 : (0 : Int) ≤ (i : Int) + m + d := by omega
  have q5 : ((i : Int) + (m : Int) + (d : Int)).toNat = i + m + d := by omega
  have hT : (xs.take i ++ ys ++ xs.drop j).length = i + m + d := by simp; omega
  have hdl : (xs.drop j).length = d := by simp; omega
  have hgt := fun k => target_get (xs := xs) (i := i) (j := j) (by omega) hyl k
  obtain ⟨TT, hTT⟩ : ∃ TT, xs.take i ++ ys ++ xs.drop j = TT := ⟨_, rfl⟩
  rw [hTT] at hT hgt ⊢
  clear hTT
  have w1 : IntKind.i64.wrap ((i : Int) + (m : Int)) = (i : Int) + (m : Int) := by rw [IntWalk.i64_in] <;> omega
  have w2 : ((i : Int) + (m : Int)).toNat = i + m := by omega
  have w3 : (0 : Int) ≤ (i : Int) + (m : Int) := by omega
  have w4 : (i : Int) + (m : Int) ≤ (i : Int) + (m : Int) + (d : Int) := by omega
  have w5 : (i : Int) ≤ (i : Int) + (m : Int) + (d : Int) := by omega
  go_enter Try.func27, Try.ntmps27
  go_wp2
  go_quiet (fail)
  obtain ⟨W, hW⟩ : ∃ W, W = w.drewN nq := ⟨_, rfl⟩
  have hBW : Blk W g cur 3 := hW ▸ hB.drewN nq
  have hFW : Frm (fun k => (Value.slice (some ⟨g, 0, none⟩) n cap).ownBlock = some k) w W := hW ▸ (Frm.refl _ w).drewN nq
  rw [← hW]
  clear hW
  have hvW : Vs W (.slice a m c) m ys := hv.frm hFW (fun k hk h => hap k hk (by simpa [Value.ownBlock] using h.symm))
  obtain ⟨vb, rfl⟩ : ∃ vb, a = some ⟨vb, 0, none⟩ := by
    rcases hvW.owns.2 with ⟨_, h0⟩ | ⟨vb, vc, vcur, h, _⟩
    · omega
    · cases h; exact ⟨_, rfl⟩
  obtain ⟨vcur, hvB, hvz⟩ : ∃ vcur, Blk W vb vcur 3 ∧ vcur.size ≠ 0 := by
    rcases hvW.owns.2 with ⟨h, _⟩ | ⟨vb', vc, vcur, h, _, h3, h4, _, h5, _⟩
    · cases h
    · cases h
      exact ⟨vcur, h3, by omega⟩
  have hne : g ≠ vb := fun h => hap vb rfl h.symm
  have hovl : ∀ lb cb, (callFunc 35 #[.slice (some ⟨g, i + m, none⟩) lb cb, .slice (some ⟨vb, 0, none⟩) m c]).run Try.prog W = .ok (.value (.bool false)) W := fun lb cb => by
    rw [run_callFunc_extern Try.func35 (by kernel_rfl) (by kernel_rfl) (by kernel_rfl) (e := Extern.SlicesOverlaps.overlaps #[47, 47] #[4]) (by kernel_rfl),
      Lib.run_overlaps_apart W 47 4 3 Try.underlying47 1 Try.sizeOf3 ⟨g, i + m, none⟩ ⟨vb, 0, none⟩ lb cb m c hne _ _ _ _ hBW.shape hvB.shape hvz (hBW.frozen _) (hBW.frozen _)]
    rfl
  have hcp1 := fun ty dc sc => run_copy_in (ty := ty) (o := i + m) (dLen := d) (dCap := dc) (p := j) (sLen := d) (sCap := sc) hBW.drew (xs.drop j) (by omega) (by omega) (drop_take htk hnd (by simp; omega)) (by omega) (fun v hv => h1 v (List.mem_of_mem_drop hv))
  have hB1 := hBW.drew.spliced (o := i + m) (l := xs.drop j) (by omega)
  have hF1 := hFW.drew.setCells (b := g) (xs.drop j) (i + m) (.inl rfl)
  obtain ⟨W1, hW1⟩ : ∃ W1, W1 = W.drew.setCells g (i + m) (xs.drop j) := ⟨_, rfl⟩
  rw [← hW1] at hcp1 hB1 hF1
  have hv1 : Vs W1 (.slice (some ⟨vb, 0, none⟩) m c) m ys := hv.frm hF1 (fun k hk h => hap k hk (by simpa [Value.ownBlock] using h.symm))
  have hcp2 := fun ty dc => run_copy_vs (ty := ty) (dCap := dc) (dLen := i + m + d - i) (o := i) hv1 (by omega) hB1 (by simp [splice]; omega)
  have hB2 := hB1.spliced (o := i) (l := ys) (by simp [splice]; omega)
  have hF2 := hF1.setCells (b := g) ys i (.inl rfl)
  obtain ⟨W2, hW2⟩ : ∃ W2, W2 = W1.setCells g i ys := ⟨_, rfl⟩
  rw [← hW2] at hcp2 hB2 hF2
  have hget : ∀ k, k < i + m + d → (splice (splice cur.toList (i + m) (xs.drop j)) i ys)[k]? = TT[k]? := fun k hk => by
    rw [hgt, splice_get (by rw [splice_len (by simp; omega)]; simp; omega), splice_get (by simp; omega)]
    by_cases c1 : k < i
    · rw [if_pos (by omega), if_pos (by omega), if_pos c1, get_of_take htk (by omega)]
    · by_cases c2 : k < i + m
      · rw [if_neg c1, if_pos (by omega), if_neg c1, if_pos c2]
      · rw [if_neg c1, if_neg (by omega), if_neg c2, if_pos (by rw [hdl]; omega), if_neg c1, if_neg c2, List.getElem?_drop]
  clear hW1 hW2 hgt
  go_wp2_with (simp only [hovl])
  go_region_law (refine step_copy_runI rfl _ _ 47 47 rfl (.slice (some ⟨g, i + m, none⟩) d (cap - (i + m))) (.slice (some ⟨g, j, none⟩) d (cap - j)) (by simp [Act.eval, Act.put] <;> omega) (by simp [Act.eval, Act.put] <;> omega) (hcp1 3 (cap - (i + m)) (cap - j)) ?_)
  all_goals
    go_wp2
    go_ret
    exact ⟨_, rfl, owns_of_blk hB2 (by simp [splice]; omega) (by omega) hcm (take_of_get hT fun k hk => hget k hk), fun k hk => .inl (by simpa [Value.ownBlock] using hk), hF2⟩
end
end Go.Proofs.Ytiiebholgmhogaa

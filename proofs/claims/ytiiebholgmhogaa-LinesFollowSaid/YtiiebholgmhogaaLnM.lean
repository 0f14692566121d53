/- What slices.Replace at a row of ints returns where something stands behind what is taken out. Condition: at most a million ints; what comes lies in another block. -/
import Derived.Test.YtiiebholgmhogaaLnL
namespace Go.Proofs.Ytiiebholgmhogaa
open Go.RowKit Go.Shelf
set_option linter.unusedVariables false

/-- copy from one block into another one. -/
theorem run_copy_bb {w : World} {ty : TypeId} {b b' o dLen dCap p sLen sCap : Nat} {cs cs' : Array Value} (hb : Blk w b cs 3) (hb' : Blk w b' cs' 3) (xs : List Value) (hm : sLen ≤ dLen) (hs : o + sLen ≤ cs.size) (hx : (cs'.toList.drop p).take sLen = xs) (hp : p + sLen ≤ cs'.size) (h1 : ∀ v ∈ xs, v.oneCell' = true) :
    (Builtin.copy_ #[47, 47] ty #[.slice (some ⟨b, o, none⟩) dLen dCap, .slice (some ⟨b', p, none⟩) sLen sCap]).run Try.prog w = .ok (goInt sLen) (w.setCells b o xs) := by
  have hl : xs.length = sLen := by rw [← hx]; simp; omega
  have := run_copy_cells (P := Try.prog) w 47 47 ty 3 b o dLen dCap ⟨b', p, none⟩ sLen sCap xs Try.underlying47 size3 (by rw [hl]; exact (Nat.min_eq_left hm).symm)
    (fun j u hj => by
      have hjl : j < sLen := by have := (List.getElem?_eq_some_iff.1 hj).1; omega
      rw [Addr.add_lit, hb'.cell]
      rw [← hx, List.getElem?_take_of_lt hjl, List.getElem?_drop] at hj
      rw [← hj]
      simp)
    (fun j hj => by rw [hb.cell, Array.getElem?_eq_getElem (by omega)]; rfl) (fun j hj => hb.frozen _) h1
  rw [hl] at this
  exact this
theorem drop_take {L xs : List Value} {n j d : Nat} (h : L.take n = xs) (hd : n - j = d) (hn : n ≤ L.length) : (L.drop j).take d = xs.drop j := by
  rw [← h, List.drop_take, hd]
section
variable (w : World) (g cap n i j m : Nat) (cur : Array Value) (xs ys : List Value) (a : Option Addr) (c : Nat)
set_option maxRecDepth 100000 in
set_option maxHeartbeats 2000000 in
theorem rep_mid_grow (hB : Blk w g cur 3) (hcs : cur.size = cap) (hnc : n ≤ cap) (hcm : cap ≤ maxLen) (htk : cur.toList.take n = xs) (hxl : xs.length = n) (h1 : ∀ v ∈ xs, v.oneCell' = true) (hv : Vs w (.slice a m c) m ys) (hap : ∀ k, (Value.slice a m c).ownBlock = some k → k ≠ g)
    (hij : i < j) (hjn : j < n) (hroom : cap < i + m + (n - j)) (hn : n ≤ 1000000) (hm : m ≤ 1000000) :
    Calls Try.prog 27 #[.slice (some ⟨g, 0, none⟩) n cap, .int .i64 i, .int .i64 j, .slice a m c] w (Rep w (.slice (some ⟨g, 0, none⟩) n cap) (i + m + (n - j)) (xs.take i ++ ys ++ xs.drop j)) := by
  have hyl := hv.len
  have hmx : cap ≤ 9223372036854775807 := by unfold maxLen at hcm; omega
  have e1 : (i : Int) ≤ j := by omega
  have e2 : ¬ ((i : Int) = j) := by omega
  have e3 : ¬ (cap = i) := by omega
  have e4 : (j : Int) ≤ cap := by omega
  have e5 : ¬ ((j : Int) = n) := by omega
  have e6 : ¬ (cap = j) := by omega
  have e7 : (j : Int) ≤ n := by omega
  obtain ⟨d, hnd⟩ : ∃ d, n - j = d := ⟨_, rfl⟩
  rw [hnd] at hroom ⊢
  have hd0 : 0 < d := by omega
  have q1 : IntKind.i64.wrap ((i : Int) + m + d - i) = ((m + d : Nat) : Int) := by rw [IntWalk.i64_in] <;> omega
  have q2 : (cap : Int) < (i : Int) + m + d := by omega
  have hT : (xs.take i ++ ys ++ xs.drop j).length = i + m + d := by simp; omega
  have hdl : (xs.drop j).length = d := by simp; omega
  have hgt := fun k => target_get (xs := xs) (i := i) (j := j) (by omega) hyl k
  obtain ⟨TT, hTT⟩ : ∃ TT, xs.take i ++ ys ++ xs.drop j = TT := ⟨_, rfl⟩
  rw [hTT] at hT hgt ⊢
  clear hTT
  go_enter Try.func27, Try.ntmps27
  go_wp2
  go_quiet (fail)
  obtain ⟨W, hW⟩ : ∃ W, W = w.drewN nq := ⟨_, rfl⟩
  have hBW : Blk W g cur 3 := hW ▸ hB.drewN nq
  have hFW : Frm (fun k => (Value.slice (some ⟨g, 0, none⟩) n cap).ownBlock = some k) w W := hW ▸ (Frm.refl _ w).drewN nq
  have hsz : W.heap.size = w.heap.size := by rw [hW]; rfl
  rw [← hW]
  clear hW
  have hvW : Vs W (.slice a m c) m ys := hv.frm hFW (fun k hk h => hap k hk (by simpa [Value.ownBlock] using h.symm))
  have hgl := hBW.lt
  obtain ⟨i0, hi0, hz0, hzs, hzb⟩ := info_parts info3
  have hold : (Builtin.firstCells i0.size i (.slice (some ⟨g, 0, none⟩) i cap)).run Try.prog W.drew = .ok (xs.take i).toArray W.drew := by
    rw [hzs]
    refine run_firstCells_some W.drew 1 i ⟨g, 0, none⟩ i cap (xs.take i) (by simp; omega) (fun k v hj => ?_)
    have hji : k < i := by have := (List.getElem?_eq_some_iff.1 hj).1; simp at this; omega
    rw [Addr.add_lit, hBW.drew.cell, Nat.zero_add, ← Array.getElem?_toList, get_of_take htk (by omega)]
    rwa [List.getElem?_take_of_lt hji] at hj
  have hrz : ∀ ty, (Builtin.append_ #[47, 3] ty #[.slice (some ⟨g, 0, none⟩) i cap, .int .i64 ((m + d : Nat) : Int)]).run Try.prog W = _ := fun ty =>
    Lib.run_append_grow_zeros W 47 3 ty 3 i0 _ .i64 .i64 Try.underlying47 Try.underlying3 hi0 hz0 (some ⟨g, 0, none⟩) i cap (xs.take i) hold (m + d) (by omega) (by omega) (by omega) (by omega) (by rw [hzb]; omega) (by rw [hzb]; exact growslice_fits (by omega) (by omega))
  have hg1 := grownCap_ge W (i + (m + d)) cap 3
  have hg2 := grownCap_le_maxLen W (i + (m + d)) cap 3 (by unfold maxLen; omega)
  obtain ⟨G, hG⟩ : ∃ G, grownCap W (i + (m + d)) cap 3 = G := ⟨_, rfl⟩
  rw [hG] at hrz hg1 hg2
  obtain ⟨Z, hZ⟩ : ∃ Z : Array Value, Z = (xs.take i).toArray ++ Builtin.zeroCells (Value.int .i64 0).cells (m + d) ++ Builtin.zeroCells (Value.int .i64 0).cells (G - (i + (m + d))) := ⟨_, rfl⟩
  have hZs : Z.size = G := by
    rw [hZ, Array.size_append, Array.size_append, zc_size, zc_size]
    simp
    omega
  have hZt : ∀ k, k < i → Z.toList[k]? = xs[k]? := fun k hk => by
    rw [hZ, Array.toList_append, Array.toList_append, List.getElem?_append_left (by simp; omega), List.getElem?_append_left (by simp; omega)]
    simp [hk]
  rw [← hZ] at hrz
  have hB0 : Blk (W.drew.alloc (.cells Z 3)) W.heap.size Z 3 := Blk.new W.drew Z 3
  obtain ⟨W1, hW1⟩ : ∃ W1, W1 = W.drew.alloc (.cells Z 3) := ⟨_, rfl⟩
  have hFW1 : Frm (fun _ => False) W W1 := hW1 ▸ (Frm.refl _ W).drew.alloc _
  rw [← hW1] at hrz hB0
  have hN : W.heap.size ≠ g := by omega
  obtain ⟨N, hNN⟩ : ∃ N, W.heap.size = N := ⟨_, rfl⟩
  rw [hNN] at hrz hB0 hN
  have HNN := Lib.hid hNN
  have hv1 : Vs W1 (.slice a m c) m ys := hvW.frm hFW1 (fun _ _ h => h)
  have hcp1 := fun ty dc => run_copy_vs (ty := ty) (dCap := dc) (dLen := m + d) (o := i) hv1 (by omega) hB0 (by omega)
  have hB1 := hB0.spliced (o := i) (l := ys) (by omega)
  have hFW2 : Frm (fun k => W.heap.size ≤ k) W (W1.setCells N i ys) := (hFW1.mono (fun _ _ h => h.elim)).setCells ys i (.inl (by show W.heap.size ≤ N; rw [hNN]; exact Nat.le_refl _))
  obtain ⟨W2, hW2⟩ : ∃ W2, W2 = W1.setCells N i ys := ⟨_, rfl⟩
  rw [← hW2] at hcp1 hB1 hFW2
  have hBg : Blk W2.drew g cur 3 := (hBW.frm hFW2 (by show ¬ W.heap.size ≤ g; omega)).drew
  have hcp2 := fun ty dc sc => run_copy_bb (ty := ty) (o := i + m) (dLen := d) (dCap := dc) (p := j) (sLen := d) (sCap := sc) hB1.drew hBg (xs.drop j) (by omega) (by simp [splice]; omega) (drop_take htk hnd (by simp; omega)) (by omega) (fun v hv => h1 v (List.mem_of_mem_drop hv))
  have hB2 := hB1.drew.spliced (o := i + m) (l := xs.drop j) (by simp [splice]; omega)
  have hFW3 : Frm (fun k => W.heap.size ≤ k) W (W2.drew.setCells N (i + m) (xs.drop j)) := hFW2.drew.setCells (xs.drop j) (i + m) (.inl (by show W.heap.size ≤ N; rw [hNN]; exact Nat.le_refl _))
  obtain ⟨W3, hW3⟩ : ∃ W3, W3 = W2.drew.setCells N (i + m) (xs.drop j) := ⟨_, rfl⟩
  rw [← hW3] at hcp2 hB2 hFW3
  have z1 : ¬ (G = i) := by omega
  have z2 : ¬ (G = i + m) := by omega
  have z3 : i + (m + d) ≤ G := hg1
  have z4 : G ≤ 9223372036854775807 := by unfold maxLen at hg2; omega
  have w1 : IntKind.i64.wrap ((i : Int) + (m : Int)) = (i : Int) + (m : Int) := by rw [IntWalk.i64_in] <;> omega
  have w2 : ((i : Int) + (m : Int)).toNat = i + m := by omega
  have w3 : (0 : Int) ≤ (i : Int) + (m : Int) := by omega
  have w4 : (i : Int) + (m : Int) ≤ (i : Int) + ((m : Int) + (d : Int)) := by omega
  clear hW1 hW2 hW3 hG hZ hNN hold
  go_wp2_with (first
    | (at_builtin; refine Lib.wpList_append_run _ rfl _ _ _ _ rfl _ _ rfl rfl _ _ (hrz _) ?_)
    | (at_builtin; refine wpList_copy_runI _ rfl _ _ 47 47 rfl _ _ rfl rfl (hcp1 _ _) ?_))
  go_region_law (refine step_copy_runI rfl _ _ 47 47 rfl (.slice (some ⟨N, i + m, none⟩) d (G - (i + m))) (.slice (some ⟨g, j, none⟩) d (cap - j)) (by simp [Act.eval, Act.put] <;> omega) (by simp [Act.eval, Act.put] <;> omega) (hcp2 3 (G - (i + m)) (cap - j)) ?_)
  all_goals
    go_wp2
    go_ret
    refine ⟨_, rfl, ?_, fun k hk => ?_, ?_⟩
    · rw [show i + m + d = i + (m + d) from by omega]
      refine owns_of_blk hB2 (by simp [splice]; omega) hg1 hg2 (take_of_get (by omega) fun k hk => ?_)
      rw [hgt]
      show (splice (splice Z.toList i ys) (i + m) (xs.drop j))[k]? = _
      rw [splice_get (by rw [splice_len (by simp; omega)]; simp; omega), splice_get (by simp; omega)]
      by_cases c1 : k < i
      · rw [if_pos (by omega), if_pos c1, if_pos c1, hZt k c1]
      · by_cases c2 : k < i + m
        · rw [if_pos c2, if_neg c1, if_pos (by omega), if_neg c1, if_pos c2]
        · rw [if_neg c2, if_pos (by rw [hdl]; omega), if_neg c1, if_neg c2, List.getElem?_drop]
    · right
      have hk' : N = k := by simpa [Value.ownBlock] using hk
      have := HNN.out
      omega
    · exact hFW.trans hFW3 (fun k hk h => by have h' : W.heap.size ≤ k := h; omega)
end
end Go.Proofs.Ytiiebholgmhogaa

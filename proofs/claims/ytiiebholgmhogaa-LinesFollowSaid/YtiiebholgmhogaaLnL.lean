/- What slices.Replace at a row of ints returns, in one law: whatever is taken out and put in, with room or without. Condition: at most a million ints; what comes lies in another block. -/
import Derived.Test.YtiiebholgmhogaaLnK
namespace Go.Proofs.Ytiiebholgmhogaa
open Go.RowKit Go.Shelf
set_option linter.unusedVariables false

theorem wp_clear_run {P : Program} (w : World) {o : Oper} {a : Act} {K : Act → World → Prop} {Q : Exit → Act → World → Prop} (s : Operand) (t : TypeId)
    (ho : o.op = .call { callee := .builtin .clear, args := #[s], argTypes := #[t] }) (v : Value) (hs : a.eval s = v) {v' : Value} {w' : World}
    (hr : (Builtin.clear_ #[t] o.type #[v]).run P w = .ok v' w') (h : K (a.put o.dst v') w') : o.wp P a w K Q := by
  unfold Oper.wp execOp
  simp only [ho, resolve, invoke, builtin, Sem.run_bind, Sem.run_pure, Result.andThen_ok, List.map_toArray, List.map_cons, List.map_nil, hs, hr]
  exact h
theorem wpList_clear_run {P : Program} (w : World) {ops : Array Oper} {rest : List Oper} {o : Oper} {a : Act} {Q : Exit → Act → World → Prop} (hgd : o.guard = none) (s : Operand) (t : TypeId)
    (ho : o.op = .call { callee := .builtin .clear, args := #[s], argTypes := #[t] }) (v : Value) (hs : a.eval s = v) {v' : Value} {w' : World}
    (hr : (Builtin.clear_ #[t] o.type #[v]).run P w = .ok v' w') (h : wpList P ops Q rest (a.put o.dst v') w') : wpList P ops Q (o :: rest) a w :=
  wpList_plain hgd fun _ hK => wp_clear_run w s t ho v hs hr (hK _ _ h)

section
variable (w : World) (g cap n i m : Nat) (cur : Array Value) (xs ys : List Value) (a : Option Addr) (c : Nat)
set_option maxRecDepth 100000 in
set_option maxHeartbeats 2000000 in
theorem rep_end_room (hB : Blk w g cur 3) (hcs : cur.size = cap) (hnc : n ≤ cap) (hcm : cap ≤ maxLen) (htk : cur.toList.take n = xs) (hxl : xs.length = n) (hv : Vs w (.slice a m c) m ys) (hin : i < n) (hroom : i + m ≤ cap) (hn : n ≤ 1000000) (hm : m ≤ 1000000) :
    Calls Try.prog 27 #[.slice (some ⟨g, 0, none⟩) n cap, .int .i64 i, .int .i64 n, .slice a m c] w (Rep w (.slice (some ⟨g, 0, none⟩) n cap) (i + m + (n - n)) (xs.take i ++ ys ++ xs.drop n)) := by
  have hyl := hv.len
  have hT : (xs.take i ++ ys ++ xs.drop n).length = i + m := by simp; omega
  have hmx : cap ≤ 9223372036854775807 := by unfold maxLen at hcm; omega
  have e1 : (i : Int) ≤ n := by omega
  have e2 : ¬ ((i : Int) = n) := by omega
  have e3 : ¬ (cap = i) := by omega
  have e4 : (n : Int) ≤ cap := by omega
  have hsome : ∀ j, j < ys.length → (w.cell? ⟨g, 0 + i + j, none⟩).isSome = true := fun j hj => by rw [hB.cell, Array.getElem?_eq_getElem (by omega)]; rfl
  have hB1 := hB.spliced (o := 0 + i) (l := ys) (by omega)
  have hF1 : Frm (fun k => (Value.slice (some ⟨g, 0, none⟩) n cap).ownBlock = some k) w (w.setCells g (0 + i) ys) := Frm.setCells ys (0 + i) (Frm.refl _ w) (.inl rfl)
  have hget : ∀ k, k < i + m → (splice cur.toList (0 + i) ys)[k]? = (xs.take i ++ ys ++ xs.drop n)[k]? := fun k hk => by
    rw [target_get (by omega) hyl, splice_get (by simp; omega)]
    by_cases c1 : k < i
    · rw [if_pos (by omega), if_pos c1, get_of_take htk (by omega)]
    · rw [if_neg (by omega), if_neg c1, if_pos (by omega), if_pos (by omega), Nat.zero_add]
  rw [Nat.sub_self, Nat.add_zero]
  obtain ⟨TT, hTT⟩ : ∃ TT, xs.take i ++ ys ++ xs.drop n = TT := ⟨_, rfl⟩
  rw [hTT] at hT hget ⊢
  clear hTT
  obtain ⟨W1, hW1⟩ : ∃ W1, W1 = w.setCells g (0 + i) ys := ⟨_, rfl⟩
  rw [← hW1] at hB1 hF1
  have HW1 := Lib.hid hW1
  clear hW1
  by_cases hlt : i + m < n
  · have e5 : (i : Int) + m < n := by omega
    have e6 : ¬ (cap = i + m) := by omega
    have hcl := fun ty => run_clear_in (ty := ty) (o := i + m) (n := n - (i + m)) (c := cap - (i + m)) hB1 (by omega) (by simp [splice]; omega)
    have hB2 := hB1.spliced (o := i + m) (l := List.replicate (n - (i + m)) (.int .i64 0)) (by simp [splice]; omega)
    have hF2 := hF1.setCells (b := g) (List.replicate (n - (i + m)) (.int .i64 0)) (i + m) (.inl rfl)
    go_enter Try.func27, Try.ntmps27
    obtain ⟨W2, hW2⟩ : ∃ W2, W2 = W1.setCells g (i + m) (List.replicate (n - (i + m)) (.int .i64 0)) := ⟨_, rfl⟩
    rw [← hW2] at hB2 hF2 hcl
    clear hW2
    go_wp2_with (first
      | (at_builtin; refine wpList_append_room1 _ rfl _ _ 47 47 rfl 3 _ _ Try.underlying47 info3 g 0 i cap rfl _ rfl m ys hv.src hroom hsome (fun j hj => hB.frozen _) ?_; rw [← HW1.out])
      | (at_builtin; refine wpList_clear_run _ rfl _ 47 rfl _ rfl (hcl _) ?_))
    go_ret
    refine ⟨_, rfl, owns_of_blk hB2 (by simp [splice]; omega) hroom hcm (take_of_get hT fun k hk => ?_), fun k hk => .inl (by simpa [Value.ownBlock] using hk), hF2⟩
    show (splice (splice cur.toList (0 + i) ys) (i + m) (List.replicate (n - (i + m)) (.int .i64 0)))[k]? = _
    rw [splice_get (by rw [splice_len (by simp; omega)]; simp; omega), if_pos hk]
    exact hget k hk
  · have e5 : (n : Int) ≤ (i : Int) + m := by omega
    go_enter Try.func27, Try.ntmps27
    go_wp2_with (at_builtin; refine wpList_append_room1 _ rfl _ _ 47 47 rfl 3 _ _ Try.underlying47 info3 g 0 i cap rfl _ rfl m ys hv.src hroom hsome (fun j hj => hB.frozen _) ?_; rw [← HW1.out])
    go_ret
    exact ⟨_, rfl, owns_of_blk hB1 (by simp [splice]; omega) hroom hcm (take_of_get hT hget), fun k hk => .inl (by simpa [Value.ownBlock] using hk), hF1⟩

set_option maxRecDepth 100000 in
set_option maxHeartbeats 2000000 in
theorem rep_end_grow (hB : Blk w g cur 3) (hcs : cur.size = cap) (hnc : n ≤ cap) (hcm : cap ≤ maxLen) (htk : cur.toList.take n = xs) (hxl : xs.length = n) (hv : Vs w (.slice a m c) m ys) (hin : i < n) (hroom : cap < i + m) (hn : n ≤ 1000000) (hm : m ≤ 1000000) :
    Calls Try.prog 27 #[.slice (some ⟨g, 0, none⟩) n cap, .int .i64 i, .int .i64 n, .slice a m c] w (Rep w (.slice (some ⟨g, 0, none⟩) n cap) (i + m + (n - n)) (xs.take i ++ ys ++ xs.drop n)) := by
  have hyl := hv.len
  have hmx : cap ≤ 9223372036854775807 := by unfold maxLen at hcm; omega
  have e1 : (i : Int) ≤ n := by omega
  have e2 : ¬ ((i : Int) = n) := by omega
  have e3 : ¬ (cap = i) := by omega
  have e4 : (n : Int) ≤ cap := by omega
  have e5 : (n : Int) ≤ (i : Int) + m := by omega
  obtain ⟨i0, hi0, hz0, hzs, hzb⟩ := info_parts info3
  have hsrc : Src Try.prog i0.size 47 (.slice a m c) m ys w := by rw [hzs]; exact hv.src
  have hold : (Builtin.firstCells i0.size i (.slice (some ⟨g, 0, none⟩) i cap)).run Try.prog w.drew = .ok (xs.take i).toArray w.drew := by
    rw [hzs]
    refine run_firstCells_some w.drew 1 i ⟨g, 0, none⟩ i cap (xs.take i) (by simp; omega) (fun j v hj => ?_)
    have hji : j < i := by have := (List.getElem?_eq_some_iff.1 hj).1; simp at this; omega
    rw [Addr.add_lit, hB.drew.cell, Nat.zero_add, ← Array.getElem?_toList, get_of_take htk (by omega)]
    rwa [List.getElem?_take_of_lt hji] at hj
  have hrun : ∀ ty, (Builtin.append_ #[47, 47] ty #[.slice (some ⟨g, 0, none⟩) i cap, .slice a m c]).run Try.prog w = _ := fun ty =>
    run_append_grow_src w 47 47 ty 3 i0 _ Try.underlying47 hi0 hz0 (some ⟨g, 0, none⟩) i cap (xs.take i) hold _ m ys hsrc hroom (by omega) (by rw [hzb]; exact growslice_fits hroom (by omega))
  have hg1 := grownCap_ge w (i + m) cap 3
  have hg2 := grownCap_le_maxLen w (i + m) cap 3 (by unfold maxLen; omega)
  obtain ⟨G, hG⟩ : ∃ G, grownCap w (i + m) cap 3 = G := ⟨_, rfl⟩
  rw [hG] at hrun hg1 hg2
  have hnew := new_row w (xs.take i ++ ys) (n := i + m) (C := G) (by simp; omega) hg1 hg2
  have hF : Frm (fun k => (Value.slice (some ⟨g, 0, none⟩) n cap).ownBlock = some k) w (w.drew.alloc (.cells ((xs.take i ++ ys).toArray ++ Builtin.zeroCells (Value.int .i64 0).cells (G - (i + m))) 3)) := (Frm.refl _ w).drew.alloc _
  rw [Nat.sub_self, Nat.add_zero]
  have hTT : xs.take i ++ ys ++ xs.drop n = xs.take i ++ ys := by rw [List.drop_of_length_le (by omega)]; simp
  rw [hTT]
  clear hTT hG
  obtain ⟨TT, hTT⟩ : ∃ TT, xs.take i ++ ys = TT := ⟨_, rfl⟩
  rw [hTT] at hnew hrun hF ⊢
  obtain ⟨W1, hW1⟩ : ∃ W1, W1 = w.drew.alloc (.cells (TT.toArray ++ Builtin.zeroCells (Value.int .i64 0).cells (G - (i + m))) 3) := ⟨_, rfl⟩
  rw [← hW1] at hnew hrun hF
  clear hTT hW1
  go_enter Try.func27, Try.ntmps27
  go_wp2_with (at_builtin; refine Lib.wpList_append_run _ rfl _ _ _ _ rfl _ _ rfl rfl _ _ (hrun _) ?_)
  go_ret
  refine ⟨_, rfl, hnew, fun k hk => ?_, hF⟩
  right
  simp [Value.ownBlock] at hk
  omega
end
end Go.Proofs.Ytiiebholgmhogaa

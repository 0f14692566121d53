/- A row of steps appended to a row of the call's own: what the built-in append leaves, in one law for rows that are nil, empty, or neither; at a step of a region, and at a plain region's list. Condition: at most a million steps. -/
import Derived.Test.YtgdamapocomhkaaUnV
import Derived.Deep.AppendLies
import Derived.Deep.RegionLaw
import Derived.Deep.RegionHeld3
namespace Go.Proofs.Ytgdamapocomhkaa
open Go.RowKit Go.Shelf
set_option linter.unusedVariables false

theorem run_append_none (w : World) (ty : TypeId) (i : TypeInfo) (hi : Try.prog.info? 31 = some i) (g n c : Nat) (hn : n ≤ c) :
    (Builtin.append_ #[27, 27] ty #[.slice (some ⟨g, 0, none⟩) n c, .slice none 0 0]).run Try.prog w = .ok (.slice (some ⟨g, 0, none⟩) n c) w := by
  simp [Builtin.append_, run_underlying Try.underlying27, sizeOf, typeInfo, hi, Builtin.lenOf, hn, Builtin.firstCells, loadCells, storeCells]

theorem run_app_any (w : World) (base : Nat) (ty : TypeId) (i : TypeInfo) (hi : Try.prog.info? 31 = some i) (hz : i.zero = some (.agg #[.int .i64 0, .string ⟨#[]⟩, .string ⟨#[]⟩, .int .i64 0, .int .i64 0])) (hsize : i.size = 5) (hby : i.bytes = 56)
    (g n0 c0 : Nat) (xs0 : List Value) (hown : w.ownsRow base 31 5 (.slice (some ⟨g, 0, none⟩) n0 c0) n0 xs0) (v : Value) (zs : List St) (hr : RowS w v zs) (hl : n0 + zs.length ≤ 1000000) (hbase : base ≤ w.heap.size) :
    ∃ v' w', (Builtin.append_ #[27, 27] ty #[.slice (some ⟨g, 0, none⟩) n0 c0, v]).run Try.prog w = .ok v' w' ∧ w'.ownsRow base 31 5 v' (n0 + zs.length) (xs0 ++ cellsOf zs) ∧ w.grownBy w' (some g) := by
  rcases hr with ⟨rfl, rfl⟩ | ⟨b, off, cap, rfl, hb, hs⟩
  · have hc : n0 ≤ c0 := by
      rcases hown.2 with ⟨h, _⟩ | ⟨g', cap', cur, h, _, _, hnc, _⟩
      · cases h
      · cases h; exact hnc
    exact ⟨_, _, run_append_none w ty i hi g n0 c0 hc, by simpa [cellsOf] using hown, ⟨rfl, rfl, rfl, Nat.le_refl _, fun _ _ _ => rfl⟩⟩
  · have hcell : ∀ j u, (cellsOf zs)[j]? = some u → w.cell? ((⟨b, off, none⟩ : Addr).add j) = some u := by
      have := steps_cells (n := zs.length) hs (Nat.le_refl _)
      rwa [List.take_length] at this
    have hone : ∀ u ∈ cellsOf zs, u.oneCell' = true := by
      intro u hu
      obtain ⟨s, _, hs'⟩ := List.mem_flatMap.1 hu
      simp [St.cells] at hs'
      rcases hs' with rfl | rfl | rfl | rfl | rfl <;> rfl
    obtain ⟨v', w', h1, h2, h3, _, _⟩ := run_append_own_at (P := Try.prog) w base 27 ty 31 i _ 5 56 Try.underlying27 hi hz hsize hby rfl (by omega) _ n0 xs0 hown ⟨b, off, none⟩ zs.length cap (cellsOf zs) (cellsOf_length zs) hcell hone (by unfold maxLen; omega) (by omega) hbase
    exact ⟨v', w', h1, h2, h3⟩

theorem wp_app_any {o : Oper} {a : Act} {w : World} {K : Act → World → Prop} {Q : Exit → Act → World → Prop} (s x : Operand)
    (ho : o.op = .call { callee := .builtin .append, args := #[s, x], argTypes := #[27, 27] })
    (base : Nat) (i : TypeInfo) (hi : Try.prog.info? 31 = some i) (hz : i.zero = some (.agg #[.int .i64 0, .string ⟨#[]⟩, .string ⟨#[]⟩, .int .i64 0, .int .i64 0])) (hsize : i.size = 5) (hby : i.bytes = 56)
    (g n0 c0 : Nat) (xs0 : List Value) (hs : a.eval s = .slice (some ⟨g, 0, none⟩) n0 c0) (hown : w.ownsRow base 31 5 (.slice (some ⟨g, 0, none⟩) n0 c0) n0 xs0) (v : Value) (zs : List St) (hx : a.eval x = v) (hr : RowS w v zs) (hl : n0 + zs.length ≤ 1000000) (hbase : base ≤ w.heap.size)
    (h : ∀ v' w', w'.ownsRow base 31 5 v' (n0 + zs.length) (xs0 ++ cellsOf zs) → w.grownBy w' (some g) → K (a.put o.dst v') w') : o.wp Try.prog a w K Q := by
  obtain ⟨v', w', hr', h2, h3⟩ := run_app_any w base o.type i hi hz hsize hby g n0 c0 xs0 hown v zs hr hl hbase
  unfold Oper.wp execOp
  simp only [ho, resolve, invoke, builtin, Sem.run_bind, Sem.run_pure, Result.andThen_ok, List.map_toArray, List.map_cons, List.map_nil, hs, hx, hr']
  exact h v' w' h2 h3
theorem wpList_app_any {ops : Array Oper} {rest : List Oper} {o : Oper} {a : Act} {w : World} {Q : Exit → Act → World → Prop} (hgd : o.guard = none) (s x : Operand)
    (ho : o.op = .call { callee := .builtin .append, args := #[s, x], argTypes := #[27, 27] })
    (base : Nat) (i : TypeInfo) (hi : Try.prog.info? 31 = some i) (hz : i.zero = some (.agg #[.int .i64 0, .string ⟨#[]⟩, .string ⟨#[]⟩, .int .i64 0, .int .i64 0])) (hsize : i.size = 5) (hby : i.bytes = 56)
    (g n0 c0 : Nat) (xs0 : List Value) (hs : a.eval s = .slice (some ⟨g, 0, none⟩) n0 c0) (hown : w.ownsRow base 31 5 (.slice (some ⟨g, 0, none⟩) n0 c0) n0 xs0) (v : Value) (zs : List St) (hx : a.eval x = v) (hr : RowS w v zs) (hl : n0 + zs.length ≤ 1000000) (hbase : base ≤ w.heap.size)
    (h : ∀ v' w', w'.ownsRow base 31 5 v' (n0 + zs.length) (xs0 ++ cellsOf zs) → w.grownBy w' (some g) → wpList Try.prog ops Q rest (a.put o.dst v') w') : wpList Try.prog ops Q (o :: rest) a w :=
  wpList_plain hgd fun _ hK => wp_app_any s x ho base i hi hz hsize hby g n0 c0 xs0 hs hown v zs hx hr hl hbase fun v' w' h2 h3 => hK _ _ (h v' w' h2 h3)
theorem step_app_any {ops : Array Oper} {o : Oper} {a : Act} {w : World} {K : Act → World → Prop} {Q : Exit → Act → World → Prop} {E : Prop} (hgd : o.guard = none) (s x : Operand)
    (ho : o.op = .call { callee := .builtin .append, args := #[s, x], argTypes := #[27, 27] })
    (base : Nat) (i : TypeInfo) (hi : Try.prog.info? 31 = some i) (hz : i.zero = some (.agg #[.int .i64 0, .string ⟨#[]⟩, .string ⟨#[]⟩, .int .i64 0, .int .i64 0])) (hsize : i.size = 5) (hby : i.bytes = 56)
    (g n0 c0 : Nat) (xs0 : List Value) (hs : a.eval s = .slice (some ⟨g, 0, none⟩) n0 c0) (hown : w.ownsRow base 31 5 (.slice (some ⟨g, 0, none⟩) n0 c0) n0 xs0) (v : Value) (zs : List St) (hx : a.eval x = v) (hr : RowS w v zs) (hl : n0 + zs.length ≤ 1000000) (hbase : base ≤ w.heap.size)
    (h : ∀ v' w', w'.ownsRow base 31 5 v' (n0 + zs.length) (xs0 ++ cellsOf zs) → w.grownBy w' (some g) → K (a.put o.dst v') w') :
    if Region.wanted o (yielded ops a.tmps) = true then Oper.wp Try.prog o a w K Q else E := by
  have hw : Region.wanted o (yielded ops a.tmps) = true := by simp [Region.wanted, hgd]
  rw [if_pos hw]
  exact wp_app_any s x ho base i hi hz hsize hby g n0 c0 xs0 hs hown v zs hx hr hl hbase h

/-- A row of one step, just made. -/
theorem owns_one (W : World) (x : St) : (W.alloc (.cells #[.int .i64 x.pos, .string x.del, .string x.ins, .int .i64 x.ahead, .int .i64 x.behind] 31)).ownsRow W.heap.size 31 5 (.slice (some ⟨W.heap.size, 0, none⟩) 1 1) 1 x.cells :=
  ⟨rfl, .inr ⟨W.heap.size, 1, _, rfl, Nat.le_refl _, World.alloc_heap_new W _, Nat.le_refl _, by unfold maxLen; omega, rfl, rfl⟩⟩
/-- A row of none, just made. -/
theorem owns_none (W : World) : (W.alloc (.cells #[] 31)).ownsRow W.heap.size 31 5 (.slice (some ⟨W.heap.size, 0, none⟩) 0 0) 0 [] :=
  ⟨rfl, .inr ⟨W.heap.size, 0, _, rfl, Nat.le_refl _, World.alloc_heap_new W _, Nat.le_refl _, by unfold maxLen; omega, rfl, rfl⟩⟩
theorem owns_none1 (W : World) (o : Obj) : ((W.alloc o).alloc (.cells #[] 31)).ownsRow W.heap.size 31 5 (.slice (some ⟨W.heap.size + 1, 0, none⟩) 0 0) 0 [] := by
  have := owns_none (W.alloc o)
  rw [World.size_alloc] at this
  exact row_mono this (by omega)
theorem cellsOf_cons (x : St) (l : List St) : cellsOf (x :: l) = x.cells ++ cellsOf l := by simp [cellsOf]
theorem below_a1 (W : World) (o : Obj) : Below W.heap.size W (W.alloc o) := (Below.refl _ _).alloc (Nat.le_refl _) _
theorem below_a2 (W : World) (o o' : Obj) : Below W.heap.size W ((W.alloc o).alloc o') := ((Below.refl _ _).alloc (Nat.le_refl _) _).alloc (by simp) _
theorem below_put {B : Nat} {a w : World} (h : Below B a w) (o : Nat) (u : Value) : Below B a (w.setCell ⟨B, o, none⟩ u) := h.setCell (p := ⟨B, o, none⟩) (Nat.le_refl _) u
theorem RowR.lt {W : World} {jb : Nat} {js v : Value} {zs : List St} (h : RowR W jb js v zs) : ∀ k, v.ownBlock = some k → k < W.heap.size := by
  rcases h with ⟨rfl, _⟩ | ⟨b, off, cap, rfl, h2, h3, h4, h5, h6⟩
  · intro k hk; simp [Value.ownBlock] at hk
  · intro k hk
    obtain rfl : b = k := by simpa [Value.ownBlock] using hk
    exact h5
theorem RowR.frm2 {p : Nat → Prop} {W W' : World} {jb : Nat} {js v : Value} {zs : List St} (h : RowR W jb js v zs) (hf : Frm p W W') (hp : ∀ k, v.ownBlock = some k → ¬ p k) : RowR W' jb js v zs := by
  rcases h with h | ⟨b, off, cap, h1, h2, h3, h4, h5, h6⟩
  · exact .inl h
  · have hnp : ¬ p b := hp b (by rw [h1]; rfl)
    exact .inr ⟨b, off, cap, h1, h2, h3, h4, Nat.lt_of_lt_of_le h5 hf.size, fun j hj => (h6 j hj).frm hf h5 hnp⟩
theorem take_cons {dl ul : List St} {d : Nat} {x : St} (h : dl.length = d + 1) (hx : dl[d]?.getD St.zero = x) : dl.take d ++ (x :: ul) = dl ++ ul := by
  have h1 := take_snoc (l := dl) (d := d) (by omega)
  rw [hx, List.take_of_length_le (by omega)] at h1
  rw [List.append_cons, ← h1]
/-- A row of the call's own lies apart from the journal. -/
theorem RowR.of_owns {W : World} {base n jb : Nat} {js v : Value} {zs : List St} (h : W.ownsRow base 31 5 v n (cellsOf zs)) (hn : zs.length = n) (hjb : jb < base) (hjs : ∀ k, js.ownBlock = some k → k < base) : RowR W jb js v zs := by
  rcases h.2 with ⟨h1, h0⟩ | ⟨g, cap, cur, hv, hb, hg, hnc, hcm, hcs, htake⟩
  · exact .inl ⟨h1, List.eq_nil_of_length_eq_zero (by omega)⟩
  · subst hv
    refine .inr ⟨g, 0, cap, by rw [hn], by omega, by omega, fun e => by have := hjs g e; omega, (Array.getElem?_eq_some_iff.1 hg).1, fun j hj => ?_⟩
    refine stepAt_of_cells fun i u hu => ?_
    have hi : i < 5 := (List.getElem?_eq_some_iff.1 hu).1
    have hc := h.cells (g := g) rfl (j * 5 + i) u (by
      rw [cellsOf_at _ _ _ hj hi]
      rw [List.getElem?_eq_getElem hj] at hu
      exact hu)
    rw [addr_add] at hc
    have e : 0 + j * 5 + i = 0 + (j * 5 + i) := by omega
    rw [e]
    exact hc
/-- The first steps of a row. -/
theorem RowR.take {W : World} {jb : Nat} {js v : Value} {zs : List St} (h : RowR W jb js v zs) (a : Option Addr) (cap n : Nat) (hv : v = .slice a zs.length cap) (hn : n ≤ zs.length) (h0 : 0 < zs.length) : RowR W jb js (.slice a n cap) (zs.take n) := by
  rcases h with ⟨_, rfl⟩ | ⟨b, off, cap', h1, h2, h3, h4, h5, h6⟩
  · simp at h0
  · rw [h1] at hv
    cases hv
    have hl : (zs.take n).length = n := by simp; omega
    refine .inr ⟨b, off, cap, by rw [hl], by omega, h3, h4, h5, fun j hj => ?_⟩
    rw [hl] at hj
    have := h6 j (by omega)
    rwa [List.getElem?_take_of_lt hj]
/-- A row without its first step. -/
theorem RowR.tail {W : World} {jb : Nat} {js v : Value} {z : St} {zs : List St} (h : RowR W jb js v (z :: zs)) : ∃ b off cap, v = .slice (some ⟨b, off, none⟩) (zs.length + 1) cap ∧ zs.length + 1 ≤ cap ∧ b < W.heap.size ∧ StepAt W b off z ∧
    (1 < cap → RowR W jb js (.slice (some ⟨b, off + 5, none⟩) zs.length (cap - 1)) zs) ∧ (cap = 1 → ∀ o, RowR W jb js (.slice (some ⟨b, o, none⟩) zs.length (cap - 1)) zs) := by
  rcases h with ⟨_, h⟩ | ⟨b, off, cap, h1, h2, h3, h4, h5, h6⟩
  · cases h
  · simp only [List.length_cons] at h1 h2 h6
    refine ⟨b, off, cap, h1, h2, h5, by simpa using h6 0 (by omega), fun hc => ?_, fun hc o => ?_⟩
    · refine .inr ⟨b, off + 5, cap - 1, rfl, by omega, h3, h4, h5, fun j hj => ?_⟩
      have := h6 (j + 1) (by omega)
      rw [List.getElem?_cons_succ] at this
      have e : off + 5 + j * 5 = off + (j + 1) * 5 := by omega
      rwa [e]
    · exact .inr ⟨b, o, cap - 1, rfl, by omega, h3, h4, h5, fun j hj => by omega⟩
end Go.Proofs.Ytgdamapocomhkaa

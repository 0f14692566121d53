/- Rows of strings: what the built-in append leaves of a row of the call's own and a row that is nil, empty, or neither. Condition: at most a million strings. -/
import Derived.Test.YtgdamapocomhkaaUnH
import Derived.Test.YtgdamapocomhkaaUnQ
import Derived.Deep.AppendLies
import Derived.Deep.RegionLaw
import Derived.Deep.RegionHeld3
import Derived.Deep.CutBlock
namespace Go.Proofs.Ytgdamapocomhkaa
open Go.RowKit Go.Shelf
set_option linter.unusedVariables false

def strCells (zs : List Bs) : List Value := zs.map Value.string
/-- A row of strings, apart from the ring's block. -/
def RowB (W : World) (rb : Nat) (v : Value) (zs : List Bs) : Prop :=
  (v = .slice none 0 0 ∧ zs = []) ∨ ∃ b off cap, v = .slice (some ⟨b, off, none⟩) zs.length cap ∧ zs.length ≤ cap ∧ b ≠ rb ∧ b < W.heap.size ∧ ∀ j, j < zs.length → W.cell? ⟨b, off + j, none⟩ = some (.string (zs[j]?.getD ⟨#[]⟩))
theorem RowB.frm {p : Nat → Prop} {W W' : World} {rb : Nat} {v : Value} {zs : List Bs} (h : RowB W rb v zs) (hf : Frm p W W') (hp : ∀ k, p k → k = rb ∨ W.heap.size ≤ k) : RowB W' rb v zs := by
  rcases h with h | ⟨b, off, cap, h1, h2, h3, h5, h6⟩
  · exact .inl h
  · have hnp : ¬ p b := fun hb => by
      rcases hp b hb with e | e
      · exact h3 e
      · omega
    exact .inr ⟨b, off, cap, h1, h2, h3, Nat.lt_of_lt_of_le h5 hf.size, fun j hj => (hf.cell (a := ⟨b, off + j, none⟩) h5 hnp).trans (h6 j hj)⟩
theorem RowB.below {W W' : World} {rb : Nat} {v : Value} {zs : List Bs} (h : RowB W rb v zs) (hb : Below W.heap.size W W') : RowB W' rb v zs := h.frm (Frm.of_below (p := fun _ => False) hb) (fun _ h => h.elim)
theorem RowB.form {W : World} {rb : Nat} {v : Value} {zs : List Bs} (h : RowB W rb v zs) : ∃ a cap, v = .slice a zs.length cap := by
  rcases h with ⟨rfl, rfl⟩ | ⟨b, off, cap, h1, _⟩
  · exact ⟨none, 0, rfl⟩
  · exact ⟨_, cap, h1⟩
/-- A row of the call's own lies apart from the ring. -/
theorem RowB.of_owns {W : World} {base n rb : Nat} {v : Value} {zs : List Bs} (h : W.ownsRow base 9 1 v n (strCells zs)) (hn : zs.length = n) (hrb : rb < base) : RowB W rb v zs := by
  rcases h.2 with ⟨h1, h0⟩ | ⟨g, cap, cur, hv, hb, hg, hnc, hcm, hcs, htake⟩
  · exact .inl ⟨h1, List.eq_nil_of_length_eq_zero (by omega)⟩
  · subst hv
    refine .inr ⟨g, 0, cap, by rw [hn], by omega, by omega, (Array.getElem?_eq_some_iff.1 hg).1, fun j hj => ?_⟩
    have hc := h.cells (g := g) rfl j (.string (zs[j]?.getD ⟨#[]⟩)) (by simp [strCells, hj])
    have e : (⟨g, 0, none⟩ : Addr).add j = ⟨g, 0 + j, none⟩ := by unfold Addr.add; split <;> simp_all
    rw [e] at hc
    exact hc

theorem run_appS_none (w : World) (ty : TypeId) (i : TypeInfo) (hi : Try.prog.info? 9 = some i) (g n c : Nat) (hn : n ≤ c) :
    (Builtin.append_ #[56, 56] ty #[.slice (some ⟨g, 0, none⟩) n c, .slice none 0 0]).run Try.prog w = .ok (.slice (some ⟨g, 0, none⟩) n c) w := by
  simp [Builtin.append_, run_underlying Try.underlying56, sizeOf, typeInfo, hi, Builtin.lenOf, hn, Builtin.firstCells, loadCells, storeCells]
theorem run_appS_any (w : World) (base rb : Nat) (ty : TypeId) (i : TypeInfo) (hi : Try.prog.info? 9 = some i) (hz : i.zero = some (.string ⟨#[]⟩)) (hsize : i.size = 1) (hby : i.bytes = 16)
    (g n0 c0 : Nat) (xs0 : List Value) (hown : w.ownsRow base 9 1 (.slice (some ⟨g, 0, none⟩) n0 c0) n0 xs0) (v : Value) (zs : List Bs) (hr : RowB w rb v zs) (hl : n0 + zs.length ≤ 1000000) (hbase : base ≤ w.heap.size) :
    ∃ v' w', (Builtin.append_ #[56, 56] ty #[.slice (some ⟨g, 0, none⟩) n0 c0, v]).run Try.prog w = .ok v' w' ∧ w'.ownsRow base 9 1 v' (n0 + zs.length) (xs0 ++ strCells zs) ∧ w.grownBy w' (some g) := by
  rcases hr with ⟨rfl, rfl⟩ | ⟨b, off, cap, rfl, _, _, hb, hs⟩
  · have hc : n0 ≤ c0 := by
      rcases hown.2 with ⟨h, _⟩ | ⟨g', cap', cur, h, _, _, hnc, _⟩
      · cases h
      · cases h; exact hnc
    exact ⟨_, _, run_appS_none w ty i hi g n0 c0 hc, by simpa [strCells] using hown, ⟨rfl, rfl, rfl, Nat.le_refl _, fun _ _ _ => rfl⟩⟩
  · have hcell : ∀ j u, (strCells zs)[j]? = some u → w.cell? ((⟨b, off, none⟩ : Addr).add j) = some u := by
      intro j u hu
      have hj : j < zs.length := by simpa [strCells] using (List.getElem?_eq_some_iff.1 hu).1
      have e : (⟨b, off, none⟩ : Addr).add j = ⟨b, off + j, none⟩ := by unfold Addr.add; split <;> simp_all
      rw [e, hs j hj, ← hu]
      simp [strCells, hj]
    have hone : ∀ u ∈ strCells zs, u.oneCell' = true := by
      intro u hu
      obtain ⟨s, _, rfl⟩ := List.mem_map.1 hu
      rfl
    obtain ⟨v', w', h1, h2, h3, _, _⟩ := run_append_own_at (P := Try.prog) w base 56 ty 9 i _ 1 16 Try.underlying56 hi hz hsize hby rfl (by omega) _ n0 xs0 hown ⟨b, off, none⟩ zs.length cap (strCells zs) (by simp [strCells]) hcell hone (by unfold maxLen; omega) (by omega) hbase
    exact ⟨v', w', h1, h2, h3⟩
theorem wp_appS_any {o : Oper} {a : Act} {w : World} {K : Act → World → Prop} {Q : Exit → Act → World → Prop} (s x : Operand)
    (ho : o.op = .call { callee := .builtin .append, args := #[s, x], argTypes := #[56, 56] })
    (base rb : Nat) (i : TypeInfo) (hi : Try.prog.info? 9 = some i) (hz : i.zero = some (.string ⟨#[]⟩)) (hsize : i.size = 1) (hby : i.bytes = 16)
    (g n0 c0 : Nat) (xs0 : List Value) (hs : a.eval s = .slice (some ⟨g, 0, none⟩) n0 c0) (hown : w.ownsRow base 9 1 (.slice (some ⟨g, 0, none⟩) n0 c0) n0 xs0) (v : Value) (zs : List Bs) (hx : a.eval x = v) (hr : RowB w rb v zs) (hl : n0 + zs.length ≤ 1000000) (hbase : base ≤ w.heap.size)
    (h : ∀ v' w', w'.ownsRow base 9 1 v' (n0 + zs.length) (xs0 ++ strCells zs) → w.grownBy w' (some g) → K (a.put o.dst v') w') : o.wp Try.prog a w K Q := by
  obtain ⟨v', w', hr', h2, h3⟩ := run_appS_any w base rb o.type i hi hz hsize hby g n0 c0 xs0 hown v zs hr hl hbase
  unfold Oper.wp execOp
  simp only [ho, resolve, invoke, builtin, Sem.run_bind, Sem.run_pure, Result.andThen_ok, List.map_toArray, List.map_cons, List.map_nil, hs, hx, hr']
  exact h v' w' h2 h3
theorem wpList_appS_any {ops : Array Oper} {rest : List Oper} {o : Oper} {a : Act} {w : World} {Q : Exit → Act → World → Prop} (hgd : o.guard = none) (s x : Operand)
    (ho : o.op = .call { callee := .builtin .append, args := #[s, x], argTypes := #[56, 56] })
    (base rb : Nat) (i : TypeInfo) (hi : Try.prog.info? 9 = some i) (hz : i.zero = some (.string ⟨#[]⟩)) (hsize : i.size = 1) (hby : i.bytes = 16)
    (g n0 c0 : Nat) (xs0 : List Value) (hs : a.eval s = .slice (some ⟨g, 0, none⟩) n0 c0) (hown : w.ownsRow base 9 1 (.slice (some ⟨g, 0, none⟩) n0 c0) n0 xs0) (v : Value) (zs : List Bs) (hx : a.eval x = v) (hr : RowB w rb v zs) (hl : n0 + zs.length ≤ 1000000) (hbase : base ≤ w.heap.size)
    (h : ∀ v' w', w'.ownsRow base 9 1 v' (n0 + zs.length) (xs0 ++ strCells zs) → w.grownBy w' (some g) → wpList Try.prog ops Q rest (a.put o.dst v') w') : wpList Try.prog ops Q (o :: rest) a w :=
  wpList_plain hgd fun _ hK => wp_appS_any s x ho base rb i hi hz hsize hby g n0 c0 xs0 hs hown v zs hx hr hl hbase fun v' w' h2 h3 => hK _ _ (h v' w' h2 h3)
theorem step_appS_any {ops : Array Oper} {o : Oper} {a : Act} {w : World} {K : Act → World → Prop} {Q : Exit → Act → World → Prop} {E : Prop} (hgd : o.guard = none) (s x : Operand)
    (ho : o.op = .call { callee := .builtin .append, args := #[s, x], argTypes := #[56, 56] })
    (base rb : Nat) (i : TypeInfo) (hi : Try.prog.info? 9 = some i) (hz : i.zero = some (.string ⟨#[]⟩)) (hsize : i.size = 1) (hby : i.bytes = 16)
    (g n0 c0 : Nat) (xs0 : List Value) (hs : a.eval s = .slice (some ⟨g, 0, none⟩) n0 c0) (hown : w.ownsRow base 9 1 (.slice (some ⟨g, 0, none⟩) n0 c0) n0 xs0) (v : Value) (zs : List Bs) (hx : a.eval x = v) (hr : RowB w rb v zs) (hl : n0 + zs.length ≤ 1000000) (hbase : base ≤ w.heap.size)
    (h : ∀ v' w', w'.ownsRow base 9 1 v' (n0 + zs.length) (xs0 ++ strCells zs) → w.grownBy w' (some g) → K (a.put o.dst v') w') :
    if Region.wanted o (yielded ops a.tmps) = true then Oper.wp Try.prog o a w K Q else E := by
  have hw : Region.wanted o (yielded ops a.tmps) = true := by simp [Region.wanted, hgd]
  rw [if_pos hw]
  exact wp_appS_any s x ho base rb i hi hz hsize hby g n0 c0 xs0 hs hown v zs hx hr hl hbase h
theorem ownsS_one (W : World) (x : Bs) : (W.alloc (.cells #[.string x] 9)).ownsRow W.heap.size 9 1 (.slice (some ⟨W.heap.size, 0, none⟩) 1 1) 1 [.string x] :=
  ⟨rfl, .inr ⟨W.heap.size, 1, _, rfl, Nat.le_refl _, World.alloc_heap_new W _, Nat.le_refl _, by unfold maxLen; omega, rfl, rfl⟩⟩
theorem ownsS_none (W : World) : (W.alloc (.cells #[] 9)).ownsRow W.heap.size 9 1 (.slice (some ⟨W.heap.size, 0, none⟩) 0 0) 0 [] :=
  ⟨rfl, .inr ⟨W.heap.size, 0, _, rfl, Nat.le_refl _, World.alloc_heap_new W _, Nat.le_refl _, by unfold maxLen; omega, rfl, rfl⟩⟩
/-- A row without its first text. -/
theorem RowB.tail {W : World} {rb : Nat} {v : Value} {z : Bs} {zs : List Bs} (h : RowB W rb v (z :: zs)) : ∃ b off cap, v = .slice (some ⟨b, off, none⟩) (zs.length + 1) cap ∧ zs.length + 1 ≤ cap ∧ b < W.heap.size ∧ W.cell? ⟨b, off, none⟩ = some (.string z) ∧
    (1 < cap → RowB W rb (.slice (some ⟨b, off + 1, none⟩) zs.length (cap - 1)) zs) ∧ (cap = 1 → ∀ o, RowB W rb (.slice (some ⟨b, o, none⟩) zs.length (cap - 1)) zs) := by
  rcases h with ⟨_, h⟩ | ⟨b, off, cap, h1, h2, h3, h5, h6⟩
  · cases h
  · simp only [List.length_cons] at h1 h2 h6
    refine ⟨b, off, cap, h1, h2, h5, by simpa using h6 0 (by omega), fun hc => ?_, fun hc o => ?_⟩
    · refine .inr ⟨b, off + 1, cap - 1, rfl, by omega, h3, h5, fun j hj => ?_⟩
      have := h6 (j + 1) (by omega)
      rw [List.getElem?_cons_succ] at this
      have e : off + 1 + j = off + (j + 1) := by omega
      rwa [e]
    · exact .inr ⟨b, o, cap - 1, rfl, by omega, h3, h5, fun j hj => by omega⟩
theorem RowB.take {W : World} {rb : Nat} {b off cap n : Nat} {zs : List Bs} (h : RowB W rb (.slice (some ⟨b, off, none⟩) zs.length cap) zs) (hn : n ≤ zs.length) : RowB W rb (.slice (some ⟨b, off, none⟩) n cap) (zs.take n) := by
  rcases h with ⟨h, _⟩ | ⟨b', off', cap', h1, h2, h3, h5, h6⟩
  · cases h
  · cases h1
    have hl : (zs.take n).length = n := by simp; omega
    refine .inr ⟨b, off, cap, by rw [hl], by omega, h3, h5, fun j hj => ?_⟩
    rw [hl] at hj
    have := h6 j (by omega)
    rwa [List.getElem?_take_of_lt hj]
def killS (x : List Bs) (s : Bs) (m : Int) : Bs := match x with
  | [] => s
  | t :: _ => if 0 < m then t ++ s else if m < 0 then s ++ t else s
def killX (x : List Bs) (m : Int) : List Bs := if m = 0 then x else x.tail
def killL (x : List Bs) (s : Bs) (m : Int) : List Bs := (killS x s m :: killX x m).take 20
theorem kill_any (rb : Nat) (f : Nat → Bs) (w : World) (x : List Bs) (h : Rg w rb f x.length) (hf : ∀ j, j < x.length → f j = x[j]?.getD ⟨#[]⟩) (s : Bs) (hs : s ≠ ⟨#[]⟩) (m : Int) (hb : ∀ t ∈ x, t.size + s.size ≤ 1000000) :
    Calls Try.prog 20 #[.pointer (some ⟨rb, 0, none⟩), .string s, .int .i64 m] w fun e w' => (∃ v, e = .returned v) ∧ (∃ f1, Rg w' rb f1 (killL x s m).length ∧ ∀ j, j < (killL x s m).length → f1 j = (killL x s m)[j]?.getD ⟨#[]⟩) ∧ Frm (fun k => k = rb) w w' := by
  have hle := h.le
  by_cases hm : x.length = 0 ∨ m = 0
  · refine (kill_new rb x.length f w h s hs m hm).mono ?_
    rintro e w' ⟨hv, hR, hF⟩
    have e1 : killL x s m = (s :: x).take 20 := by
      unfold killL killS killX
      rcases hm with h0 | rfl
      · obtain rfl := List.eq_nil_of_length_eq_zero h0
        simp
      · cases x <;> simp
    have e2 : (killL x s m).length = min (x.length + 1) 20 := by rw [e1]; simp; omega
    rw [e2]
    refine ⟨hv, ⟨_, hR, fun j hj => ?_⟩, hF⟩
    rw [e1, List.getElem?_take_of_lt (by omega)]
    cases j with
    | zero => simp
    | succ k => simpa using hf k (by omega)
  · obtain ⟨t, r, rfl⟩ : ∃ t r, x = t :: r := by
      cases x with
      | nil => simp at hm
      | cons t r => exact ⟨t, r, rfl⟩
    have hm0 : m ≠ 0 := fun e => hm (.inr e)
    have ht : f 0 = t := by simpa using hf 0 (by simp)
    have hbt := hb t (by simp)
    have hle' : r.length + 1 ≤ 20 := hle
    by_cases hp : 0 < m
    · refine (kill_add rb (t :: r).length f w h s hs m (by simp) hp (by rw [ht]; exact hbt)).mono ?_
      rintro e w' ⟨hv, hR, hF⟩
      have e1 : killL (t :: r) s m = (t ++ s) :: r := by
        unfold killL killS killX
        dsimp only
        rw [if_pos hp, if_neg hm0, List.tail_cons, List.take_of_length_le (by simp; omega)]
      rw [e1]
      refine ⟨hv, ⟨_, hR, fun j hj => ?_⟩, hF⟩
      cases j with
      | zero => simp [ht]
      | succ k => simpa using hf (k + 1) (by simpa using hj)
    · have hn : m < 0 := by omega
      refine (kill_pre rb (t :: r).length f w h s hs m (by simp) hn (by rw [ht]; exact hbt)).mono ?_
      rintro e w' ⟨hv, hR, hF⟩
      have e1 : killL (t :: r) s m = (s ++ t) :: r := by
        unfold killL killS killX
        dsimp only
        rw [if_neg hp, if_pos hn, if_neg hm0, List.tail_cons, List.take_of_length_le (by simp; omega)]
      rw [e1]
      refine ⟨hv, ⟨_, hR, fun j hj => ?_⟩, hF⟩
      cases j with
      | zero => simp [ht]
      | succ k => simpa using hf (k + 1) (by simpa using hj)
theorem turned_at (f : Nat → Bs) (a : Bs) (r : List Bs) (hf : ∀ j, j < (a :: r).length → f j = (a :: r)[j]?.getD ⟨#[]⟩) : ∀ j, j < (r ++ [a]).length → turned (a :: r).length f j = (r ++ [a])[j]?.getD ⟨#[]⟩ := by
  intro j hj
  simp only [List.length_append, List.length_cons, List.length_nil] at hj hf ⊢
  unfold turned
  by_cases c1 : j + 1 < r.length + 1
  · rw [if_pos c1, List.getElem?_append_left (by omega)]
    simpa using hf (j + 1) (by omega)
  · rw [if_neg c1, if_pos (by omega), List.getElem?_append_right (by omega)]
    obtain rfl : j = r.length := by omega
    simpa using hf 0 (by omega)
theorem ownsS_none1 (W : World) (o : Obj) : ((W.alloc o).alloc (.cells #[] 9)).ownsRow W.heap.size 9 1 (.slice (some ⟨W.heap.size + 1, 0, none⟩) 0 0) 0 [] := by
  have := ownsS_none (W.alloc o)
  rw [World.size_alloc] at this
  exact row_mono this (by omega)
theorem size_app (a b : Bs) : (a ++ b).size = a.size + b.size := ByteArray.size_append
theorem killS_small {x : List Bs} {s : Bs} {m : Int} {i : Nat} (h : ∀ t ∈ x, t.size ≤ 100 * i) (hs : s.size ≤ 100) : (killS x s m).size ≤ 100 * (i + 1) := by
  unfold killS
  split
  · omega
  · have := h _ (List.mem_cons_self ..)
    split
    · rw [size_app]; omega
    · split
      · rw [size_app]; omega
      · omega
theorem killL_small {x : List Bs} {s : Bs} {m : Int} {i : Nat} (h : ∀ t ∈ x, t.size ≤ 100 * i) (hs : s.size ≤ 100) : ∀ t ∈ killL x s m, t.size ≤ 100 * (i + 1) := by
  intro t ht
  unfold killL at ht
  rcases List.mem_cons.1 (List.mem_of_mem_take ht) with rfl | ht
  · exact killS_small h hs
  · unfold killX at ht
    have : t ∈ x := by
      split at ht
      · exact ht
      · exact List.mem_of_mem_tail ht
    have := h t this
    omega

end Go.Proofs.Ytgdamapocomhkaa

/- The row of all stacks of the document's own parts in memory; a call as a step of a region that draws. Condition: texts of at most 60,000 bytes. -/
import Derived.Test.YtholjhdjlhkocaaPtG
import Derived.Test.YtholjhdjlhkocaaPtF
namespace Go.Proofs.Ytholjhdjlhkocaa
open Go.RowKit
set_option linter.unusedVariables false

theorem call_enter {f : FuncId} {fn : Func} (hf : Try.prog.funcs[f]? = some fn) (hname : (fn.name == "runtime.NumGoroutine") = false) (hb : fn.body.isSome = true) (args : Array Value) (w : World) : (callFunc f args).run Try.prog w = .ok (.enter f args) w := by
  have h1 : fn.name ≠ "runtime.NumGoroutine" := by simpa using hname
  obtain ⟨c, hc⟩ := Option.isSome_iff_exists.1 hb
  simp [callFunc, hf, h1, hc]
/-- A call of a Go function, as a step of a region that draws: what follows it, for whatever it returns. -/
theorem step_call {ops : Array Oper} {o : Oper} {a : Act} {w : World} {K : Act → World → Prop} {Q : Exit → Act → World → Prop} {E : Prop} (hgd : o.guard = none) {f : FuncId} {fn : Func} (hf : Try.prog.funcs[f]? = some fn) (hname : (fn.name == "runtime.NumGoroutine") = false) (hb : fn.body.isSome = true) (args : List Operand) (tys : Array TypeId)
    (ho : o.op = .call { callee := .value (.func f), args := args.toArray, argTypes := tys }) (vs : List Value) (hv : args.map a.eval = vs) (R : Value → World → Prop)
    (hc : Calls Try.prog f vs.toArray w fun e w' => ∃ v, e = .returned v ∧ R v w') (h : ∀ v w', R v w' → K (a.put o.dst v) w') :
    if Region.wanted o (yielded ops a.tmps) = true then Oper.wp Try.prog o a w K Q else E := by
  have hw : Region.wanted o (yielded ops a.tmps) = true := by simp [Region.wanted, hgd]
  rw [if_pos hw]
  have e1 : a.eval (.func f) = .func (.func f) #[] #[] := rfl
  unfold Oper.wp execOp
  simp only [ho, resolve, List.map_toArray, hv, e1, Deferred.ofValue, invoke, Sem.run_bind, Sem.run_pure, Result.andThen_ok, Array.empty_append, Array.append_empty, call_enter hf hname hb]
  rw [Oper.upon_enter]
  refine hc.mono ?_
  rintro e w' ⟨v, rfl, hr⟩
  exact h v w' hr

theorem infoSt : (Try.prog.info? 48).map (fun i => (i.zero, i.size, i.bytes)) = some (some (.agg #[.string ⟨#[]⟩, .slice none 0 0, .bool false]), 3, 48) := by kernel_rfl
/-- A stack as the document's machine holds it: its letters, where its places lie. -/
structure RV where
  S : ByteArray
  g : Nat
  n : Nat
  cap : Nat
def cellS (r : RV) (fr : Bool) : List Value := [.string r.S, .slice (some ⟨r.g, 0, none⟩) r.n r.cap, .bool fr]
def cellsS (s : ByteArray) (rv : Nat → RV) (c : Nat) : List Value := (List.range c).flatMap fun i => cellS (rv i) (runK s i).fresh
theorem cellsS_succ (s : ByteArray) (rv : Nat → RV) (c : Nat) : cellsS s rv (c + 1) = cellsS s rv c ++ cellS (rv c) (runK s c).fresh := by
  unfold cellsS
  rw [List.range_succ, List.flatMap_append]
  simp
theorem cellsS_length (s : ByteArray) (rv : Nat → RV) : ∀ c, (cellsS s rv c).length = c * 3
  | 0 => rfl
  | c + 1 => by
    rw [cellsS_succ, List.length_append, cellsS_length s rv c]
    simp [cellS]
    omega
theorem cellsS_congr {s : ByteArray} {rv rv2 : Nat → RV} {c : Nat} (h : ∀ i, i < c → rv i = rv2 i) : cellsS s rv c = cellsS s rv2 c := by
  induction c with
  | zero => rfl
  | succ c ih => rw [cellsS_succ, cellsS_succ, ih (fun i hi => h i (by omega)), h c (by omega)]
theorem cellsS_at {s : ByteArray} {rv : Nat → RV} : ∀ {c i : Nat}, i < c → ∀ d v, (cellS (rv i) (runK s i).fresh)[d]? = some v → (cellsS s rv c)[i * 3 + d]? = some v
  | 0, i, h, _, _, _ => by omega
  | c + 1, i, h, d, v, hv => by
    have hd : d < 3 := (List.getElem?_eq_some_iff.1 hv).1
    rw [cellsS_succ]
    by_cases e : i = c
    · subst e
      rw [List.getElem?_append_right (by rw [cellsS_length]; omega), cellsS_length, show i * 3 + d - i * 3 = d by omega]
      exact hv
    · rw [List.getElem?_append_left (by rw [cellsS_length]; omega)]
      exact cellsS_at (by omega) d v hv
/-- The row of the stacks behind the first c - 1 beginnings of a text. -/
structure AllS (w : World) (base ab acap c : Nat) (s : ByteArray) (rv : Nat → RV) : Prop where
  own : w.ownsRow base 48 3 (.slice (some ⟨ab, 0, none⟩) c acap) c (cellsS s rv c)
  rows : ∀ i, i < c → Rv w (runK s i).st (rv i).S (rv i).g (rv i).n (rv i).cap ∧ base ≤ (rv i).g ∧ (rv i).g ≠ ab
theorem AllS.lt {w : World} {base ab acap c : Nat} {s : ByteArray} {rv : Nat → RV} (h : AllS w base ab acap c s rv) : ab < w.heap.size := own_lt h.own ab rfl
theorem AllS.ge {w : World} {base ab acap c : Nat} {s : ByteArray} {rv : Nat → RV} (h : AllS w base ab acap c s rv) : base ≤ ab := own_ge h.own ab rfl
theorem AllS.below {w w' : World} {base ab acap c : Nat} {s : ByteArray} {rv : Nat → RV} (h : AllS w base ab acap c s rv) (hb : Below w.heap.size w w') : AllS w' base ab acap c s rv :=
  ⟨own_below h.own hb, fun i hi => ⟨(h.rows i hi).1.below hb, (h.rows i hi).2⟩⟩
theorem AllS.cells {w : World} {base ab acap c : Nat} {s : ByteArray} {rv : Nat → RV} (h : AllS w base ab acap c s rv) {i : Nat} (hi : i < c) :
    w.cell? ⟨ab, i * 3, none⟩ = some (.string (rv i).S) ∧ w.cell? ⟨ab, i * 3 + 1, none⟩ = some (.slice (some ⟨(rv i).g, 0, none⟩) (rv i).n (rv i).cap) ∧ w.cell? ⟨ab, i * 3 + 2, none⟩ = some (.bool (runK s i).fresh) := by
  have hc : ∀ d v, (cellS (rv i) (runK s i).fresh)[d]? = some v → w.cell? ⟨ab, i * 3 + d, none⟩ = some v := fun d v hv => by
    have := h.own.cells (g := ab) rfl _ v (cellsS_at hi d v hv)
    rwa [Addr.add_lit, Nat.zero_add] at this
  have h0 := hc 0 _ rfl
  rw [Nat.add_zero] at h0
  exact ⟨h0, hc 1 _ rfl, hc 2 _ rfl⟩
/-- A stack more. -/
theorem AllS.next {w w2 X w' : World} {base ab acap c g2 c2 : Nat} {s : ByteArray} {rv : Nat → RV} (h : AllS w base ab acap c s rv) (hb : Below w.heap.size w w2) (hX : Below w2.heap.size w2 X) (r : RV) (hR : Rv w2 (runK s c).st r.S r.g r.n r.cap) (hr : base ≤ r.g) (hra : r.g ≠ ab) (hgr : X.grownBy w' (some ab))
    (hown : w'.ownsRow base 48 3 (.slice (some ⟨g2, 0, none⟩) (c + 1) c2) (c + 1) (cellsS s rv c ++ cellS r (runK s c).fresh)) (hg : g2 = ab ∨ w2.heap.size ≤ g2) :
    AllS w' base g2 c2 (c + 1) s (fun i => if i = c then r else rv i) := by
  have hF : ∀ {b : Nat}, b < w2.heap.size → b ≠ ab → w'.heap[b]? = w2.heap[b]? := fun {b} h1 h2 => (hgr.block b (Nat.lt_of_lt_of_le h1 hX.size) (by simpa using h2)).trans (hX.block b h1)
  have hFr : Frm (fun k => k = ab) w2 w' := (Frm.of_below hX (p := fun k => k = ab)).grown hgr (fun k hk => .inl (by simpa using hk.symm))
  have hab := h.lt
  refine ⟨?_, fun i hi => ?_⟩
  · rw [cellsS_succ, cellsS_congr (rv2 := rv) (fun i hi => if_neg (by omega))]
    simp only [if_true]
    exact hown
  · by_cases e : i = c
    · subst e
      simp only [if_true]
      refine ⟨hR.frm hFr hra, hr, ?_⟩
      rcases hg with rfl | hg
      · exact hra
      · have := hR.lt; omega
    · simp only [if_neg e]
      obtain ⟨h1, h2, h3⟩ := h.rows i (by omega)
      have h4 := h1.below hb
      refine ⟨h4.frm hFr h3, h2, ?_⟩
      rcases hg with rfl | hg
      · exact h3
      · have := h4.lt; omega

/-- A stack appended to a row of stacks, as a step of a region that draws. -/
theorem step_app_state {ops : Array Oper} {o : Oper} {a : Act} {w : World} {K : Act → World → Prop} {Q : Exit → Act → World → Prop} {E : Prop} (hgd : o.guard = none) (s x : Operand)
    (ho : o.op = .call { callee := .builtin .append, args := #[s, x], argTypes := #[50, 50] })
    (base : Nat) (v0 : Value) (n0 : Nat) (xs0 : List Value) (hs : a.eval s = v0) (hown : w.ownsRow base 48 3 v0 n0 xs0) (b : Nat) (r : RV) (fr : Bool)
    (hx : a.eval x = .slice (some ⟨b, 0, none⟩) 1 1) (hb : Blk w b (cellS r fr).toArray 48) (hl : n0 ≤ 1000000) (hbase : base ≤ w.heap.size)
    (h : ∀ g' c' w', w'.ownsRow base 48 3 (.slice (some ⟨g', 0, none⟩) (n0 + 1) c') (n0 + 1) (xs0 ++ cellS r fr) → w.grownBy w' v0.ownBlock → (v0.ownBlock = some g' ∨ g' = w.heap.size) → K (a.put o.dst (.slice (some ⟨g', 0, none⟩) (n0 + 1) c')) w') :
    if Region.wanted o (yielded ops a.tmps) = true then Oper.wp Try.prog o a w K Q else E := by
  have hw : Region.wanted o (yielded ops a.tmps) = true := by simp [Region.wanted, hgd]
  rw [if_pos hw]
  obtain ⟨i, hi, hz, hsize, hby⟩ := info_parts infoSt
  have hnews : ∀ j u, (cellS r fr)[j]? = some u → w.cell? ((⟨b, 0, none⟩ : Addr).add j) = some u := by
    intro j u hj
    rw [Addr.add_lit, hb.cell, Nat.zero_add]
    simpa using hj
  obtain ⟨v', w', hr', h2, h3, h4, h5⟩ := run_append_own_at (P := Try.prog) w base 50 o.type 48 i _ 3 48 Try.underlying50 hi hz hsize hby rfl (by omega) _ n0 xs0 hown ⟨b, 0, none⟩ 1 1 (cellS r fr) rfl hnews
    (by intro u hu; simp [cellS] at hu; rcases hu with rfl | rfl | rfl <;> rfl) (by unfold maxLen; omega) (by omega) hbase
  unfold Oper.wp execOp
  simp only [ho, resolve, invoke, builtin, Sem.run_bind, Sem.run_pure, Result.andThen_ok, List.map_toArray, List.map_cons, List.map_nil, hs, hx, hr']
  rcases h2.2 with ⟨hv, hn⟩ | ⟨g', c', cur, hv, h6⟩
  · omega
  · subst hv
    refine h g' c' w' h2 h3 ?_
    rcases h5 with h5 | h5
    · exact .inl h5.symm
    · exact .inr (by simpa [Value.ownBlock] using h5)
end Go.Proofs.Ytholjhdjlhkocaa

/- The row of all stacks of the document's own parts in memory; a call as a step of a region that draws. Condition: texts of at most 60,000 bytes.
What Of of the document's own parts returns: the parts of a text. Condition: texts of at most 60,000 bytes.
A row of parts as it is read, when two parts are the same, and what stands in the row of a text's parts: plain facts. Condition: texts of at most 60,000 bytes. -/
import Derived.Test.YtgfkbfojeohlkaaGreatDoorPtG
import Derived.Test.YtgfkbfojeohlkaaGreatDoorPtF
import Derived.Deep.CutRange
import Derived.Deep.DeepCutAuto
import Derived.Deep.CutBlock
namespace Go.Proofs.YtgfkbfojeohlkaaGreatDoor
open Go.RowKit
set_option linter.unusedVariables false

theorem call_enter {f : FuncId} {fn : Func} (hf : Tryz.prog.funcs[f]? = some fn) (hname : (fn.name == "runtime.NumGoroutine") = false) (hb : fn.body.isSome = true) (args : Array Value) (w : World) : (callFunc f args).run Tryz.prog w = .ok (.enter f args) w := by
  have h1 : fn.name ≠ "runtime.NumGoroutine" := by simpa using hname
  obtain ⟨c, hc⟩ := Option.isSome_iff_exists.1 hb
  simp [callFunc, hf, h1, hc]
theorem step_call {ops : Array Oper} {o : Oper} {a : Act} {w : World} {K : Act → World → Prop} {Q : Exit → Act → World → Prop} {E : Prop} (hgd : o.guard = none) {f : FuncId} {fn : Func} (hf : Tryz.prog.funcs[f]? = some fn) (hname : (fn.name == "runtime.NumGoroutine") = false) (hb : fn.body.isSome = true) (args : List Operand) (tys : Array TypeId)
    (ho : o.op = .call { callee := .value (.func f), args := args.toArray, argTypes := tys }) (vs : List Value) (hv : args.map a.eval = vs) (R : Value → World → Prop)
    (hc : Calls Tryz.prog f vs.toArray w fun e w' => ∃ v, e = .returned v ∧ R v w') (h : ∀ v w', R v w' → K (a.put o.dst v) w') :
    if Region.wanted o (yielded ops a.tmps) = true then Oper.wp Tryz.prog o a w K Q else E := by
  have hw : Region.wanted o (yielded ops a.tmps) = true := by simp [Region.wanted, hgd]
  rw [if_pos hw]
  have e1 : a.eval (.func f) = .func (.func f) #[] #[] := rfl
  unfold Oper.wp execOp
  simp only [ho, resolve, List.map_toArray, hv, e1, Deferred.ofValue, invoke, Sem.run_bind, Sem.run_pure, Result.andThen_ok, Array.empty_append, Array.append_empty, call_enter hf hname hb]
  rw [Oper.upon_enter]
  refine hc.mono ?_
  rintro e w' ⟨v, rfl, hr⟩
  exact h v w' hr

theorem infoSt : (Tryz.prog.info? 117).map (fun i => (i.zero, i.size, i.bytes)) = some (some (.agg #[.string ⟨#[]⟩, .slice none 0 0, .bool false]), 3, 48) := by kernel_rfl
structure RV where
  S : ByteArray
  g : Nat
  n : Nat
  cap : Nat
def cellS (r : RV) (fr : Bool) : List Value := [.string r.S, .slice (some ⟨r.g, 0, none⟩) r.n r.cap, .bool fr]
def cellsS (s : ByteArray) (rv : Nat → RV) (c : Nat) : List Value := (List.range c).flatMap fun i => cellS (rv i) (runK s i).fresh
theorem cellsS_succ (s : ByteArray) (rv : Nat → RV) (c : Nat) : cellsS s rv (c + 1) = cellsS s rv c ++ cellS (rv c) (runK s c).fresh := by
  unfold cellsS
  rw [List.range_succ, List.flatMap_append]
  simp
theorem cellsS_length (s : ByteArray) (rv : Nat → RV) : ∀ c, (cellsS s rv c).length = c * 3
  | 0 => rfl
  | c + 1 => by
    rw [cellsS_succ, List.length_append, cellsS_length s rv c]
    simp [cellS]
    omega
theorem cellsS_congr {s : ByteArray} {rv rv2 : Nat → RV} {c : Nat} (h : ∀ i, i < c → rv i = rv2 i) : cellsS s rv c = cellsS s rv2 c := by
  induction c with
  | zero => rfl
  | succ c ih => rw [cellsS_succ, cellsS_succ, ih (fun i hi => h i (by omega)), h c (by omega)]
theorem cellsS_at {s : ByteArray} {rv : Nat → RV} : ∀ {c i : Nat}, i < c → ∀ d v, (cellS (rv i) (runK s i).fresh)[d]? = some v → (cellsS s rv c)[i * 3 + d]? = some v
  | 0, i, h, _, _, _ => by omega
  | c + 1, i, h, d, v, hv => by
    have hd : d < 3 := (List.getElem?_eq_some_iff.1 hv).1
    rw [cellsS_succ]
    by_cases e : i = c
    · subst e
      rw [List.getElem?_append_right (by rw [cellsS_length]; omega), cellsS_length, show i * 3 + d - i * 3 = d by omega]
      exact hv
    · rw [List.getElem?_append_left (by rw [cellsS_length]; omega)]
      exact cellsS_at (by omega) d v hv
structure AllS (w : World) (base ab acap c : Nat) (s : ByteArray) (rv : Nat → RV) : Prop where
  own : w.ownsRow base 117 3 (.slice (some ⟨ab, 0, none⟩) c acap) c (cellsS s rv c)
  rows : ∀ i, i < c → Rv w (runK s i).st (rv i).S (rv i).g (rv i).n (rv i).cap ∧ base ≤ (rv i).g ∧ (rv i).g ≠ ab
theorem AllS.lt {w : World} {base ab acap c : Nat} {s : ByteArray} {rv : Nat → RV} (h : AllS w base ab acap c s rv) : ab < w.heap.size := own_lt h.own ab rfl
theorem AllS.ge {w : World} {base ab acap c : Nat} {s : ByteArray} {rv : Nat → RV} (h : AllS w base ab acap c s rv) : base ≤ ab := own_ge h.own ab rfl
theorem AllS.below {w w' : World} {base ab acap c : Nat} {s : ByteArray} {rv : Nat → RV} (h : AllS w base ab acap c s rv) (hb : Below w.heap.size w w') : AllS w' base ab acap c s rv :=
  ⟨own_below h.own hb, fun i hi => ⟨(h.rows i hi).1.below hb, (h.rows i hi).2⟩⟩
theorem AllS.cells {w : World} {base ab acap c : Nat} {s : ByteArray} {rv : Nat → RV} (h : AllS w base ab acap c s rv) {i : Nat} (hi : i < c) :
    w.cell? ⟨ab, i * 3, none⟩ = some (.string (rv i).S) ∧ w.cell? ⟨ab, i * 3 + 1, none⟩ = some (.slice (some ⟨(rv i).g, 0, none⟩) (rv i).n (rv i).cap) ∧ w.cell? ⟨ab, i * 3 + 2, none⟩ = some (.bool (runK s i).fresh) := by
  have hc : ∀ d v, (cellS (rv i) (runK s i).fresh)[d]? = some v → w.cell? ⟨ab, i * 3 + d, none⟩ = some v := fun d v hv => by
    have := h.own.cells (g := ab) rfl _ v (cellsS_at hi d v hv)
    rwa [Addr.add_lit, Nat.zero_add] at this
  have h0 := hc 0 _ rfl
  rw [Nat.add_zero] at h0
  exact ⟨h0, hc 1 _ rfl, hc 2 _ rfl⟩
theorem AllS.next {w w2 X w' : World} {base ab acap c g2 c2 : Nat} {s : ByteArray} {rv : Nat → RV} (h : AllS w base ab acap c s rv) (hb : Below w.heap.size w w2) (hX : Below w2.heap.size w2 X) (r : RV) (hR : Rv w2 (runK s c).st r.S r.g r.n r.cap) (hr : base ≤ r.g) (hra : r.g ≠ ab) (hgr : X.grownBy w' (some ab))
    (hown : w'.ownsRow base 117 3 (.slice (some ⟨g2, 0, none⟩) (c + 1) c2) (c + 1) (cellsS s rv c ++ cellS r (runK s c).fresh)) (hg : g2 = ab ∨ w2.heap.size ≤ g2) :
    AllS w' base g2 c2 (c + 1) s (fun i => if i = c then r else rv i) := by
  have hF : ∀ {b : Nat}, b < w2.heap.size → b ≠ ab → w'.heap[b]? = w2.heap[b]? := fun {b} h1 h2 => (hgr.block b (Nat.lt_of_lt_of_le h1 hX.size) (by simpa using h2)).trans (hX.block b h1)
  have hFr : Frm (fun k => k = ab) w2 w' := (Frm.of_below hX (p := fun k => k = ab)).grown hgr (fun k hk => .inl (by simpa using hk.symm))
  have hab := h.lt
  refine ⟨?_, fun i hi => ?_⟩
  · rw [cellsS_succ, cellsS_congr (rv2 := rv) (fun i hi => if_neg (by omega))]
    simp only [if_true]
    exact hown
  · by_cases e : i = c
    · subst e
      simp only [if_true]
      refine ⟨hR.frm hFr hra, hr, ?_⟩
      rcases hg with rfl | hg
      · exact hra
      · have := hR.lt; omega
    · simp only [if_neg e]
      obtain ⟨h1, h2, h3⟩ := h.rows i (by omega)
      have h4 := h1.below hb
      refine ⟨h4.frm hFr h3, h2, ?_⟩
      rcases hg with rfl | hg
      · exact h3
      · have := h4.lt; omega

theorem step_app_state {ops : Array Oper} {o : Oper} {a : Act} {w : World} {K : Act → World → Prop} {Q : Exit → Act → World → Prop} {E : Prop} (hgd : o.guard = none) (s x : Operand)
    (ho : o.op = .call { callee := .builtin .append, args := #[s, x], argTypes := #[191, 191] })
    (base : Nat) (v0 : Value) (n0 : Nat) (xs0 : List Value) (hs : a.eval s = v0) (hown : w.ownsRow base 117 3 v0 n0 xs0) (b : Nat) (r : RV) (fr : Bool)
    (hx : a.eval x = .slice (some ⟨b, 0, none⟩) 1 1) (hb : Blk w b (cellS r fr).toArray 117) (hl : n0 ≤ 1000000) (hbase : base ≤ w.heap.size)
    (h : ∀ g' c' w', w'.ownsRow base 117 3 (.slice (some ⟨g', 0, none⟩) (n0 + 1) c') (n0 + 1) (xs0 ++ cellS r fr) → w.grownBy w' v0.ownBlock → (v0.ownBlock = some g' ∨ g' = w.heap.size) → K (a.put o.dst (.slice (some ⟨g', 0, none⟩) (n0 + 1) c')) w') :
    if Region.wanted o (yielded ops a.tmps) = true then Oper.wp Tryz.prog o a w K Q else E := by
  have hw : Region.wanted o (yielded ops a.tmps) = true := by simp [Region.wanted, hgd]
  rw [if_pos hw]
  obtain ⟨i, hi, hz, hsize, hby⟩ := info_parts infoSt
  have hnews : ∀ j u, (cellS r fr)[j]? = some u → w.cell? ((⟨b, 0, none⟩ : Addr).add j) = some u := by
    intro j u hj
    rw [Addr.add_lit, hb.cell, Nat.zero_add]
    simpa using hj
  obtain ⟨v', w', hr', h2, h3, h4, h5⟩ := run_append_own_at (P := Tryz.prog) w base 191 o.type 117 i _ 3 48 Tryz.underlying191 hi hz hsize hby rfl (by omega) _ n0 xs0 hown ⟨b, 0, none⟩ 1 1 (cellS r fr) rfl hnews
    (by intro u hu; simp [cellS] at hu; rcases hu with rfl | rfl | rfl <;> rfl) (by unfold maxLen; omega) (by omega) hbase
  unfold Oper.wp execOp
  simp only [ho, resolve, invoke, builtin, Sem.run_bind, Sem.run_pure, Result.andThen_ok, List.map_toArray, List.map_cons, List.map_nil, hs, hx, hr']
  rcases h2.2 with ⟨hv, hn⟩ | ⟨g', c', cur, hv, h6⟩
  · omega
  · subst hv
    refine h g' c' w' h2 h3 ?_
    rcases h5 with h5 | h5
    · exact .inl h5.symm
    · exact .inr (by simpa [Value.ownBlock] using h5)
end Go.Proofs.YtgfkbfojeohlkaaGreatDoor
namespace Go.Proofs.YtgfkbfojeohlkaaGreatDoor
open Go.RowKit
set_option linter.unusedVariables false

def PLf (s : ByteArray) (f : Nat) : List Prt := (bornL s f).map (prt s)
theorem PLf_len (s : ByteArray) (f : Nat) : (PLf s f).length = idx s f := by unfold PLf idx; simp
theorem PLf_succ (s : ByteArray) (f : Nat) : PLf s (f + 1) = PLf s f ++ if born s f = true then [prt s f] else [] := by
  unfold PLf
  rw [bornL_succ, List.map_append]
  congr 1
  split <;> rfl
theorem prt_frm (s : ByteArray) (f : Nat) : (prt s f).frm = f := by
  unfold prt
  split
  · rw [(closeP_frm _ _ _ _).1, (prtK_frm _ _ _).1]
  · exact (prtK_frm _ _ _).1
theorem prt_eq {s : ByteArray} {f : Nat} (hb : born s f = true) (hf : f < s.size) : prt s f = if cnt (md s (eK s f s.size) f) = 12 then ⟨12, f, f + 1 + paramN s (f + 1), upI s f, false⟩ else ⟨cnt (md s (eK s f s.size) f), f, if eK s f s.size = s.size then s.size else eK s f s.size + 1, upI s f, decide (eK s f s.size = s.size)⟩ := by
  unfold prt
  by_cases h : eK s f s.size = s.size
  · have hp : pres s s.size f = true := by
      have := eK_pres (s := s) (f := f) (k := s.size) (j := s.size) hf
      exact this (by omega)
    rw [if_pos h, prtK_in hp, h]
    unfold closeP
    simp only [if_true, decide_true]
    split <;> simp [*]
  · rw [if_neg h]
    unfold prtK
    rw [if_neg h]
    unfold closeP
    simp only [if_neg h, decide_eq_false h]
    split <;> simp [*]
theorem eK_born {s : ByteArray} {f : Nat} (hb : born s f = true) (hf : f < s.size) : f + 1 ≤ eK s f s.size := by
  apply Classical.byContradiction
  intro g
  have h1 : eK s f s.size = f := by unfold eK at g ⊢; omega
  have h2 := eK_stop (s := s) (f := f) (k := s.size) (by omega) (by omega)
  rw [h1] at h2
  unfold born at hb
  rw [hb] at h2
  cases h2
def upK (s : ByteArray) (f k : Nat) : Int := match blw s f with
  | [] => -1
  | x :: _ => if idx s x.2 < k then (idx s x.2 : Nat) else -1
theorem upK_zero (s : ByteArray) (f : Nat) : upK s f 0 = -1 := by unfold upK; split <;> simp
theorem blw_born {s : ByteArray} {f : Nat} (hb : born s f = true) {m g : Nat} {R : List Fr} (h : blw s f = (m, g) :: R) : born s g = true ∧ g < f := by
  have h1 := born_split hb
  have hp : pres s (f + 1) g = true := pres_at (A := [(md s (f + 1) f, f)]) (R := R) (m := m) (by rw [h1, h]; rfl)
  refine ⟨pres_born hp, ?_⟩
  have h2 := nt_pw s (f + 1)
  rw [h1, h, List.pairwise_cons] at h2
  exact h2.1 (m, g) (by simp)
theorem upK_end {s : ByteArray} {f : Nat} (hb : born s f = true) : upK s f (idx s f) = upI s f := by
  unfold upK upI
  cases h : blw s f with
  | nil => rfl
  | cons x R =>
    obtain ⟨hg, hlt⟩ := blw_born (m := x.1) (g := x.2) (R := R) hb h
    simp only
    rw [if_pos (idx_mono hg hlt)]
theorem below_at {s : ByteArray} {f : Nat} (hb : born s f = true) {m g : Nat} {R : List Fr} (h : blw s f = (m, g) :: R) : (runK s (f + 1)).st.reverse[R.length + 1]? = some (m, g) := by
  rw [st_rev, born_split hb, h]
  simp
theorem upK_succ {s : ByteArray} {f k : Nat} {m g : Nat} {R : List Fr} (h : blw s f = (m, g) :: R) : upK s f (k + 1) = if idx s g = k then ((k : Nat) : Int) else upK s f k := by
  unfold upK
  rw [h]
  simp only
  by_cases e : idx s g = k
  · subst e
    simp
  · rw [if_neg e]
    by_cases h2 : idx s g < k
    · rw [if_pos h2, if_pos (by omega)]
    · rw [if_neg h2, if_neg (by omega)]
theorem upK_nil {s : ByteArray} {f k : Nat} (h : blw s f = []) : upK s f k = -1 := by unfold upK; rw [h]

def AlRl (s : ByteArray) (w : World) (v3 v4 : Value) (wr : World) : Prop :=
  ∃ i ab acap rv, i ≤ s.size ∧ v4 = .int .i64 (i : Nat) ∧ v3 = .slice (some ⟨ab, 0, none⟩) (i + 1) acap ∧ AllS wr w.heap.size ab acap (i + 1) s rv ∧ Below w.heap.size w wr

theorem wpList_app_part {ops : Array Oper} {rest : List Oper} {o : Oper} {a : Act} {w : World} {Q : Exit → Act → World → Prop} (hgd : o.guard = none) (s x : Operand)
    (ho : o.op = .call { callee := .builtin .append, args := #[s, x], argTypes := #[149, 149] })
    (base : Nat) (v0 : Value) (n0 : Nat) (xs0 : List Value) (hs : a.eval s = v0) (hown : w.ownsRow base 152 5 v0 n0 xs0) (b : Nat) (p : Prt)
    (hx : a.eval x = .slice (some ⟨b, 0, none⟩) 1 1) (hb : Blk w b (cellP p).toArray 152) (hl : n0 ≤ 1000000) (hbase : base ≤ w.heap.size)
    (h : ∀ g' c' w', w'.ownsRow base 152 5 (.slice (some ⟨g', 0, none⟩) (n0 + 1) c') (n0 + 1) (xs0 ++ cellP p) → w.grownBy w' v0.ownBlock → wpList Tryz.prog ops Q rest (a.put o.dst (.slice (some ⟨g', 0, none⟩) (n0 + 1) c')) w') : wpList Tryz.prog ops Q (o :: rest) a w := by
  refine wpList_plain hgd fun _ hK => ?_
  obtain ⟨i, hi, hz, hsize, hby⟩ := info_parts infoP
  have hnews : ∀ j u, (cellP p)[j]? = some u → w.cell? ((⟨b, 0, none⟩ : Addr).add j) = some u := by
    intro j u hj
    rw [Addr.add_lit, hb.cell, Nat.zero_add]
    simpa using hj
  obtain ⟨v', w', hr', h2, h3, h4, h5⟩ := run_append_own_at (P := Tryz.prog) w base 149 o.type 152 i _ 5 40 Tryz.underlying149 hi hz hsize hby rfl (by omega) v0 n0 xs0 hown ⟨b, 0, none⟩ 1 1 (cellP p) rfl hnews
    (by intro u hu; simp [cellP] at hu; rcases hu with rfl | rfl | rfl | rfl | rfl <;> rfl) (by unfold maxLen; omega) (by omega) hbase
  unfold Oper.wp execOp
  simp only [ho, resolve, invoke, builtin, Sem.run_bind, Sem.run_pure, Result.andThen_ok, List.map_toArray, List.map_cons, List.map_nil, hs, hx, hr']
  rcases h2.2 with ⟨hv, hn⟩ | ⟨g', c', cur, hv, h6⟩
  · omega
  · subst hv
    exact hK _ _ (h g' c' w' h2 h3)

theorem nameN_end (s : ByteArray) : nameN s s.size = 0 := by have := nameN_le s s.size; omega
theorem paramN_end (s : ByteArray) : paramN s s.size = 0 := by
  unfold paramN
  rw [nameN_end, if_neg (by omega), if_neg (by omega)]
set_option maxHeartbeats 1000000 in
theorem refparam_le (s : ByteArray) (k N : Nat) (w : World) (hs : s.size ≤ 1000000) (hk : k ≤ s.size) (hN : Hid (paramN s k = N)) :
    Calls Tryz.prog 131 #[.string s, .int .i64 (k : Int)] w fun e w' => e = .returned (.int .i64 (N : Int)) ∧ w' = w := by
  rw [← hN.out]
  by_cases h : k < s.size
  · exact refparam_any s k w hs h
  · obtain rfl : k = s.size := by omega
    rw [paramN_end]
    have hd2 : decide (s.size < s.size) = false := by simp
    have hn := fun w => refname_any s s.size w hs (Nat.le_refl _)
    rw [nameN_end] at hn
    have HN := Lib.hid hn
    clear hn hN h
    go_enter Tryz.func131, Tryz.ntmps131
    go_wp2_with fail
    refine (HN.out _).mono ?_
    rintro e w' ⟨rfl, rfl⟩
    go_wp2
    go_ret
    exact ⟨rfl, rfl⟩
def PBlk (w : World) (pb : Nat) (m f t : Nat) (up : Int) (op : Bool) : Prop := Blk w pb #[.int .i64 (m : Int), .int .i64 (f : Int), .int .i64 (t : Int), .int .i64 up, .bool op] 152
def UpRl (s : ByteArray) (w : World) (pb f on : Nat) (v9 : Value) (wr : World) : Prop :=
  ∃ k, v9 = .int .i64 (k : Nat) ∧ k ≤ on ∧ PBlk wr pb 0 f s.size (upK s f k) true ∧ Frm (fun b => b = pb) w wr
def EnRl (s : ByteArray) (w : World) (pb f : Nat) (up : Int) (v10 : Value) (wr : World) : Prop :=
  ∃ k m, v10 = .int .i64 (k : Nat) ∧ f + 1 ≤ k ∧ k ≤ s.size + 1 ∧ (∀ j, f < j → j < k → pres s j f = true) ∧ m = (if k = f + 1 then 0 else cnt (md s (k - 1) f)) ∧ PBlk wr pb m f s.size up true ∧ Frm (fun b => b = pb) w wr

def FrRl (s : ByteArray) (w : World) (v5 v6 : Value) (wr : World) : Prop :=
  ∃ f, f ≤ s.size ∧ v6 = .int .i64 (f : Nat) ∧ PtS wr w.heap.size v5 (PLf s f) ∧ Below w.heap.size w wr

section
variable (w : World)
set_option maxRecDepth 100000 in
set_option maxHeartbeats 4000000 in
theorem of_ref_any (s : ByteArray) (hs : s.size ≤ 60000) :
    Calls Tryz.prog 103 #[.string s] w fun e w' => (∃ v, e = .returned v ∧ PtS w' w.heap.size v (PL s)) ∧ Below w.heap.size w w' := by
  go_enter Tryz.func103, Tryz.ntmps103
  go_wp2_with fail
  refine (rv_first _).mono ?_
  rintro e w1 ⟨S1, g1, n1, cap1, rfl, hR1, hb1, hg1⟩
  go_wp2
  go_loopw [3, 4] (fun v3 v4 wr => AlRl s w v3 v4 wr) (fun _ v _ => s.size - (intOf v).toNat)
  case atStart =>
    have hR2 := hR1.below ((Below.refl w1.heap.size w1).alloc (Nat.le_refl _) (.cells #[.string S1, .slice (some ⟨g1, 0, none⟩) n1 cap1, .bool true] 117))
    have hs1 := hb1.size
    have hlt := hR1.lt
    refine ⟨0, w1.heap.size, 1, fun _ => ⟨S1, g1, n1, cap1⟩, Nat.zero_le _, rfl, rfl, ⟨⟨rfl, .inr ⟨_, 1, _, rfl, hs1, Blk.new w1 _ _, Nat.le_refl _, by unfold maxLen; omega, rfl, rfl⟩⟩, fun i hi => ?_⟩, hb1.alloc hs1 _⟩
    obtain rfl : i = 0 := by omega
    exact ⟨hR2, by show w.heap.size ≤ g1; omega, by show g1 ≠ _; omega⟩
  case round =>
    obtain ⟨i, ab, acap, rv, hi, rfl, rfl, hA, hB⟩ := hrel
    clear hR1 hb1 hg1
    by_cases hlt : (i : Int) < s.size
    · have hlt' : i < s.size := by omega
      obtain ⟨d0, d1, d2⟩ := hA.cells (i := i) (by omega)
      obtain ⟨hRi, hgi, hni⟩ := hA.rows i (by omega)
      have hI := runK_inv s i
      have hlen := runK_len s i
      have hsucc := runK_succ s i
      obtain ⟨r, hr⟩ : ∃ r, rv i = r := ⟨_, rfl⟩
      rw [hr] at d0 d1 hRi hgi hni
      obtain ⟨S, g, n, cap⟩ := r
      simp only at d0 d1 hRi hgi hni
      have hby : (s[i].toNat : Int) = (by8 s i : Nat) := by unfold by8; rw [bt_eq hlt']
      have hstep := fun W (h : Below wr.heap.size wr W) => step_any W (by8 s i) i S g n cap (runK s i) hI (hRi.below h) (by omega)
      rw [← hsucc] at hstep
      obtain ⟨fr, hfr⟩ : ∃ fr, (runK s i).fresh = fr := ⟨_, rfl⟩
      rw [hfr] at d2 hstep
      obtain ⟨b, hb⟩ : ∃ b, by8 s i = b := ⟨_, rfl⟩
      rw [hb] at hby hstep
      obtain ⟨c, hc⟩ : ∃ c, i + 1 = c := ⟨_, rfl⟩
      rw [hc] at hA hstep ⊢
      have hstep2 := fun W (h : Below wr.heap.size wr W) => (hstep W h).mono (R' := fun e w' => ∃ v, e = .returned v ∧ ∃ S2 g2 n2 cap2, v = .agg #[.string S2, .slice (some ⟨g2, 0, none⟩) n2 cap2, .bool (runK s c).fresh] ∧ Rv w' (runK s c).st S2 g2 n2 cap2 ∧ Below W.heap.size W w' ∧ (g2 = g ∨ W.heap.size ≤ g2)) (by
        rintro e w' ⟨S2, g2, n2, cap2, rfl, h1, h2, h3⟩
        exact ⟨_, rfl, S2, g2, n2, cap2, rfl, h1, h2, h3⟩)
      have HST := Lib.hid hstep2
      have HA := Lib.hid hA
      have q0 : (0 : Int) ≤ (i : Int) := by omega
      have q1 : (i : Int) < (c : Int) := by omega
      have hcl : c ≤ 1000000 := by omega
      have hbs := hB.size
      have hal := hA.lt
      have hgeb := hA.ge
      obtain ⟨fc, hfc⟩ : ∃ fc, (runK s c).fresh = fc := ⟨_, rfl⟩
      have HFC := Lib.hid hfc
      rw [hfc] at HST
      have e1 : IntKind.i64.wrap ((i : Int) + 1) = (c : Int) := by rw [IntWalk.i64_in _ (by omega)]; omega
      have HCC := Lib.hid hc
      clear hstep hstep2 hA hI hsucc hb hr hfr hRi hc hfc
      go_wp2
      go_region_law (first
        | (refine step_call (by rfl) Tryz.func79 (by kernel_rfl) (by kernel_rfl) _ _ (by rfl) [.agg #[.string S, .slice (some ⟨g, 0, none⟩) n cap, .bool fr], .int .u8 (b : Int), .int .i64 (i : Int)] (by rfl) _ (HST.out _ (Below.refl _ _).drew) ?_; intro v w2 hh; obtain ⟨S2, g2, n2, cap2, hv, hR2, hb2, hg2⟩ := hh; subst hv; have hA2 := (HA.out.below (Below.refl _ _).drew).below hb2; have hB2 := hB.drew.trans (hb2.mono hbs))
        | (refine step_app_state (by rfl) _ _ (by rfl) w.heap.size (.slice (some ⟨ab, 0, none⟩) c acap) c (cellsS s rv c) (by rfl) (hA2.below ((Below.refl _ _).alloc (Nat.le_refl _) _)).own w2.heap.size ⟨S2, g2, n2, cap2⟩ fc (by rfl) (Blk.new w2 _ _) hcl (by have := hB2.size; rw [World.size_alloc]; omega) ?_; intro g3 c3 w3 hown hgr hg3))
      all_goals
        go_wp2
        go_roundw
        case rel =>
          have hg3' : g3 = ab ∨ w2.heap.size ≤ g3 := by
            rcases hg3 with h | h
            · exact .inl (by simpa [Value.ownBlock] using h.symm)
            · exact .inr (by rw [h, World.size_alloc]; omega)
          have hg2w : w.heap.size ≤ g2 := by
            rcases hg2 with h | h
            · rw [h]; exact hgi
            · exact Nat.le_trans hbs h
          have hg2a : g2 ≠ ab := by
            rcases hg2 with h | h
            · rw [h]; exact hni
            · have : wr.drew.heap.size = wr.heap.size := rfl
              omega
          have hN := hA2.next (w2 := w2) (X := w2.alloc (.cells (cellS ⟨S2, g2, n2, cap2⟩ fc).toArray 117)) (Below.refl _ _) ((Below.refl _ _).alloc (Nat.le_refl _) _) ⟨S2, g2, n2, cap2⟩ hR2 hg2w hg2a hgr (by rw [HFC.out]; exact hown) hg3'
          refine ⟨c, g3, c3, _, by have := HCC.out; omega, rfl, rfl, hN, ?_⟩
          exact ((hB2.alloc hB2.size _).grown hgr (by have := hB2.size; rw [World.size_alloc]; omega) (fun k hk => by
            have : ab = k := by simpa [Value.ownBlock] using hk
            omega))
        case measure => have := HCC.out; simp [intOf]; omega
    · obtain rfl : i = s.size := by omega
      obtain ⟨W1, rfl⟩ : ∃ W1, W1 = wr := ⟨wr, rfl⟩
      obtain ⟨c, hc⟩ : ∃ c, s.size + 1 = c := ⟨_, rfl⟩
      rw [hc] at hA ⊢
      have HA := Lib.hid hA
      have HB := Lib.hid hB
      have HCC := Lib.hid hc
      clear hA hB hc hlt
      go_wp2
      go_loopw [5, 6] (fun v5 v6 wr => FrRl s W1 v5 v6 wr) (fun _ v _ => s.size - (intOf v).toNat)
      case atStart => exact ⟨0, Nat.zero_le _, rfl, ⟨rfl, .inl ⟨rfl, rfl⟩⟩, Below.refl _ _⟩
      case round =>
        obtain ⟨f, hf, rfl, hP, hB⟩ := hrel
        obtain ⟨oa, oc, rfl⟩ := owns_slice hP
        by_cases hlt : (f : Int) < s.size
        · have hlt' : f < s.size := by omega
          obtain ⟨f1, hf1⟩ : ∃ f1, f + 1 = f1 := ⟨_, rfl⟩
          have hf1c : f1 < c := by have := HCC.out; omega
          have hAr := HA.out.below (hB.mono (Nat.le_refl _))
          obtain ⟨d0, d1, d2⟩ := hAr.cells hf1c
          obtain ⟨hRf, hgf, hnf⟩ := hAr.rows f1 hf1c
          obtain ⟨r, hr⟩ : ∃ r, rv f1 = r := ⟨_, rfl⟩
          rw [hr] at d0 d1 hRf hgf hnf
          obtain ⟨S, g, n, cap⟩ := r
          simp only at d0 d1 hRf hgf hnf
          have hlen := runK_len s f1
          obtain ⟨fr, hfr⟩ : ∃ fr, (runK s f1).fresh = fr := ⟨_, rfl⟩
          rw [hfr] at d2
          have HATI := Lib.hid (fun x => atI_at s x f)
          have HAT := Lib.hid (fun W r (h : Below wr.heap.size wr W) (hr : atI s f1 f = r) => at_any W (runK s f1).st S g n cap fr f r (hRf.below h) (by omega) (Lib.hid (by rw [← hr]; exact HATI.out f1)))
          have e1 : IntKind.i64.wrap ((f : Int) + 1) = (f1 : Int) := by rw [IntWalk.i64_in _ (by omega)]; omega
          have q0 : (0 : Int) ≤ (f1 : Int) := by omega
          have q1 : (f1 : Int) < (c : Int) := by omega
          obtain ⟨on, hon⟩ : ∃ on, (PLf s f).length = on := ⟨_, rfl⟩
          have HON := Lib.hid hon
          rw [hon] at hP ⊢
          have HP := Lib.hid hP
          have HR := Lib.hid hRf
          have HRV := Lib.hid hr
          have HF1 := Lib.hid hf1
          have hmono := hB.size
          by_cases hb : born s f = true
          · have hpr : pres s f1 f = true := by rw [← hf1]; exact hb
            have hat : atI s f1 f = (blw s f).length + 1 := by unfold atI; rw [if_pos hpr]
            obtain ⟨z, hz⟩ : ∃ z, atI s f1 f = z := ⟨_, rfl⟩
            have hzp : z = (blw s f).length + 1 := by omega
            have hzb : z ≤ 100000 := by
              have h1 := born_split (show pres s (f + 1) f = true from hb)
              have h2 := nt_len s (f + 1)
              rw [h1] at h2
              simp at h2
              omega
            have t0 : ((z : Int) == 0) = false := beq_eq_false_iff_ne.2 (by omega)
            have HZ := Lib.hid hz
            have HZP := Lib.hid hzp
            have HBN := Lib.hid hb
            have HPR := Lib.hid hpr
            clear hP hRf hr hf1 hon hb hat hz hzp hpr hfr
            go_wp2_with fail
            refine (HAT.out _ z (Below.refl _ _) HZ.out).mono ?_
            rintro e w2 ⟨rfl, hb2⟩
            go_wp2
            obtain ⟨W2, hW2⟩ : ∃ W2, W2 = w2.alloc (.cells #[.int .i64 0, .int .i64 (f : Int), .int .i64 (s.size : Int), .int .i64 (-1), .bool true] 152) := ⟨_, rfl⟩
            have hp2 : PBlk W2 w2.heap.size 0 f s.size (upK s f 0) true := by rw [hW2, upK_zero]; exact Blk.new _ _ _
            have hBr2 : Below wr.heap.size wr W2 := by rw [hW2]; exact hb2.alloc hb2.size _
            rw [← hW2]
            have hpbw : wr.heap.size ≤ w2.heap.size := hb2.size
            obtain ⟨pb, hpb⟩ : ∃ pb, w2.heap.size = pb := ⟨_, rfl⟩
            rw [hpb] at hp2 hpbw ⊢
            obtain ⟨V, hV⟩ : ∃ V, V = wr := ⟨_, rfl⟩
            rw [← hV] at hBr2 hpbw HP HR hB hmono
            have hVlt : V.heap.size ≤ pb := hpbw
            have honl : on ≤ 60000 := by
              have h1 := HON.out
              have h2 := bornL_len s f
              rw [PLf_len] at h1
              unfold idx at h1
              omega
            have hAV : AllS V w.heap.size ab acap c s rv := by rw [hV]; exact hAr
            have hPV := HP.out
            clear hW2 hpb hV hb2 HAT d0 d1 d2 hAr
            -- what is read stays, whatever becomes of the part's block
            have hkeep : ∀ X, Frm (fun b => b = pb) W2 X → Frm (fun b => b = pb) V X := fun X h => (Frm.of_below hBr2 (p := fun b => b = pb)).trans h (fun _ _ h => h)
            have hAX : ∀ X, Frm (fun b => b = pb) V X → ∀ i, i < c → X.cell? ⟨ab, i * 3, none⟩ = some (.string (rv i).S) ∧ X.cell? ⟨ab, i * 3 + 1, none⟩ = some (.slice (some ⟨(rv i).g, 0, none⟩) (rv i).n (rv i).cap) ∧ X.cell? ⟨ab, i * 3 + 2, none⟩ = some (.bool (runK s i).fresh) ∧ Rv X (runK s i).st (rv i).S (rv i).g (rv i).n (rv i).cap := by
              intro X hX i hi
              have hl := hAV.lt
              obtain ⟨h0, h1, h2⟩ := hAV.cells hi
              obtain ⟨h3, _, _⟩ := hAV.rows i hi
              have hl3 := h3.lt
              have hne : ¬ (ab = pb) := by omega
              exact ⟨(hX.cell hl hne).trans h0, (hX.cell hl hne).trans h1, (hX.cell hl hne).trans h2, h3.frm hX (by omega)⟩
            have hPX : ∀ X, Frm (fun b => b = pb) V X → X.ownsRow W1.heap.size 152 5 (.slice oa on oc) on (cellsP (PLf s f)) := by
              intro X hX
              have h1 : V.ownsRow W1.heap.size 152 5 (.slice oa on oc) on (cellsP (PLf s f)) := by
                have := hPV
                unfold PtS at this
                rw [HON.out] at this
                exact this
              exact own_frm hX h1 (fun k hk e => by
                have := own_lt h1 k hk
                have e2 : k = pb := e
                omega)
            have HKEEP := Lib.hid hkeep
            have HAX := Lib.hid hAX
            have HPX := Lib.hid hPX
            have HBR2 := Lib.hid hBr2
            have HAV := Lib.hid hAV
            clear hkeep hAX hPX hBr2 hAV hPV HP
            go_loopw [9] (fun v9 wr => UpRl s W2 pb f on v9 wr) (fun v _ => on - (intOf v).toNat)
            case atStart => exact ⟨0, rfl, Nat.zero_le _, hp2, Frm.refl _ _⟩
            case round =>
              obtain ⟨k, rfl, hk, hpk, hFk⟩ := hrel
              clear hp2
              by_cases hlt3 : (k : Int) < (on : Int)
              · have hkn : k < on := by omega
                have q5 : (0 : Int) ≤ (k : Int) := by omega
                have p3 : wr.cell? ⟨pb, 3, none⟩ = some (.int .i64 (upK s f k)) := hpk.cell 3
                have pf3 := Blk.frozen hpk 3
                cases hbl : blw s f with
                | nil =>
                  have hz1 : z = 1 := by have := HZP.out; rw [hbl] at this; exact this
                  subst hz1
                  have HUP := Lib.hid (show upK s f (k + 1) = upK s f k by rw [upK_nil hbl, upK_nil hbl])
                  clear hbl
                  go_wp2
                  go_quiet (fail)
                  go_wp2
                  go_roundw
                  case rel => exact ⟨k + 1, by go_num, by omega, by rw [HUP.out]; exact hpk.drewN _, hFk.drewN _⟩
                  case measure => simp [intOf]; omega
                | cons x R =>
                  obtain ⟨m2, g2⟩ := x
                  have hzz : z = R.length + 2 := by have := HZP.out; rw [hbl] at this; exact this
                  obtain ⟨x0, x1, x2, x3⟩ := HAX.out wr (HKEEP.out wr hFk) f1 hf1c
                  rw [HRV.out] at x1 x3
                  simp only at x1 x3
                  have hba := below_at HBN.out hbl
                  rw [HF1.out] at hba
                  have x4 := x3.p.cell hba
                  simp only at x4
                  have hRn : R.length + 1 < n := by
                    have h1 := (List.getElem?_eq_some_iff.1 hba).1
                    have h2 := x3.n
                    simp at h1
                    omega
                  -- the k-th part
                  obtain ⟨fk, hfk⟩ : ∃ fk, (bornL s f)[k]? = some fk := ⟨_, List.getElem?_eq_getElem (by have := HON.out; rw [PLf_len] at this; unfold idx at this; omega)⟩
                  obtain ⟨hik, hfkl, hfb⟩ := idx_get hfk
                  have hPk : (PLf s f)[k]? = some (prt s fk) := by unfold PLf; rw [List.getElem?_map, hfk]; rfl
                  have hpx := HPX.out wr (HKEEP.out wr hFk)
                  obtain ⟨ob, ocap, hov, _, _, _, _⟩ := owns_nil hpx (by omega)
                  obtain ⟨rfl, rfl⟩ : oa = some ⟨ob, 0, none⟩ ∧ oc = ocap := by simpa using hov
                  clear hov
                  have x5 : wr.cell? ⟨ob, k * 5 + 1, none⟩ = some (.int .i64 (fk : Int)) := by
                    have := hpx.cells (g := ob) rfl (k * 5 + 1) _ (cellsP_at hPk 1 _ rfl)
                    rw [Addr.add_lit, Nat.zero_add, prt_frm] at this
                    exact this
                  have hup := upK_succ (s := s) (f := f) (k := k) hbl
                  obtain ⟨hgb, hgl⟩ := blw_born HBN.out hbl
                  have hiff : fk = g2 ↔ idx s g2 = k := by
                    constructor
                    · rintro rfl; exact hik
                    · intro h
                      have := bornL_get s g2 hgb hgl
                      rw [h, hfk] at this
                      simpa using this
                  obtain ⟨rr, hrr⟩ : ∃ rr, R.length + 1 = rr := ⟨_, rfl⟩
                  rw [hrr] at x4 hRn
                  have e2 : IntKind.i64.wrap ((z : Int) - 1) = (rr : Int) := by rw [IntWalk.i64_in _ (by omega)]; omega
                  have t5 : decide (1 < z) = true := by simp; omega
                  have t6 : (1 : Int) < (z : Int) := by omega
                  have q6 : (rr : Int) < (n : Int) := by omega
                  have q7 : (0 : Int) ≤ (rr : Int) := by omega
                  have HUP := Lib.hid hup
                  have HIFF := Lib.hid hiff
                  clear hbl hzz x0 x2 x3 hba hfk hik hfkl hfb hPk hpx hup hgb hgl hiff hrr
                  by_cases heq : fk = g2
                  · subst heq
                    go_wp2
                    go_quiet (fail)
                    go_wp2
                    go_roundw
                    case rel =>
                      refine ⟨k + 1, by go_num, by omega, ?_, (hFk.drewN _).put _ _⟩
                      rw [HUP.out, if_pos (by simpa using HIFF.out)]
                      have := (hpk.drewN nq).set 3 (.int .i64 ((k : Nat) : Int))
                      simpa [PBlk] using this
                    case measure => simp [intOf]; omega
                  · have t7 : ((fk : Int) == (g2 : Int)) = false := beq_eq_false_iff_ne.2 (by omega)
                    have HNE := Lib.hid heq
                    clear heq
                    go_wp2
                    go_quiet (fail)
                    go_wp2
                    go_roundw
                    case rel =>
                      refine ⟨k + 1, by go_num, by omega, ?_, hFk.drewN _⟩
                      rw [HUP.out, if_neg (fun h => HNE.out (HIFF.out.2 h))]
                      exact hpk.drewN _
                    case measure => simp [intOf]; omega
              · obtain rfl : on = k := by omega
                have hup : upK s f on = upI s f := by
                  have := HON.out
                  rw [PLf_len] at this
                  rw [← this, upK_end HBN.out]
                rw [hup] at hpk
                have HFK := Lib.hid (HKEEP.out wr hFk)
                obtain ⟨U, rfl⟩ : ∃ U, U = wr := ⟨wr, rfl⟩
                clear hup hFk hlt3
                obtain ⟨up, hupe⟩ : ∃ up, upI s f = up := ⟨_, rfl⟩
                rw [hupe] at hpk
                have HUPE := Lib.hid hupe
                clear hupe
                go_upto_block 6 with fail
                go_cut [10] from 80 to 104 (fun v10 wx => PBlk wx pb (cnt (md s (eK s f s.size) f)) f (if eK s f s.size = s.size then s.size else eK s f s.size + 1) up (decide (eK s f s.size = s.size)) ∧ Frm (fun b => b = pb) U wx)
                case first =>
                  go_wp2
                  go_loopw [10] (fun v10 wr => EnRl s U pb f up v10 wr) (fun v _ => s.size + 2 - (intOf v).toNat)
                  case atStart => exact ⟨f1, 0, rfl, by have := HF1.out; omega, by have := HF1.out; omega, fun j h1 h2 => by have := HF1.out; omega, by rw [if_pos HF1.out.symm], hpk, Frm.refl _ _⟩
                  case round =>
                    clear hpk
                    obtain ⟨k, m, rfl, hk1, hk2, hall, hm, hpk, hFk⟩ := hrel
                    by_cases hlt4 : (k : Int) ≤ s.size
                    · have hks : k ≤ s.size := by omega
                      have hkc : k < c := by have := HCC.out; omega
                      obtain ⟨x0, x1, x2, x3⟩ := HAX.out wr (HFK.out.trans hFk (fun _ _ h => h)) k hkc
                      have q5 : (0 : Int) ≤ (k : Int) := by omega
                      have q6 : (k : Int) < (c : Int) := by omega
                      have hlk := runK_len s k
                      obtain ⟨rk, hrk⟩ : ∃ rk, rv k = rk := ⟨_, rfl⟩
                      rw [hrk] at x0 x1 x3
                      obtain ⟨Sk, gk2, nk, capk⟩ := rk
                      simp only at x0 x1 x3
                      obtain ⟨frk, hfrk⟩ : ∃ frk, (runK s k).fresh = frk := ⟨_, rfl⟩
                      rw [hfrk] at x2
                      have HATK := Lib.hid (fun r (hr : atI s k f = r) => at_any wr (runK s k).st Sk gk2 nk capk frk f r x3 (by omega) (Lib.hid (by rw [← hr]; exact HATI.out k)))
                      have HALL := Lib.hid hall
                      have HM := Lib.hid hm
                      have HX3 := Lib.hid x3
                      cases hpr : pres s k f with
                      | false =>
                        have hz0 : atI s k f = 0 := atI_pos.2 hpr
                        have HZ0 := Lib.hid hz0
                        have HPF := Lib.hid hpr
                        clear hall hm x3 hz0 hpr hrk hfrk
                        go_wp2_with fail
                        refine (HATK.out 0 HZ0.out).mono ?_
                        rintro e w5 ⟨rfl, hb5⟩
                        have hp5 : PBlk w5 pb m f s.size up true := Blk.below hpk hb5
                        have y2 : w5.cell? ⟨pb, 2, none⟩ = some (.int .i64 (s.size : Int)) := hp5.cell 2
                        have y4 : w5.cell? ⟨pb, 4, none⟩ = some (.bool true) := hp5.cell 4
                        have yf2 := Blk.frozen hp5 2
                        have yf4 := Blk.frozen hp5 4
                        have hFU := (hFk.trans (Frm.of_below hb5 (p := fun _ => False)) (fun _ _ h => h.elim))
                        go_wp2
                        go_meet
                        case rel =>
                          have hp0 : pres s (f + 1) f = true := HBN.out
                          have hkf : k ≠ f + 1 := by rintro rfl; rw [HPF.out] at hp0; cases hp0
                          have he : eK s f s.size = k - 1 := eK_eq (by omega) (by omega) (fun j h1 h2 => HALL.out j h1 (by omega)) (fun _ => by rw [show k - 1 + 1 = k by omega]; exact HPF.out)
                          have hm2 : m = cnt (md s (k - 1) f) := by rw [HM.out, if_neg hkf]
                          rw [he, if_neg (by omega), show k - 1 + 1 = k by omega, show decide (k - 1 = s.size) = false by simp; omega, ← hm2]
                          refine ⟨?_, (hFU.put _ _).put _ _⟩
                          have := (Blk.set hp5 2 (.int .i64 ((k : Nat) : Int))).set 4 (.bool false)
                          simpa [PBlk] using this
                      | true =>
                        have hzk : atI s k f = z := by unfold atI; rw [if_pos hpr]; exact HZP.out.symm
                        have HZK := Lib.hid hzk
                        have hsa := st_at hpr
                        rw [← HZP.out] at hsa
                        have hzl : z < (runK s k).st.length := by have := (List.getElem?_eq_some_iff.1 hsa).1; simpa using this
                        have hSl := x3.size
                        have hzS : z < Sk.size := by omega
                        have hby : bt Sk z = ltB (md s k f) := by rw [x3.s]; exact ltS_bt hsa
                        obtain ⟨cb, hcb⟩ : ∃ cb, cb = (ltB (md s k f)).toNat := ⟨_, rfl⟩
                        have hby2 : (Sk[z].toNat : Int) = (cb : Int) := by rw [hcb, ← hby, bt_eq hzS]
                        have hzS2 : (z : Int) < Sk.size := by omega
                        have q7 : (0 : Int) ≤ (z : Int) := by omega
                        have HMO := Lib.hid (fun W => mode_ref_any W (md s k f) cb (md_le s k f) (Lib.hid hcb))
                        obtain ⟨mk, hmk⟩ : ∃ mk, cnt (md s k f) = mk := ⟨_, rfl⟩
                        rw [hmk] at HMO
                        have HMK := Lib.hid hmk
                        have HPT := Lib.hid hpr
                        have hkeep5 : ∀ W5, Below wr.heap.size wr W5 → W5.cell? ⟨ab, k * 3, none⟩ = some (.string Sk) ∧ PBlk W5 pb m f s.size up true := by
                          intro W5 h5
                          have hl := HAV.out.lt
                          have := HBR2.out.size
                          refine ⟨(h5.cell (p := ⟨ab, k * 3, none⟩) ?_).trans x0, Blk.below hpk h5⟩
                          have h1 := HFK.out.size
                          have h2 := hFk.size
                          show ab < wr.heap.size
                          omega
                        have HK5 := Lib.hid hkeep5
                        clear hall hm x3 hzk hsa hzl hSl hby hcb hmk hpr hkeep5 hrk hfrk
                        go_wp2_with fail
                        refine (HATK.out z HZK.out).mono ?_
                        rintro e w5 ⟨rfl, hb5⟩
                        obtain ⟨y0, hp5⟩ := HK5.out w5 hb5
                        have p0 : w5.cell? ⟨pb, 0, none⟩ = some (.int .i64 (m : Int)) := hp5.cell 0
                        have pf0 := Blk.frozen hp5 0
                        have hFU := (hFk.trans (Frm.of_below hb5 (p := fun _ => False)) (fun _ _ h => h.elim))
                        clear x0 x1 x2
                        go_wp2_with fail
                        refine (HMO.out _).mono ?_
                        rintro e w6 ⟨rfl, rfl⟩
                        go_wp2
                        go_roundw
                        case rel =>
                          refine ⟨k + 1, mk, by go_num, by omega, by omega, fun j h1 h2 => ?_, ?_, ?_, hFU.put _ _⟩
                          · by_cases e : j = k
                            · rw [e]; exact HPT.out
                            · exact HALL.out j h1 (by omega)
                          · rw [if_neg (by omega), Nat.add_sub_cancel, HMK.out]
                          · have := Blk.set hp5 0 (.int .i64 ((mk : Nat) : Int))
                            simpa [PBlk] using this
                        case measure => simp [intOf]; omega
                    · have hke : k = s.size + 1 := by omega
                      have HKE := Lib.hid hke
                      have HALL := Lib.hid hall
                      have HM := Lib.hid hm
                      clear hall hm hke
                      go_wp2
                      go_meet
                      case rel =>
                        have hke := HKE.out
                        have he : eK s f s.size = s.size := eK_eq (by omega) (Nat.le_refl _) (fun j h1 h2 => HALL.out j h1 (by omega)) (fun h => absurd h (Nat.lt_irrefl _))
                        have hm2 : m = cnt (md s s.size f) := by
                          have := HM.out
                          rw [if_neg (by omega)] at this
                          rw [this, show k - 1 = s.size by omega]
                        rw [he, if_pos rfl, ← hm2, decide_eq_true rfl]
                        exact ⟨hpk, hFk⟩
                case rest =>
                  obtain ⟨hpk2, hFc⟩ := hcut
                  clear hpk
                  have hPE := prt_eq HBN.out hlt'
                  rw [HUPE.out] at hPE
                  obtain ⟨M, hM⟩ : ∃ M, cnt (md s (eK s f s.size) f) = M := ⟨_, rfl⟩
                  obtain ⟨t, ht⟩ : ∃ t, (if eK s f s.size = s.size then s.size else eK s f s.size + 1) = t := ⟨_, rfl⟩
                  obtain ⟨op, hop⟩ : ∃ op, decide (eK s f s.size = s.size) = op := ⟨_, rfl⟩
                  rw [hM, ht, hop] at hPE
                  rw [hM, ht, hop] at hpk2
                  have hFV := HFK.out.trans hFc (fun _ _ h => h)
                  have HPE := Lib.hid hPE
                  have HFV := Lib.hid hFV
                  clear hPE hM ht hop hFc hFV
                  have p0 : wc.cell? ⟨pb, 0, none⟩ = some (.int .i64 (M : Int)) := hpk2.cell 0
                  by_cases hM12 : M = 12
                  · subst hM12
                    obtain ⟨N, hN⟩ : ∃ N, paramN s f1 = N := ⟨_, rfl⟩
                    have hfs : f1 ≤ s.size := by have := HF1.out; omega
                    have hNl : N ≤ 60000 := by have := paramN_le s f1 hfs; omega
                    obtain ⟨t2, ht2⟩ : ∃ t2, f1 + N = t2 := ⟨_, rfl⟩
                    have a2 : IntKind.i64.wrap ((f1 : Int) + (N : Int)) = (t2 : Int) := by rw [IntWalk.i64_in _ (by omega)]; omega
                    have HPA := Lib.hid (fun W => refparam_le s f1 N W (by omega) hfs (Lib.hid hN))
                    have hPE2 : prt s f = ⟨12, f, t2, up, false⟩ := by rw [HPE.out, if_pos rfl, HF1.out, hN, ht2]
                    replace HPE := Lib.hid hPE2
                    have p2 : wc.cell? ⟨pb, 2, none⟩ = some (.int .i64 (t : Int)) := hpk2.cell 2
                    have p4 : wc.cell? ⟨pb, 4, none⟩ = some (.bool op) := hpk2.cell 4
                    have pf2 := Blk.frozen hpk2 2
                    have pf4 := Blk.frozen hpk2 4
                    clear hN ht2 hPE2
                    go_upto_region 28 with (go_at_call 131; refine (HPA.out _).mono ?_; rintro e w6 ⟨rfl, rfl⟩)
                    obtain ⟨Z, hZ⟩ : ∃ Z, Z = (w6.setCell ⟨pb, 2, none⟩ (.int .i64 (t2 : Int))).setCell ⟨pb, 4, none⟩ (.bool false) := ⟨_, rfl⟩
                    have hZp : PBlk Z pb 12 f t2 up false := by
                      have := (Blk.set hpk2 2 (.int .i64 ((t2 : Nat) : Int))).set 4 (.bool false)
                      rw [hZ]
                      simpa [PBlk] using this
                    have hFZ : Frm (fun b => b = pb) V Z := by rw [hZ]; exact (HFV.out.put _ _).put _ _
                    rw [← hZ]
                    clear hZ p2 p4 pf2 pf4
                    have z0 : Z.cell? ⟨pb, 0, none⟩ = some (.int .i64 ((12 : Nat) : Int)) := hZp.cell 0
                    have z1 : Z.cell? ⟨pb, 1, none⟩ = some (.int .i64 (f : Int)) := hZp.cell 1
                    have z2 : Z.cell? ⟨pb, 2, none⟩ = some (.int .i64 (t2 : Int)) := hZp.cell 2
                    have z3 : Z.cell? ⟨pb, 3, none⟩ = some (.int .i64 up) := hZp.cell 3
                    have z4 : Z.cell? ⟨pb, 4, none⟩ = some (.bool false) := hZp.cell 4
                    have hown0 := HPX.out Z hFZ
                    have hBZ : Below W1.heap.size W1 Z := hB.trans (hFZ.below hB.size (fun k h => by
                      have e : k = pb := h
                      omega))
                    have HHB := Lib.hid (fun k (h : (Value.slice oa on oc).ownBlock = some k) => own_ge hown0 k h)
                    clear hZp p0 hpk2
                    go_wp2_with (at_builtin; refine wpList_app_part rfl _ _ rfl W1.heap.size (.slice oa on oc) on (cellsP (PLf s f)) rfl (own_frm ((Frm.refl (fun _ => False) Z).alloc _) hown0 (fun _ _ h => h)) Z.heap.size ⟨12, f, t2, up, false⟩ rfl (Blk.new Z _ _) (by omega) (by have := hBZ.size; rw [World.size_alloc]; omega) ?_; intro g3 c3 w7 hown7 hgr7)
                    go_roundw
                    case rel =>
                      refine ⟨f1, by have := HF1.out; omega, rfl, ?_, ?_⟩
                      · rw [← HF1.out, PLf_succ, if_pos HBN.out, HPE.out]
                        unfold PtS
                        rw [cellsP_append, List.length_append, HON.out]
                        have e : cellsP [(⟨12, f, t2, up, false⟩ : Prt)] = cellP ⟨12, f, t2, up, false⟩ := by simp [cellsP]
                        rw [e]
                        exact hown7
                      · exact (hBZ.alloc hBZ.size _).grown hgr7 (by have := hBZ.size; rw [World.size_alloc]; omega) (fun k hk => HHB.out k hk)
                    case measure => have := HF1.out; simp [intOf]; omega
                  · have t12 : ((M : Int) == 12) = false := beq_eq_false_iff_ne.2 (by omega)
                    have hPE2 : prt s f = ⟨M, f, t, up, op⟩ := by rw [HPE.out, if_neg hM12]
                    replace HPE := Lib.hid hPE2
                    clear hPE2 hM12
                    go_upto_region 28 with fail
                    obtain ⟨Z, rfl⟩ : ∃ Z, Z = wc := ⟨wc, rfl⟩
                    have hZp := hpk2
                    have hFZ := HFV.out
                    have z0 : Z.cell? ⟨pb, 0, none⟩ = some (.int .i64 (M : Int)) := hZp.cell 0
                    have z1 : Z.cell? ⟨pb, 1, none⟩ = some (.int .i64 (f : Int)) := hZp.cell 1
                    have z2 : Z.cell? ⟨pb, 2, none⟩ = some (.int .i64 (t : Int)) := hZp.cell 2
                    have z3 : Z.cell? ⟨pb, 3, none⟩ = some (.int .i64 up) := hZp.cell 3
                    have z4 : Z.cell? ⟨pb, 4, none⟩ = some (.bool op) := hZp.cell 4
                    have hown0 := HPX.out Z hFZ
                    have hBZ : Below W1.heap.size W1 Z := hB.trans (hFZ.below hB.size (fun k h => by
                      have e : k = pb := h
                      omega))
                    have HHB := Lib.hid (fun k (h : (Value.slice oa on oc).ownBlock = some k) => own_ge hown0 k h)
                    clear hZp p0 hpk2
                    go_wp2_with (at_builtin; refine wpList_app_part rfl _ _ rfl W1.heap.size (.slice oa on oc) on (cellsP (PLf s f)) rfl (own_frm ((Frm.refl (fun _ => False) Z).alloc _) hown0 (fun _ _ h => h)) Z.heap.size ⟨M, f, t, up, op⟩ rfl (Blk.new Z _ _) (by omega) (by have := hBZ.size; rw [World.size_alloc]; omega) ?_; intro g3 c3 w7 hown7 hgr7)
                    go_roundw
                    case rel =>
                      refine ⟨f1, by have := HF1.out; omega, rfl, ?_, ?_⟩
                      · rw [← HF1.out, PLf_succ, if_pos HBN.out, HPE.out]
                        unfold PtS
                        rw [cellsP_append, List.length_append, HON.out]
                        have e : cellsP [(⟨M, f, t, up, op⟩ : Prt)] = cellP ⟨M, f, t, up, op⟩ := by simp [cellsP]
                        rw [e]
                        exact hown7
                      · exact (hBZ.alloc hBZ.size _).grown hgr7 (by have := hBZ.size; rw [World.size_alloc]; omega) (fun k hk => HHB.out k hk)
                    case measure => have := HF1.out; simp [intOf]; omega
          · have hat : atI s f1 f = 0 := by rw [atI_pos, ← hf1]; simpa [born] using hb
            have HBN := Lib.hid hb
            have HAT0 := Lib.hid hat
            clear hP hRf hr hf1 hon hb hat hfr
            go_wp2_with fail
            refine (HAT.out _ 0 (Below.refl _ _) HAT0.out).mono ?_
            rintro e w2 ⟨rfl, hb2⟩
            go_wp2
            go_roundw
            case rel =>
              refine ⟨f1, by have := HF1.out; omega, rfl, ?_, hB.trans (hb2.mono hmono)⟩
              rw [← HF1.out, PLf_succ, if_neg HBN.out, List.append_nil]
              have h1 := own_below HP.out hb2
              exact h1
            case measure => have := HF1.out; simp [intOf]; omega
        · obtain rfl : f = s.size := by omega
          have HP := Lib.hid hP
          clear hP
          obtain ⟨on, hon⟩ : ∃ on, (PLf s s.size).length = on := ⟨_, rfl⟩
          have HON := Lib.hid hon
          rw [hon] at HP ⊢
          clear hon
          go_wp2
          go_ret
          refine ⟨⟨_, rfl, ?_⟩, HB.out.trans (hB.mono HB.out.size)⟩
          have h1 := HP.out
          have h2 : W1.ownsRow W1.heap.size 152 5 (.slice none 0 0) 0 [] := ⟨rfl, .inl ⟨rfl, rfl⟩⟩
          unfold PtS at h1 ⊢
          rw [show PL s = PLf s s.size from rfl]
          have := owns_base h1 (c := w.heap.size) (fun k hk => Nat.le_trans HB.out.size (own_ge h1 k hk))
          exact this
end
end Go.Proofs.YtgfkbfojeohlkaaGreatDoor
namespace Go.Proofs.YtgfkbfojeohlkaaGreatDoor
open Go.RowKit
set_option linter.unusedVariables false

def aggP (p : Prt) : Value := .agg #[.int .i64 (p.mode : Int), .int .i64 (p.frm : Int), .int .i64 (p.to : Int), .int .i64 p.up, .bool p.op]

structure RdP (w : World) (oa : Option Addr) (n : Nat) (L : List Prt) : Prop where
  len : n = L.length
  cells : ∀ i p, L[i]? = some p → ∃ ob, oa = some ⟨ob, 0, none⟩ ∧ ob < w.heap.size ∧ ∀ c u, (cellP p)[c]? = some u → w.cell? ⟨ob, i * 5 + c, none⟩ = some u
theorem RdP.below {w w' : World} {oa : Option Addr} {n : Nat} {L : List Prt} (h : RdP w oa n L) (hb : Below w.heap.size w w') : RdP w' oa n L :=
  ⟨h.len, fun i p hp => by
    obtain ⟨ob, h1, h2, h3⟩ := h.cells i p hp
    exact ⟨ob, h1, Nat.lt_of_lt_of_le h2 hb.size, fun c u hu => (hb.cell (p := ⟨ob, i * 5 + c, none⟩) h2).trans (h3 c u hu)⟩⟩
theorem RdP.frm {q : Nat → Prop} {w w' : World} {oa : Option Addr} {n : Nat} {L : List Prt} (h : RdP w oa n L) (hb : Frm q w w') (hq : ∀ b, b < w.heap.size → ¬ q b) : RdP w' oa n L :=
  ⟨h.len, fun i p hp => by
    obtain ⟨ob, h1, h2, h3⟩ := h.cells i p hp
    exact ⟨ob, h1, Nat.lt_of_lt_of_le h2 hb.size, fun c u hu => (hb.cell h2 (hq ob h2)).trans (h3 c u hu)⟩⟩
theorem PtS.read {w : World} {base : Nat} {v : Value} {L : List Prt} (h : PtS w base v L) : ∃ oa n oc, v = .slice oa n oc ∧ RdP w oa n L := by
  have h' : w.ownsRow base 152 5 v L.length (cellsP L) := h
  obtain ⟨oa, oc, rfl⟩ := owns_slice h'
  refine ⟨oa, _, oc, rfl, rfl, fun i p hp => ?_⟩
  have hl : i < L.length := (List.getElem?_eq_some_iff.1 hp).1
  obtain ⟨ob, ocap, hov, _, _, _, hlt⟩ := owns_nil h' (by omega)
  obtain ⟨rfl, rfl⟩ : oa = some ⟨ob, 0, none⟩ ∧ oc = ocap := by simpa using hov
  refine ⟨ob, rfl, hlt, fun c u hu => ?_⟩
  have := h'.cells (g := ob) rfl (i * 5 + c) u (cellsP_at hp c u hu)
  rwa [Addr.add_lit, Nat.zero_add] at this
theorem RdP.at {w : World} {oa : Option Addr} {n : Nat} {L : List Prt} (h : RdP w oa n L) {i : Nat} (hi : i < n) : ∃ ob p, oa = some ⟨ob, 0, none⟩ ∧ L[i]? = some p ∧ ob < w.heap.size ∧ w.cell? ⟨ob, i * 5, none⟩ = some (.int .i64 (p.mode : Int)) ∧ w.cell? ⟨ob, i * 5 + 1, none⟩ = some (.int .i64 (p.frm : Int)) ∧ w.cell? ⟨ob, i * 5 + 2, none⟩ = some (.int .i64 (p.to : Int)) ∧ w.cell? ⟨ob, i * 5 + 3, none⟩ = some (.int .i64 p.up) ∧ w.cell? ⟨ob, i * 5 + 4, none⟩ = some (.bool p.op) := by
  have hl : i < L.length := by have := h.len; omega
  obtain ⟨ob, h1, h2, h3⟩ := h.cells i L[i] (List.getElem?_eq_getElem hl)
  have h0 := h3 0 _ rfl
  rw [Nat.add_zero] at h0
  exact ⟨ob, L[i], h1, List.getElem?_eq_getElem hl, h2, h0, h3 1 _ rfl, h3 2 _ rfl, h3 3 _ rfl, h3 4 _ rfl⟩

theorem prt_le {s : ByteArray} {f : Nat} (hf : f < s.size) (hb : born s f = true) : (prt s f).to ≤ s.size ∧ (prt s f).mode ≤ 14 := by
  have he := eK_le s (Nat.le_of_lt hf)
  have hm := cnt_le (md_le s (eK s f s.size) f)
  rw [prt_eq hb hf]
  split
  · exact ⟨paramN_le s (f + 1) (by omega), by show 12 ≤ 14; omega⟩
  · refine ⟨?_, hm⟩
    show (if eK s f s.size = s.size then s.size else eK s f s.size + 1) ≤ s.size
    split <;> omega
theorem PL_get {s : ByteArray} {i : Nat} {p : Prt} (h : (PL s)[i]? = some p) : ∃ f, (bornL s s.size)[i]? = some f ∧ p = prt s f ∧ f < s.size ∧ born s f = true ∧ p.frm = f ∧ p.to ≤ s.size ∧ p.mode ≤ 14 := by
  unfold PL at h
  rw [List.getElem?_map] at h
  cases hf : (bornL s s.size)[i]? with
  | none => rw [hf] at h; cases h
  | some f =>
    rw [hf] at h
    have e : prt s f = p := by simpa using h
    obtain ⟨_, h2, h3⟩ := idx_get hf
    have := prt_le h2 h3
    rw [← e]
    exact ⟨f, rfl, rfl, h2, h3, prt_frm s f, this.1, this.2⟩
theorem PL_len (s : ByteArray) : (PL s).length ≤ s.size := by unfold PL; rw [List.length_map]; exact bornL_len s _

end Go.Proofs.YtgfkbfojeohlkaaGreatDoor

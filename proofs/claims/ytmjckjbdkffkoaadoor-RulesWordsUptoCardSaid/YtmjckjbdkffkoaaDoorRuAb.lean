/- What fits of layer 12 (rules) returns, of a node whose row is of its form: what besides returns. Condition: a kind that doesn't count as deep. -/
import Derived.Test.YtmjckjbdkffkoaaDoorRuAa
import Derived.Deep.RegionHeld3
namespace Go.Proofs.YtmjckjbdkffkoaaDoor
open Go.RowKit
set_option linter.unusedVariables false

/-- A call of a Go function, guarded or not, as a step of a region that draws. -/
theorem step_callG {ops : Array Oper} {o : Oper} {a : Act} {w : World} {K : Act → World → Prop} {Q : Exit → Act → World → Prop} {E : Prop} (hw : Region.wanted o (yielded ops a.tmps) = true) {f : FuncId} {fn : Func} (hf : Tryd.prog.funcs[f]? = some fn) (hname : (fn.name == "runtime.NumGoroutine") = false) (hb : fn.body.isSome = true) (args : List Operand) (tys : Array TypeId)
    (ho : o.op = .call { callee := .value (.func f), args := args.toArray, argTypes := tys }) (vs : List Value) (hv : args.map a.eval = vs) (v : Value) (R : World → Prop)
    (hc : Calls Tryd.prog f vs.toArray w fun e w' => e = .returned v ∧ R w') (h : ∀ w', R w' → K (a.put o.dst v) w') :
    if Region.wanted o (yielded ops a.tmps) = true then Oper.wp Tryd.prog o a w K Q else E := by
  rw [if_pos hw]
  have e1 : a.eval (.func f) = .func (.func f) #[] #[] := rfl
  obtain ⟨c, hc'⟩ := Option.isSome_iff_exists.1 hb
  have h1 : fn.name ≠ "runtime.NumGoroutine" := by simpa using hname
  have hen : (callFunc f vs.toArray).run Tryd.prog w = .ok (.enter f vs.toArray) w := by simp [callFunc, hf, h1, hc']
  unfold Oper.wp execOp
  simp only [ho, resolve, List.map_toArray, hv, e1, Deferred.ofValue, invoke, Sem.run_bind, Sem.run_pure, Result.andThen_ok, Array.empty_append, Array.append_empty, hen]
  rw [Oper.upon_enter]
  refine hc.mono ?_
  rintro e w' ⟨rfl, hr⟩
  exact h w' hr
@[local go_sem] theorem und_match (f : Bool → Option Bool) (g : Option Value → Option Bool) : yielded.match_1 (fun _ => Option Bool) (some undef) f g = g (some undef) := rfl
theorem keepF {a : Nat} {W2 W W' : World} (h : Below a W2 W) (hb : Below W.heap.size W W') (ha : a ≤ W2.heap.size := by exact Nat.le_refl _) : Below a W2 W' := h.trans (hb.mono (Nat.le_trans ha h.size))
section
variable (w : World)
set_option maxRecDepth 100000 in
set_option maxHeartbeats 4000000 in
theorem fits_yes (v : Vw) (lv : Nat → Lf) (nv : Nat → Nd) (ks : List Nat) (hV : VwOk w v lv nv ks) (K f t : Int) (hk : (nv v.i).k = K) (hf : (nv v.i).f = f) (ht : (nv v.i).t = t) (hK : 1 ≤ K ∧ K ≤ 8) (hft : f < t ∨ K = 1) (R : ByteArray) (bb : Bool)
    (hrow : ∀ W, Below w.heap.size w W → Calls Tryd.prog 71 #[.agg v.cs] W fun r w' => r = .returned (.string R) ∧ Below W.heap.size W w')
    (hfm : ∀ W, Calls Tryd.prog 70 #[.int .i64 K, .string R] W fun r w' => r = .returned (.bool true) ∧ Below W.heap.size W w')
    (hbs : ∀ W, Below w.heap.size w W → Calls Tryd.prog 72 #[.agg v.cs] W fun r w' => r = .returned (.bool bb) ∧ Below W.heap.size W w') :
    Calls Tryd.prog 46 #[.agg v.cs] w fun r w' => r = .returned (.bool bb) ∧ Below w.heap.size w w' := by
  have hB1 := ((Below.refl w.heap.size w).alloc (Nat.le_refl _) (.cells v.cs 74))
  have kV := (Blk.new w v.cs 74)
  have hz := show (w.alloc (.cells v.cs 74)).heap.size = w.heap.size + 1 by simp
  obtain ⟨W1, hW1⟩ : ∃ X, w.alloc (.cells v.cs 74) = X := ⟨_, rfl⟩
  rw [hW1] at hB1 kV hz
  have hV1 := hV.below hB1
  have hi := hV.i
  obtain ⟨nb, no, hao, hnw, d0, d1, d2, d3⟩ := hV1.a v.i hi
  obtain ⟨u', hu'⟩ : ∃ u', (nv v.i).u = u' := ⟨_, rfl⟩
  rw [hk] at d0
  rw [hf] at d1
  rw [ht] at d2
  rw [hu'] at d3
  have hB2 := (Below.refl W1.heap.size W1).alloc (Nat.le_refl _) (.cells #[.int .i64 K, .int .i64 f, .int .i64 t, .int .i64 u'] 27)
  have kN := Blk.new W1 #[.int .i64 K, .int .i64 f, .int .i64 t, .int .i64 u'] 27
  obtain ⟨W2, hW2⟩ : ∃ X, W1.alloc (.cells #[.int .i64 K, .int .i64 f, .int .i64 t, .int .i64 u'] 27) = X := ⟨_, rfl⟩
  rw [hW2] at hB2 kN
  have kV2 := kV.below hB2
  have v0 := kV.cell 0
  have v1 := kV.cell 1
  have v2 := kV.cell 2
  have v3 := kV.cell 3
  have n0 := kN.cell 0
  have n1 := kN.cell 1
  have n2 := kN.cell 2
  simp only [Vw.cs, List.getElem?_toArray, List.getElem?_cons_zero, List.getElem?_cons_succ] at v0 v1 v2 v3 n0 n1 n2
  have q1 : (0 : Int) ≤ (v.i : Int) := by omega
  have q2 : (v.i : Int) < (v.n : Int) := by omega
  have HBW := Lib.hid (hB1.trans (hB2.mono hB1.size))
  unfold Vw.cs at hW1 hrow hbs kV2 ⊢
  rw [hao] at hW1 hrow hbs v1 kV2 ⊢
  have HROW := Lib.hid (fun W (hW : Below W2.heap.size W2 W) => (hrow W (HBW.out.trans (hW.mono HBW.out.size))).mono (fun r w' (h : _ ∧ _) => (⟨h.1, keepF hW h.2⟩ : r = _ ∧ Below W2.heap.size W2 w')))
  have HBS := Lib.hid (fun W (hW : Below W2.heap.size W2 W) => (hbs W (HBW.out.trans (hW.mono HBW.out.size))).mono (fun r w' (h : _ ∧ _) => (⟨h.1, keepF hW h.2⟩ : r = _ ∧ Below W2.heap.size W2 w')))
  have HFM := Lib.hid (fun W (hW : Below W2.heap.size W2 W) => (hfm W).mono (fun r w' (h : _ ∧ _) => (⟨h.1, keepF hW h.2⟩ : r = _ ∧ Below W2.heap.size W2 w')))
  have HCN := Lib.hid (fun W => counts_no W K hK.2)
  have HKN := Lib.hid kN
  have HKV := Lib.hid kV2
  have hS : ∀ W, Below W2.heap.size W2 W → W.cell? ⟨w.heap.size, 0, none⟩ = some (.slice v.la v.ln v.lc) ∧ W.cell? ⟨w.heap.size, 1, none⟩ = some (.slice (some ⟨nb, no, none⟩) v.n v.cap) ∧ W.cell? ⟨w.heap.size, 2, none⟩ = some (.int .i64 (v.i : Int)) ∧ W.cell? ⟨w.heap.size, 3, none⟩ = some (.slice v.ka v.kn v.kc) ∧ W.cell? ⟨W1.heap.size, 0, none⟩ = some (.int .i64 K) ∧ Below W2.heap.size W2 W := fun W hW => by
    have b1 := HKV.out.below hW
    have b2 := HKN.out.below hW
    exact ⟨b1.cell 0, b1.cell 1, b1.cell 2, b1.cell 3, b2.cell 0, hW⟩
  have HSS := Lib.hid hS
  have hg1 : f < t ∨ (t ≤ f ∧ K = 1) := by
    rcases Int.lt_or_le f t with h | h
    · exact .inl h
    · rcases hft with g | g
      · exact .inl g
      · exact .inr ⟨h, g⟩
  clear hV hV1 hk hf ht hu' kN kV kV2 hB1 hB2 hz hao hrow hbs hfm hS hft
  go_enter Tryd.func46, Tryd.ntmps46
  rcases hg1 with hlt | ⟨hle, hk1⟩
  · have e0 : decide (t ≤ f) = false := by simp; omega
    have e0' : ¬ t ≤ f := by omega
    clear hlt
    cases bb
    · go_upto_region 4 with fail
      clear v0 v1 v2 v3 n0 n1 n2 d0 d1 d2 d3 hW1 hW2
      obtain ⟨y0, y1, y2, y3, y4, _⟩ := HSS.out W2 (Below.refl _ _)
      first | (go_region_law (first
        | (refine step_callG (by rfl) Tryd.func71 (by kernel_rfl) (by kernel_rfl) _ _ (by rfl) [.agg #[.slice v.la v.ln v.lc, .slice (some ⟨nb, no, none⟩) v.n v.cap, .int .i64 (v.i : Int), .slice v.ka v.kn v.kc]] (by rfl) (.string R) (fun w' => Below W2.heap.size W2 w') (HROW.out _ (by first | assumption | exact (Below.refl _ _).drew)) ?_; intro w5 hh5; obtain ⟨z0, z1, z2, z3, z4, _⟩ := HSS.out _ hh5)
        | (refine step_callG (by rfl) Tryd.func70 (by kernel_rfl) (by kernel_rfl) _ _ (by rfl) [.int .i64 K, .string R] (by rfl) (.bool true) (fun w' => Below W2.heap.size W2 w') (HFM.out _ (by first | assumption | exact (Below.refl _ _).drew)) ?_; intro w5 hh5; obtain ⟨z0, z1, z2, z3, z4, _⟩ := HSS.out _ hh5)
        | (refine step_callG (by rfl) Tryd.func72 (by kernel_rfl) (by kernel_rfl) _ _ (by rfl) [.agg #[.slice v.la v.ln v.lc, .slice (some ⟨nb, no, none⟩) v.n v.cap, .int .i64 (v.i : Int), .slice v.ka v.kn v.kc]] (by rfl) (.bool false) (fun w' => Below W2.heap.size W2 w') (HBS.out _ (by first | assumption | exact (Below.refl _ _).drew)) ?_; intro w5 hh5; obtain ⟨z0, z1, z2, z3, z4, _⟩ := HSS.out _ hh5)
        | (refine step_callG (by rfl) Tryd.func56 (by kernel_rfl) (by kernel_rfl) _ _ (by rfl) [.int .i64 K] (by rfl) (.bool false) (fun w' => Below W2.heap.size W2 w') ((HCN.out _).mono (fun r w' (h : _ ∧ _) => ⟨h.1, by rw [h.2]; first | assumption | exact (Below.refl _ _).drew⟩)) ?_; intro w5 hh5; obtain ⟨z0, z1, z2, z3, z4, _⟩ := HSS.out _ hh5))) | fail
      all_goals (go_wp2; go_ret)
      all_goals exact ⟨rfl, HBW.out.trans (by have := HBW.out.size; exact hh5.mono this)⟩
    · go_upto_region 4 with fail
      clear v0 v1 v2 v3 n0 n1 n2 d0 d1 d2 d3 hW1 hW2
      obtain ⟨y0, y1, y2, y3, y4, _⟩ := HSS.out W2 (Below.refl _ _)
      first | (go_region_law (first
        | (refine step_callG (by rfl) Tryd.func71 (by kernel_rfl) (by kernel_rfl) _ _ (by rfl) [.agg #[.slice v.la v.ln v.lc, .slice (some ⟨nb, no, none⟩) v.n v.cap, .int .i64 (v.i : Int), .slice v.ka v.kn v.kc]] (by rfl) (.string R) (fun w' => Below W2.heap.size W2 w') (HROW.out _ (by first | assumption | exact (Below.refl _ _).drew)) ?_; intro w5 hh5; obtain ⟨z0, z1, z2, z3, z4, _⟩ := HSS.out _ hh5)
        | (refine step_callG (by rfl) Tryd.func70 (by kernel_rfl) (by kernel_rfl) _ _ (by rfl) [.int .i64 K, .string R] (by rfl) (.bool true) (fun w' => Below W2.heap.size W2 w') (HFM.out _ (by first | assumption | exact (Below.refl _ _).drew)) ?_; intro w5 hh5; obtain ⟨z0, z1, z2, z3, z4, _⟩ := HSS.out _ hh5)
        | (refine step_callG (by rfl) Tryd.func72 (by kernel_rfl) (by kernel_rfl) _ _ (by rfl) [.agg #[.slice v.la v.ln v.lc, .slice (some ⟨nb, no, none⟩) v.n v.cap, .int .i64 (v.i : Int), .slice v.ka v.kn v.kc]] (by rfl) (.bool true) (fun w' => Below W2.heap.size W2 w') (HBS.out _ (by first | assumption | exact (Below.refl _ _).drew)) ?_; intro w5 hh5; obtain ⟨z0, z1, z2, z3, z4, _⟩ := HSS.out _ hh5)
        | (refine step_callG (by rfl) Tryd.func56 (by kernel_rfl) (by kernel_rfl) _ _ (by rfl) [.int .i64 K] (by rfl) (.bool false) (fun w' => Below W2.heap.size W2 w') ((HCN.out _).mono (fun r w' (h : _ ∧ _) => ⟨h.1, by rw [h.2]; first | assumption | exact (Below.refl _ _).drew⟩)) ?_; intro w5 hh5; obtain ⟨z0, z1, z2, z3, z4, _⟩ := HSS.out _ hh5))) | fail
      all_goals (go_wp2; go_ret)
      all_goals exact ⟨rfl, HBW.out.trans (by have := HBW.out.size; exact hh5.mono this)⟩
  · subst hk1
    have e0 : decide (t ≤ f) = true := by simp; omega
    have e1 : ((1 : Int) == 1) = true := rfl
    cases bb
    · go_upto_region 4 with fail
      clear v0 v1 v2 v3 n0 n1 n2 d0 d1 d2 d3 hW1 hW2
      obtain ⟨y0, y1, y2, y3, y4, _⟩ := HSS.out W2 (Below.refl _ _)
      first | (go_region_law (first
        | (refine step_callG (by rfl) Tryd.func71 (by kernel_rfl) (by kernel_rfl) _ _ (by rfl) [.agg #[.slice v.la v.ln v.lc, .slice (some ⟨nb, no, none⟩) v.n v.cap, .int .i64 (v.i : Int), .slice v.ka v.kn v.kc]] (by rfl) (.string R) (fun w' => Below W2.heap.size W2 w') (HROW.out _ (by first | assumption | exact (Below.refl _ _).drew)) ?_; intro w5 hh5; obtain ⟨z0, z1, z2, z3, z4, _⟩ := HSS.out _ hh5)
        | (refine step_callG (by rfl) Tryd.func70 (by kernel_rfl) (by kernel_rfl) _ _ (by rfl) [.int .i64 1, .string R] (by rfl) (.bool true) (fun w' => Below W2.heap.size W2 w') (HFM.out _ (by first | assumption | exact (Below.refl _ _).drew)) ?_; intro w5 hh5; obtain ⟨z0, z1, z2, z3, z4, _⟩ := HSS.out _ hh5)
        | (refine step_callG (by rfl) Tryd.func72 (by kernel_rfl) (by kernel_rfl) _ _ (by rfl) [.agg #[.slice v.la v.ln v.lc, .slice (some ⟨nb, no, none⟩) v.n v.cap, .int .i64 (v.i : Int), .slice v.ka v.kn v.kc]] (by rfl) (.bool false) (fun w' => Below W2.heap.size W2 w') (HBS.out _ (by first | assumption | exact (Below.refl _ _).drew)) ?_; intro w5 hh5; obtain ⟨z0, z1, z2, z3, z4, _⟩ := HSS.out _ hh5)
        | (refine step_callG (by rfl) Tryd.func56 (by kernel_rfl) (by kernel_rfl) _ _ (by rfl) [.int .i64 1] (by rfl) (.bool false) (fun w' => Below W2.heap.size W2 w') ((HCN.out _).mono (fun r w' (h : _ ∧ _) => ⟨h.1, by rw [h.2]; first | assumption | exact (Below.refl _ _).drew⟩)) ?_; intro w5 hh5; obtain ⟨z0, z1, z2, z3, z4, _⟩ := HSS.out _ hh5))) | fail
      all_goals (go_wp2; go_ret)
      all_goals exact ⟨rfl, HBW.out.trans (by have := HBW.out.size; exact hh5.mono this)⟩
    · go_upto_region 4 with fail
      clear v0 v1 v2 v3 n0 n1 n2 d0 d1 d2 d3 hW1 hW2
      obtain ⟨y0, y1, y2, y3, y4, _⟩ := HSS.out W2 (Below.refl _ _)
      first | (go_region_law (first
        | (refine step_callG (by rfl) Tryd.func71 (by kernel_rfl) (by kernel_rfl) _ _ (by rfl) [.agg #[.slice v.la v.ln v.lc, .slice (some ⟨nb, no, none⟩) v.n v.cap, .int .i64 (v.i : Int), .slice v.ka v.kn v.kc]] (by rfl) (.string R) (fun w' => Below W2.heap.size W2 w') (HROW.out _ (by first | assumption | exact (Below.refl _ _).drew)) ?_; intro w5 hh5; obtain ⟨z0, z1, z2, z3, z4, _⟩ := HSS.out _ hh5)
        | (refine step_callG (by rfl) Tryd.func70 (by kernel_rfl) (by kernel_rfl) _ _ (by rfl) [.int .i64 1, .string R] (by rfl) (.bool true) (fun w' => Below W2.heap.size W2 w') (HFM.out _ (by first | assumption | exact (Below.refl _ _).drew)) ?_; intro w5 hh5; obtain ⟨z0, z1, z2, z3, z4, _⟩ := HSS.out _ hh5)
        | (refine step_callG (by rfl) Tryd.func72 (by kernel_rfl) (by kernel_rfl) _ _ (by rfl) [.agg #[.slice v.la v.ln v.lc, .slice (some ⟨nb, no, none⟩) v.n v.cap, .int .i64 (v.i : Int), .slice v.ka v.kn v.kc]] (by rfl) (.bool true) (fun w' => Below W2.heap.size W2 w') (HBS.out _ (by first | assumption | exact (Below.refl _ _).drew)) ?_; intro w5 hh5; obtain ⟨z0, z1, z2, z3, z4, _⟩ := HSS.out _ hh5)
        | (refine step_callG (by rfl) Tryd.func56 (by kernel_rfl) (by kernel_rfl) _ _ (by rfl) [.int .i64 1] (by rfl) (.bool false) (fun w' => Below W2.heap.size W2 w') ((HCN.out _).mono (fun r w' (h : _ ∧ _) => ⟨h.1, by rw [h.2]; first | assumption | exact (Below.refl _ _).drew⟩)) ?_; intro w5 hh5; obtain ⟨z0, z1, z2, z3, z4, _⟩ := HSS.out _ hh5))) | fail
      all_goals (go_wp2; go_ret)
      all_goals exact ⟨rfl, HBW.out.trans (by have := HBW.out.size; exact hh5.mono this)⟩
set_option maxRecDepth 100000 in
theorem fits_out (v : Vw) (lv : Nat → Lf) (nv : Nat → Nd) (ks : List Nat) (hV : VwOk w v lv nv ks) (K f t : Int) (hk : (nv v.i).k = K) (hf : (nv v.i).f = f) (ht : (nv v.i).t = t) (hK : K ≠ 1) (hft : t ≤ f) :
    Calls Tryd.prog 46 #[.agg v.cs] w fun r w' => r = .returned (.bool false) ∧ Below w.heap.size w w' := by
  have hB1 := ((Below.refl w.heap.size w).alloc (Nat.le_refl _) (.cells v.cs 74))
  have kV := (Blk.new w v.cs 74)
  obtain ⟨W1, hW1⟩ : ∃ X, w.alloc (.cells v.cs 74) = X := ⟨_, rfl⟩
  rw [hW1] at hB1 kV
  have hV1 := hV.below hB1
  have hi := hV.i
  obtain ⟨nb, no, hao, hnw, d0, d1, d2, d3⟩ := hV1.a v.i hi
  obtain ⟨u', hu'⟩ : ∃ u', (nv v.i).u = u' := ⟨_, rfl⟩
  rw [hk] at d0
  rw [hf] at d1
  rw [ht] at d2
  rw [hu'] at d3
  have hB2 := (Below.refl W1.heap.size W1).alloc (Nat.le_refl _) (.cells #[.int .i64 K, .int .i64 f, .int .i64 t, .int .i64 u'] 27)
  have kN := Blk.new W1 #[.int .i64 K, .int .i64 f, .int .i64 t, .int .i64 u'] 27
  obtain ⟨W2, hW2⟩ : ∃ X, W1.alloc (.cells #[.int .i64 K, .int .i64 f, .int .i64 t, .int .i64 u'] 27) = X := ⟨_, rfl⟩
  rw [hW2] at hB2 kN
  have v0 := kV.cell 0
  have v1 := kV.cell 1
  have v2 := kV.cell 2
  have v3 := kV.cell 3
  have n0 := kN.cell 0
  have n1 := kN.cell 1
  have n2 := kN.cell 2
  simp only [Vw.cs, List.getElem?_toArray, List.getElem?_cons_zero, List.getElem?_cons_succ] at v0 v1 v2 v3 n0 n1 n2
  have q1 : (0 : Int) ≤ (v.i : Int) := by omega
  have q2 : (v.i : Int) < (v.n : Int) := by omega
  have HBW := Lib.hid (hB1.trans (hB2.mono hB1.size))
  unfold Vw.cs at hW1 ⊢
  rw [hao] at hW1 v1 ⊢
  have e0 : decide (t ≤ f) = true := by simpa using hft
  have e1 : (K == 1) = false := by simpa using hK
  clear hV hV1 hk hf ht hu' kN kV hB1 hB2 hao
  go_enter Tryd.func46, Tryd.ntmps46
  go_wp2
  go_ret
  exact ⟨rfl, HBW.out⟩
end
end Go.Proofs.YtmjckjbdkffkoaaDoor

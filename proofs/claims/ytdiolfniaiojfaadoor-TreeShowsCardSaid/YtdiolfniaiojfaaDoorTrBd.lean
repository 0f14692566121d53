/- A strings.Builder of the call's own: what WriteString does with it. Condition: at most a million bytes. -/
import Derived.Test.YtdiolfniaiojfaaDoorRuB
import Derived.Lib.AppendStr
namespace Go.Proofs.YtdiolfniaiojfaaDoor
open Go.RowKit Go.Shelf
set_option linter.unusedVariables false

/-- Which of this program's numbers stand for the library's. -/
def renB : Go.Shelf.Ren := ⟨fun | 240 => 23 | 276 => 28 | 166 => 21 | n => n, fun | 0 => 0 | 3 => 3 | 4 => 4 | 5 => 5 | 9 => 9 | 20 => 20 | 37 => 35 | 70 => 34 | 72 => 37 | 75 => 43 | 80 => 45 | 127 => 57 | 164 => 61 | n => n, fun | n => n⟩
theorem laidN166 : Go.Proofs.Lays.n166 Tryd.prog renB where
  mixed := by kernel_rfl
  f166 := Tryd.func21.trans (congrArg some (by kernel_rfl))
  f240 := Tryd.func23.trans (congrArg some (by kernel_rfl))
  f276 := Tryd.func28.trans (congrArg some (by kernel_rfl))
  t0 := Tryd.underlying0
  a0 := Tryd.isAgg0
  z0 := Tryd.sizeOf0
  v0 := Tryd.zeroValue0
  t3 := Tryd.underlying3
  a3 := Tryd.isAgg3
  z3 := Tryd.sizeOf3
  v3 := Tryd.zeroValue3
  t4 := Tryd.underlying4
  a4 := Tryd.isAgg4
  z4 := Tryd.sizeOf4
  v4 := Tryd.zeroValue4
  t9 := Tryd.underlying9
  a9 := Tryd.isAgg9
  z9 := Tryd.sizeOf9
  v9 := Tryd.zeroValue9
  t20 := Tryd.underlying20
  a20 := Tryd.isAgg20
  z20 := Tryd.sizeOf20
  v20 := Tryd.zeroValue20
  t37 := Tryd.underlying35
  a37 := Tryd.isAgg35
  z37 := Tryd.sizeOf35
  v37 := Tryd.zeroValue35
  t70 := Tryd.underlying34
  a70 := Tryd.isAgg34
  z70 := Tryd.sizeOf34
  v70 := Tryd.zeroValue34
  t72 := Tryd.underlying37
  a72 := Tryd.isAgg37
  z72 := Tryd.sizeOf37
  v72 := Tryd.zeroValue37
  t75 := Tryd.underlying43
  a75 := Tryd.isAgg43
  z75 := Tryd.sizeOf43
  v75 := Tryd.zeroValue43
  t164 := Tryd.underlying61
  a164 := Tryd.isAgg61
  z164 := Tryd.sizeOf61
  v164 := Tryd.zeroValue61
theorem laidX : Builder.Extra Tryd.prog renB where
  sizeBuilder := by kernel_rfl
  liesBuilder := by kernel_rfl
  t5 := Tryd.underlying5
  a5 := Tryd.isAgg5
  z5 := Tryd.sizeOf5
  v5 := Tryd.zeroValue5
  infoByte := by kernel_rfl
  cellsByte := by kernel_rfl
  sizeByte := by kernel_rfl
  neB5 := by decide
set_option maxRecDepth 100000 in
/-- A text appended to a row of bytes of the call's own; the row lies where it lay, or in a new block. -/
theorem wpl_app_text {ops : Array Oper} {rest : List Oper} {o : Oper} {a : Act} {Q : Exit → Act → World → Prop} {w : World} (hgd : o.guard = none) (s x : Operand)
    (ho : o.op = .call { callee := .builtin .append, args := #[s, x], argTypes := #[35, 9] })
    (B0 z : Nat) (v : Value) (xs0 : List Value) (X : ByteArray) (hs : a.eval s = v) (hx : a.eval x = .string X) (hown : w.ownsRow B0 5 1 v z xs0) (hB : B0 ≤ w.heap.size) (hl : z ≤ 1000000) (hX : X.size ≤ 1000000)
    (h : ∀ oa' oc' w', w'.ownsRow B0 5 1 (.slice oa' (z + X.size) oc') (z + X.size) (xs0 ++ Lib.strCells X) → w.grownBy w' v.ownBlock → ((Value.slice oa' (z + X.size) oc').ownBlock = v.ownBlock ∨ (Value.slice oa' (z + X.size) oc').ownBlock = some w.heap.size) → wpList Tryd.prog ops Q rest (a.put o.dst (.slice oa' (z + X.size) oc')) w') :
    wpList Tryd.prog ops Q (o :: rest) a w := by
  refine wpList_plain hgd fun K hK => ?_
  obtain ⟨i, hi, hz, hsize, hby⟩ := info_parts infoB
  obtain ⟨v', w', hr, h2, h3, h4⟩ := Lib.run_append_own_string (P := Tryd.prog) w B0 35 9 o.type 5 i Tryd.underlying35 Tryd.underlying9 hi hz hsize hby v z xs0 hown X (by unfold maxLen; omega) (by omega) hB
  have hv : ∃ oa' oc', v' = .slice oa' (z + X.size) oc' := by
    rcases h2.2 with ⟨e, e2⟩ | ⟨g, cap, cur, e, _⟩
    · exact ⟨none, 0, by rw [e, e2]⟩
    · exact ⟨_, _, e⟩
  have hat : v'.ownBlock = v.ownBlock ∨ v'.ownBlock = some w.heap.size := by
    rcases hown.2 with ⟨rfl, rfl⟩ | ⟨g, cap, cur, rfl, hbg, hg, hnc, hcm, hcs, htake⟩
    · by_cases hm : X.size = 0
      · left; rw [h4.2 ⟨rfl, hm⟩]
      · right
        have := run_append_nil_string (P := Tryd.prog) w 35 9 o.type 5 i (.int .u8 0) Tryd.underlying35 Tryd.underlying9 hi hz X (by omega) (by omega) (by rw [hby]; omega)
        rw [hr] at this
        injection this with e1 _
        rw [e1]; rfl
    · by_cases hroom : z + X.size ≤ cap
      · left
        have := Lib.run_append_room_string (P := Tryd.prog) w 35 9 o.type 5 i Tryd.underlying35 Tryd.underlying9 hi hsize g z cap cur hg X hroom (by omega)
        rw [hr] at this
        injection this with e1 _
        rw [e1]; rfl
      · right
        have holds : ∀ j u, xs0[j]? = some u → w.cell? ((⟨g, 0, none⟩ : Addr).add j) = some u := hown.cells (g := g) rfl
        have := Lib.run_append_grow_string (P := Tryd.prog) w 35 9 o.type 5 i (.int .u8 0) Tryd.underlying35 Tryd.underlying9 hi hz ⟨g, 0, none⟩ z cap xs0 (by rw [hsize]; exact hown.1) holds X (by omega) (by omega) (by rw [hby]; exact growslice_fits (by omega) (by omega))
        rw [hr] at this
        injection this with e1 _
        rw [e1]; rfl
  obtain ⟨oa', oc', rfl⟩ := hv
  unfold Oper.wp execOp
  simp only [ho, resolve, invoke, builtin, Sem.run_bind, Sem.run_pure, Result.andThen_ok, List.map_toArray, List.map_cons, List.map_nil, hs, hx, hr]
  exact hK _ _ (h oa' oc' w' h2 h3 hat)
section
variable (w : World)
set_option maxRecDepth 100000 in
set_option maxHeartbeats 2000000 in
theorem wstring_own (b : Nat) (v : Value) (x : List Value) (s : ByteArray) (h : BldV b v x w) (hl : x.length ≤ 1000000) (hs : s.size ≤ 1000000) :
    Calls Tryd.prog 21 #[.pointer (some ⟨b, 0, none⟩), .string s] w fun e w' => e = .returned (.tuple #[.int .i64 s.size, .nilIface]) ∧ ∃ v', BldV b v' (x ++ Lib.strCells s) w' ∧ Frm (fun k => k = b ∨ v.ownBlock = some k) w w' ∧ ∀ g, v'.ownBlock = some g → v.ownBlock = some g ∨ w.heap.size ≤ g := by
  have hne := h.ne
  have hown := h.2
  obtain ⟨oa, oc, rfl⟩ : ∃ oa oc, v = .slice oa x.length oc := by
    rcases hown.2 with ⟨h1, h2⟩ | ⟨g, cap, cur, h1, _⟩
    · exact ⟨none, 0, by rw [h1, h2]⟩
    · exact ⟨_, _, h1⟩
  -- behind copyCheck
  have hcc : Calls Tryd.prog 23 #[.pointer (some ⟨b, 0, none⟩)] w fun e w' => e = .returned (.tuple #[]) ∧ Blk w' b #[.pointer (some ⟨b, 0, none⟩), .slice oa x.length oc] 37 ∧ Frm (fun k => k = b) w w' := by
    rcases h.1 with hb | hb
    · refine (Any.Builder_copyCheck_fresh (ρ := renB) { laidN166 with } laidX.toX72 b w (hb.cell 0) (by simp [World.shape?, show w.heap[b]? = _ from hb]; rfl) (hb.frozen 0)).mono ?_
      rintro e w' ⟨rfl, rfl⟩
      exact ⟨rfl, hb.set 0 _, Frm.setCell (p := fun k => k = b) (Frm.refl _ w) 0 (.inl rfl) _⟩
    · refine (Any.Builder_copyCheck_used (ρ := renB) { laidN166 with } laidX.toX72 b w (hb.cell 0)).mono ?_
      rintro e w' ⟨rfl, rfl⟩
      exact ⟨rfl, hb, Frm.refl _ _⟩
  have HCC := Lib.hid hcc
  clear hcc
  go_enter Tryd.func21, Tryd.ntmps21
  go_wp2_with fail
  refine (HCC.out).mono ?_
  rintro e w1 ⟨rfl, hb1, hF1⟩
  have hown1 := own_frm hF1 hown (fun k hk e => hne (e ▸ hk))
  obtain ⟨z, hz⟩ : ∃ z, x.length = z := ⟨_, rfl⟩
  have HZ := Lib.hid hz
  have hzl : z ≤ 1000000 := by omega
  rw [hz] at hown1 hb1
  have c1 := hb1.cell 1
  have f1 := hb1.frozen 1
  have hb1l : b ≤ w1.heap.size := by have := hb1.lt; omega
  have hne1 : some b ≠ (Value.slice oa z oc).ownBlock := fun e => hne (by rw [hz]; exact e.symm)
  have HB1 := Lib.hid hb1
  have HOWN := Lib.hid hown1
  clear hz hown1
  go_wp2_with (at_builtin; refine wpl_app_text rfl _ _ rfl b z _ x s rfl rfl HOWN.out hb1l (by omega) (by omega) ?_; intro oa' oc' w' hown2 hgr hg'; have o7 := hb1.grown hgr hne1; have d1 := o7.cell 1; have df := o7.frozen 1)
  go_ret2
  refine ⟨rfl, .slice oa' (z + s.size) oc', ⟨.inr ?_, ?_⟩, ?_, ?_⟩
  · exact o7.set 1 _
  · have e1 : (x ++ Lib.strCells s).length = z + s.size := by rw [List.length_append, Lib.strCells_length, HZ.out]
    rw [e1]
    refine own_frm (Frm.setCell (p := fun k => k = b) (Frm.refl _ w') 1 (.inl rfl) _) hown2 (fun k hk e => ?_)
    subst e
    rcases hg' with e2 | e2
    · exact hne1 (hk.symm.trans e2)
    · rw [e2] at hk
      have := HB1.out.lt
      injection hk with hk
      omega
  · refine (hF1.mono (fun _ _ h => .inl h)).trans (Frm.setCell (p := fun k => k = b ∨ (Value.slice oa x.length oc).ownBlock = some k) ((Frm.refl _ w1).grown hgr (fun k hk => .inl (.inr (by rw [HZ.out]; exact hk)))) 1 (.inl (.inl rfl)) _) (fun _ _ h => h)
  · intro g hg
    rcases hg' with e2 | e2
    · left; rw [HZ.out]; exact e2.symm.trans hg
    · right
      rw [e2] at hg
      injection hg with hg
      have := hF1.size
      omega
end
end Go.Proofs.YtdiolfniaiojfaaDoor

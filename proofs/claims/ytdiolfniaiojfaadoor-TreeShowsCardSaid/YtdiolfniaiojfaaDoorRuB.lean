/- A strings.Builder of the call's own: what WriteByte and String do with it. Condition: at most a million bytes. -/
import Derived.Test.YtdiolfniaiojfaaDoorShelf
import Derived.Lib.AppendStr
import Derived.Shelf.Strings.BuilderK
import Derived.Test.YtdiolfniaiojfaaDoorTrM
import Derived.Test.YtdiolfniaiojfaaDoorApI
namespace Go.Proofs.YtdiolfniaiojfaaDoor
open Go.RowKit Go.Shelf
set_option linter.unusedVariables false

/-- Which of this program's numbers stand for the library's. -/
def renBw : Go.Shelf.Ren := ⟨fun | 240 => 23 | 276 => 28 | 167 => 13 | 166 => 21 | n => n, fun | 0 => 0 | 3 => 3 | 4 => 4 | 5 => 5 | 9 => 9 | 20 => 20 | 37 => 35 | 70 => 34 | 72 => 37 | 75 => 43 | 80 => 45 | 127 => 57 | 164 => 61 | n => n, fun | n => n⟩
theorem laidN167 : Go.Proofs.Lays.n167 Tryd.prog renBw where
  mixed := by kernel_rfl
  f167 := Tryd.func13.trans (congrArg some (by kernel_rfl))
  f240 := Tryd.func23.trans (congrArg some (by kernel_rfl))
  f276 := Tryd.func28.trans (congrArg some (by kernel_rfl))
  t0 := Tryd.underlying0
  a0 := Tryd.isAgg0
  z0 := Tryd.sizeOf0
  v0 := Tryd.zeroValue0
  t4 := Tryd.underlying4
  a4 := Tryd.isAgg4
  z4 := Tryd.sizeOf4
  v4 := Tryd.zeroValue4
  t5 := Tryd.underlying5
  a5 := Tryd.isAgg5
  z5 := Tryd.sizeOf5
  v5 := Tryd.zeroValue5
  t9 := Tryd.underlying9
  a9 := Tryd.isAgg9
  z9 := Tryd.sizeOf9
  v9 := Tryd.zeroValue9
  t20 := Tryd.underlying20
  a20 := Tryd.isAgg20
  z20 := Tryd.sizeOf20
  v20 := Tryd.zeroValue20
  t37 := Tryd.underlying35
  a37 := Tryd.isAgg35
  z37 := Tryd.sizeOf35
  v37 := Tryd.zeroValue35
  t70 := Tryd.underlying34
  a70 := Tryd.isAgg34
  z70 := Tryd.sizeOf34
  v70 := Tryd.zeroValue34
  t72 := Tryd.underlying37
  a72 := Tryd.isAgg37
  z72 := Tryd.sizeOf37
  v72 := Tryd.zeroValue37
  t75 := Tryd.underlying43
  a75 := Tryd.isAgg43
  z75 := Tryd.sizeOf43
  v75 := Tryd.zeroValue43
  t164 := Tryd.underlying61
  a164 := Tryd.isAgg61
  z164 := Tryd.sizeOf61
  v164 := Tryd.zeroValue61
theorem laidXw : Builder.Extra Tryd.prog renBw where
  sizeBuilder := by kernel_rfl
  liesBuilder := by kernel_rfl
  t5 := Tryd.underlying5
  a5 := Tryd.isAgg5
  z5 := Tryd.sizeOf5
  v5 := Tryd.zeroValue5
  infoByte := by kernel_rfl
  cellsByte := by kernel_rfl
  sizeByte := by kernel_rfl
  neB5 := by decide
/-- A strings.Builder of the call's own that holds these bytes. -/
def Bld (B : Nat) (x : List Value) (w : World) : Prop := Lib.IsBuilder 37 5 B B x w
theorem bbyte_any (B : Nat) (x : List Value) (c : Int) (w : World) (h : Bld B x w) (hl : x.length ≤ 1000000) (hB : B ≤ w.heap.size) :
    Calls Tryd.prog 13 #[.pointer (some ⟨B, 0, none⟩), .int .u8 c] w fun e w' => e = .returned .nilIface ∧ Bld B (x ++ [.int .u8 c]) w' ∧ Below B w w' :=
  (Any.Builder_WriteByte laidN167 laidXw B B x c w h (by omega) hB).mono fun _ _ ⟨he, hb, hw⟩ => ⟨he, .inr hb, hw⟩
/-- A builder in block b, its bytes in the row v. -/
def BldV (b : Nat) (v : Value) (x : List Value) (W : World) : Prop := (Blk W b #[.pointer none, v] 37 ∨ Blk W b #[.pointer (some ⟨b, 0, none⟩), v] 37) ∧ W.ownsRow b 5 1 v x.length x
theorem BldV.frm {b : Nat} {v : Value} {x : List Value} {W W' : World} {p : Nat → Prop} (h : BldV b v x W) (hf : Frm p W W') (h1 : ¬ p b) (h2 : ∀ g, v.ownBlock = some g → ¬ p g) : BldV b v x W' :=
  ⟨h.1.imp (fun h => h.frm hf h1) (fun h => h.frm hf h1), own_frm hf h.2 h2⟩
theorem BldV.ne {b : Nat} {v : Value} {x : List Value} {W : World} (h : BldV b v x W) : ¬ v.ownBlock = some b := fun e2 => by
  rcases h.2.2 with ⟨g1, _⟩ | ⟨g, cap, cur, g1, _, g3, _⟩
  · rw [g1] at e2; cases e2
  · rw [g1] at e2
    have e' : g = b := by simpa [Value.ownBlock] using e2
    subst e'
    rcases h.1 with hb | hb
    · rw [show W.heap[g]? = _ from hb] at g3
      injection g3 with g3
      injection g3 with _ g5 _
      exact absurd g5 (by decide)
    · rw [show W.heap[g]? = _ from hb] at g3
      injection g3 with g3
      injection g3 with _ g5 _
      exact absurd g5 (by decide)
theorem BldV.lt {b : Nat} {v : Value} {x : List Value} {W : World} (h : BldV b v x W) : b < W.heap.size := by
  rcases h.1 with hb | hb <;> exact hb.lt
theorem BldV.isB {b : Nat} {v : Value} {x : List Value} {W : World} (h : BldV b v x W) : Bld b x W := by
  rcases h.1 with hb | hb
  · exact .inl ⟨Nat.le_refl _, v, hb, h.2, h.ne⟩
  · exact .inr ⟨Nat.le_refl _, v, hb, h.2, h.ne⟩
theorem infoB : (Tryd.prog.info? 5).map (fun i => (i.zero, i.size, i.bytes)) = some (some (.int .u8 0), 1, 1) := by kernel_rfl
section
variable (w : World)
set_option maxRecDepth 100000 in
set_option maxHeartbeats 2000000 in
theorem wbyte_own (b : Nat) (v : Value) (x : List Value) (c : Int) (h : BldV b v x w) (hl : x.length ≤ 900000) :
    Calls Tryd.prog 13 #[.pointer (some ⟨b, 0, none⟩), .int .u8 c] w fun e w' => e = .returned .nilIface ∧ ∃ v', BldV b v' (x ++ [.int .u8 c]) w' ∧ Frm (fun k => k = b ∨ v.ownBlock = some k) w w' ∧ ∀ g, v'.ownBlock = some g → v.ownBlock = some g ∨ w.heap.size ≤ g := by
  have hne := h.ne
  have hown := h.2
  obtain ⟨oa, oc, rfl⟩ : ∃ oa oc, v = .slice oa x.length oc := by
    rcases hown.2 with ⟨h1, h2⟩ | ⟨g, cap, cur, h1, _⟩
    · exact ⟨none, 0, by rw [h1, h2]⟩
    · exact ⟨_, _, h1⟩
  have hcc : Calls Tryd.prog 23 #[.pointer (some ⟨b, 0, none⟩)] w fun e w' => e = .returned (.tuple #[]) ∧ Blk w' b #[.pointer (some ⟨b, 0, none⟩), .slice oa x.length oc] 37 ∧ Frm (fun k => k = b) w w' := by
    rcases h.1 with hb | hb
    · refine (Any.Builder_copyCheck_fresh (ρ := renBw) { laidN167 with } laidXw.toX72 b w (hb.cell 0) (by simp [World.shape?, show w.heap[b]? = _ from hb]; rfl) (hb.frozen 0)).mono ?_
      rintro e w' ⟨rfl, rfl⟩
      exact ⟨rfl, hb.set 0 _, Frm.setCell (p := fun k => k = b) (Frm.refl _ w) 0 (.inl rfl) _⟩
    · refine (Any.Builder_copyCheck_used (ρ := renBw) { laidN167 with } laidXw.toX72 b w (hb.cell 0)).mono ?_
      rintro e w' ⟨rfl, rfl⟩
      exact ⟨rfl, hb, Frm.refl _ _⟩
  have HCC := Lib.hid hcc
  clear hcc
  go_enter Tryd.func13, Tryd.ntmps13
  go_wp2_with fail
  refine (HCC.out).mono ?_
  rintro e w1 ⟨rfl, hb1, hF1⟩
  have hown1 := own_frm hF1 hown (fun k hk e => hne (e ▸ hk))
  obtain ⟨z, hz⟩ : ∃ z, x.length = z := ⟨_, rfl⟩
  have HZ := Lib.hid hz
  have hzl : z ≤ 900000 := by omega
  rw [hz] at hown1 hb1
  have c1 := hb1.cell 1
  have f1 := hb1.frozen 1
  simp only [List.getElem?_toArray, List.getElem?_cons_zero, List.getElem?_cons_succ] at c1
  have hb1l : b ≤ w1.heap.size := by have := hb1.lt; omega
  have hne1 : some b ≠ (Value.slice oa z oc).ownBlock := fun e => hne (by rw [hz]; exact e.symm)
  have HB1 := Lib.hid hb1
  have HOWN := Lib.hid hown1
  clear hz hown1
  go_wp2_with (at_builtin; go_must (refine wpl_app_gen rfl _ _ 35 5 1 1 _ rfl Tryd.underlying35 infoB rfl (by omega) (by omega) b (.slice oa z oc) z x rfl (own_allocI HOWN.out _) _ 1 [.int .u8 c] rfl (src_oneI _ _ _) rfl (by simp [Value.oneCell']) (by omega) (by rw [World.size_alloc]; omega) (z + 1) rfl ?_); intro oa' oc' w' hown2 hgr hg'; go_must (have o7 := (HB1.out.alloc (.cells #[.int .u8 c] 5)).grown hgr hne1; have d1 := o7.cell 1; have df := o7.frozen 1))
  go_ret
  refine ⟨rfl, .slice oa' (z + 1) oc', ⟨.inr ?_, ?_⟩, ?_, ?_⟩
  · exact o7.set 1 _
  · have e1 : (x ++ [Value.int .u8 c]).length = z + 1 := by rw [List.length_append, HZ.out]; rfl
    rw [e1]
    refine own_frm (Frm.setCell (p := fun k => k = b) (Frm.refl _ w') 1 (.inl rfl) _) hown2 (fun k hk e => ?_)
    subst e
    rcases hg' with e2 | e2
    · exact hne1 (hk.symm.trans e2)
    · rw [e2, World.size_alloc] at hk
      have := HB1.out.lt
      injection hk with hk
      omega
  · refine (hF1.mono (fun _ _ h => .inl h)).trans (Frm.setCell (p := fun k => k = b ∨ (Value.slice oa x.length oc).ownBlock = some k) (((Frm.refl _ w1).alloc _).grown hgr (fun k hk => .inl (.inr (by rw [HZ.out]; exact hk)))) 1 (.inl (.inl rfl)) _) (fun _ _ h => h)
  · intro g hg
    rcases hg' with e2 | e2
    · left; rw [HZ.out]; exact e2.symm.trans hg
    · right
      rw [e2, World.size_alloc] at hg
      injection hg with hg
      have := hF1.size
      omega
end
end Go.Proofs.YtdiolfniaiojfaaDoor

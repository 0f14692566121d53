/- What After of layer 11 (tree) returns: all nodes, each behind those below it. Condition: at most ten thousand nodes whose Ups are those of a tree. -/
import Derived.Test.YtmjckjbdkffkoaaTrZa
import Derived.Test.YtmjckjbdkffkoaaApI
namespace Go.Proofs.Ytmjckjbdkffkoaa
open Go.RowKit Go.Shelf
set_option linter.unusedVariables false
attribute [local go_sem] Oper.semAt_some

theorem own_lowerI {w : World} {base b : Nat} {e : TypeId} {k n : Nat} {v : Value} {xs : List Value} (h : w.ownsRow base e k v n xs) (hb : b ≤ base) : w.ownsRow b e k v n xs :=
  owns_base h (fun g hg => Nat.le_trans hb (own_ge h g hg))
/-- What holds ahead of a round of After's range; z: the heap's size where it began. -/
def AfI (w : World) (z Ba : Nat) (pre : List Nat) (T : Nat → Prop) (W : World) : Prop :=
  ∃ v, Blk W Ba #[v] 25 ∧ W.ownsRow (z + 2) 3 1 v pre.length (cellsO pre) ∧ (∀ g, v.ownBlock = some g → ¬ T g) ∧ (∀ b, T b → z + 2 ≤ b) ∧ z + 2 ≤ W.heap.size ∧ Below w.heap.size w W
theorem AfI.abid {w : World} {z Ba : Nat} (hb : Ba < z) (hw : w.heap.size ≤ z) : AbidL (z + 1) (AfI w z Ba) := by
  rintro pre T W W' T' ⟨v, h1, h3, h2, hT, hzW, hB⟩ hf hT'
  have no : ∀ b, b < z → ¬ (T b ∨ b = z + 1) := fun b hb hh => by rcases hh with g | g; have := hT b g; omega; omega
  refine ⟨v, h1.frm hf (no _ hb), own_frm hf h3 (fun g hg hh => ?_), fun g hg hh => ?_, fun b hb => ?_, ?_, ?_⟩
  · rcases hh with e | e
    · exact h2 g hg e
    · have := own_ge h3 g hg; omega
  · rcases hT' g hh with e | e
    · exact h2 g hg e
    · have := own_lt h3 g hg; omega
  · rcases hT' b hb with e | e
    · exact hT b e
    · omega
  · have := hf.size; omega
  · exact hB.trans ((hf.below (n := w.heap.size) hB.size (fun b hh => by rcases hh with e | e; have := hT b e; omega; omega)))
section
variable (w : World)
set_option maxRecDepth 100000 in
set_option maxHeartbeats 8000000 in
theorem after_any (ao : Option Addr) (len cap : Nat) (nv : Nat → Nd) (hrow : NRow w ao len nv) (hs : Sp nv len) (hl : len ≤ 10000) (hlen : (ups nv len).length = len) :
    Calls Try.prog 6 #[.slice ao len cap] w fun e w' => ∃ v, e = .returned v ∧ w'.ownsRow w.heap.size 3 1 v len (cellsO (ups nv len)) ∧ Below w.heap.size w w' := by
  have HROW := Lib.hid hrow
  have HSP := Lib.hid hs
  have HLEN := Lib.hid hlen
  refine (callsIn_wide (n := 5)).1 ?_
  have hfn : Fence.wide.fn 6 := trivial
  have bb := Blk.new w #[.slice none 0 0] 25
  have hB0 : Below w.heap.size w (w.alloc (.cells #[.slice none 0 0] 25)) := (Below.refl _ w).alloc (Nat.le_refl _) _
  have hz0 : (w.alloc (.cells #[.slice none 0 0] 25)).heap.size = w.heap.size + 1 := by simp
  clear hrow hs hlen
  refine callsIn_of_wp_marks Try.func6 rfl hfn ?_ rfl
  refine (wpIn_wide (n := 5)).2 ?_
  simp only [Try.ntmps6, List.size_toArray, List.length_cons, List.length_nil, Nat.reduceAdd, Nat.reduceSub, Array.replicate_succ, Array.replicate_zero, List.push_toArray, List.append_toArray, List.nil_append, List.cons_append]
  go_wp2_with fail
  obtain ⟨W0, hW0⟩ : ∃ X, w.alloc (.cells #[.slice none 0 0] 25) = X := ⟨_, rfl⟩
  rw [hW0] at bb hB0 hz0 ⊢
  clear hW0
  obtain ⟨Ba, h6⟩ : ∃ x, w.heap.size = x := ⟨_, rfl⟩
  have H6 := Lib.hid h6
  rw [h6] at bb hz0 ⊢
  refine (upward_any W0 ao len cap).mono ?_
  rintro en W1 ⟨rfl, hW1⟩
  obtain ⟨Bx, h5⟩ : ∃ x, W0.heap.size = x := ⟨_, rfl⟩
  have bx := Blk.new W0 #[.slice ao len cap] 22
  rw [← hW1] at bx
  have hB1 : Below W0.heap.size W0 W1 := by rw [hW1]; exact (Below.refl _ _).alloc (Nat.le_refl _) _
  have hz1 : W1.heap.size = W0.heap.size + 1 := by rw [hW1]; simp
  rw [h5] at bx hz1 ⊢
  clear hW1
  have hBw : Below w.heap.size w W1 := hB0.trans (hB1.mono hB0.size)
  have hrow1 : NRow W1 ao len nv := HROW.out.below hBw
  have hseq : ∀ W, Below W1.heap.size W1 W → SeqT (5 - 1) Try.prog 14 #[.pointer (some ⟨Bx, 0, none⟩)] (fun x : Nat => #[.int .i64 (x : Int)]) (CapN Bx ao len) (ups nv len) W := fun W hW =>
    up_seq 4 (by omega) Bx ao len cap nv hl W (bx.below hW) (hrow1.below hW) HSP.out
  have hord : Ba < W1.heap.size ∧ w.heap.size ≤ W1.heap.size := by omega
  have hcge : ∀ b, CapN Bx ao len b → (b < Ba ∨ Ba < b) ∧ b < W1.heap.size := by
    rintro b (rfl | ⟨h1, off, h2⟩)
    · omega
    · obtain ⟨b', off', e, hlt, _⟩ := HROW.out 0 h1
      rw [h2] at e
      injection e with e
      injection e with e1 e2
      omega
  have HSEQ := Lib.hid hseq
  have HCG := Lib.hid hcge
  have HL := Lib.hid hl
  have cb := bb.below (hB1.mono (Nat.le_refl _))
  clear hseq hcge h6 bb hB0 hz0 hB1 hz1 hrow1 bx h5 hl
  go_wp2
  refine (wpIn_wide (n := 5)).1 (wpT (L := ups nv len) (encs := fun x : Nat => #[.int .i64 (x : Int)]) (C := CapN Bx ao len) (gf := 14) (lb := #[.pointer (some ⟨Bx, 0, none⟩)]) rfl (enters_of Try.func14 (by kernel_rfl) rfl) HSEQ.out (fun b hb => (HCG.out b hb).2) ?hps
    (AfI w W1.heap.size Ba) (fun _ _ _ _ => False) (AfI.abid hord.1 hord.2) (fun _ _ _ _ _ _ h _ _ => h) ?start ?round ?fin ?stop)
  case hps => intro x; rfl
  case start =>
    intro W hB hz
    exact ⟨.slice none 0 0, cb.below hB, World.ownsRow_nil _ _ _ _, (fun g hg => by cases hg), (fun b hb => hb.elim), by omega, hBw.trans (hB.mono hBw.size)⟩
  case stop => rintro c pre T W h; exact h.elim
  case fin =>
    rintro T W ⟨v, h1, h3, h2, hT, hzW, hB⟩ hWz hWd
    have c0 := h1.cell 0
    have H3 := Lib.hid h3
    have HD := Lib.hid hWd
    clear h2 h3
    dsimp only
    go_wp2
    refine ⟨by simp, .inl ⟨_, _, rfl, run_takeDeferred HD.out, ?_⟩⟩
    refine ⟨v, ?_, ⟨v, rfl, ?_, ?_⟩⟩
    · simp [results, Try.f6, go_sem]
    · have hne : ∀ g, v.ownBlock = some g → g ≠ W1.heap.size := fun g hg => by have := own_ge H3.out g hg; omega
      have := own_frm (p := fun b => b = W1.heap.size) (frm_put W (l := W1.heap.size) (.deferred none) rfl) H3.out hne
      rw [HLEN.out] at this
      exact own_lowerI this (by omega)
    · exact hB.trans (belowK_b (w := w) (Nat.le_refl _) W W1.heap.size _ _ (by omega) HD.out rfl rfl)
  case round =>
    rintro pre x rest T W hLx ⟨v, h1, h3, h2, hT, hzW, hB⟩ hTb hWz hrec hdef t1 t2
    gi_wp2
    refine ⟨trivial, trivial, KpT.refl _ _ _, fun r => ?_⟩
    obtain ⟨W3, hW3⟩ : ∃ X, W.putObj (W1.heap.size + 1) (.loop r) = X := ⟨_, rfl⟩
    have z3 : W3.heap.size = W.heap.size := by rw [← hW3]; simp
    have hF3 : Frm (fun b => b = W1.heap.size + 1) W W3 := by
      rw [← hW3]
      exact frm_put (p := fun b => b = W1.heap.size + 1) W _ rfl
    rw [hW3]
    clear hW3 hrec hdef
    have hb3 := h1.frm hF3 (by omega)
    have ho3 := own_frm hF3 h3 (fun g hg e => by have := own_ge h3 g hg; omega)
    have hBW3 : Below w.heap.size w W3 := hB.trans (hF3.below (by omega) (fun b hb => by omega))
    have hlpre : pre.length + 1 ≤ 10000 := by
      have h4 := HLEN.out
      have h5 := HL.out
      rw [hLx, List.length_append, List.length_cons] at h4
      omega
    obtain ⟨z, hz⟩ : ∃ z, pre.length = z := ⟨_, rfl⟩
    rw [hz] at ho3 hlpre
    have c3 := hb3.cell 0
    have f3 := hb3.frozen 0
    have hvl := own_lt h3
    have hvg := own_ge h3
    have HO3 := Lib.hid ho3
    have HZ := Lib.hid hz
    have HB3 := Lib.hid hb3
    have HZ3 := Lib.hid z3
    have HVL := Lib.hid hvl
    have HVG := Lib.hid hvg
    have H2 := Lib.hid h2
    clear h1 h2 h3 hLx ho3 hz hb3 z3 hvl hvg
    simp only [List.getElem?_toArray, List.getElem?_cons_zero] at c3
    gi_wp2_with (gi_at_builtin; go_must (refine wplIn_app_gen rfl _ _ 25 3 1 8 _ rfl Try.underlying25 infoI rfl (by omega) (by omega) (W1.heap.size + 2) v z (cellsO pre) rfl (own_allocI HO3.out _) _ 1 [.int .i64 (x : Int)] rfl (src_one _ _ _) rfl (by simp [Value.oneCell']) (by omega) (by rw [World.size_alloc, HZ3.out]; omega) (z + 1) rfl ?_); intro oa8 c8 W8 hown8 hgr8 hg8; have b8 := (HB3.out.alloc (.cells #[.int .i64 (x : Int)] 3)).grown hgr8 (fun e => by have := HVG.out _ e.symm; have := hord.1; omega); have d8 := b8.cell 0; have e8 := b8.frozen 0)
    have hF8 : Frm (fun b => b = Ba ∨ v.ownBlock = some b) W3 W8 := ((Frm.refl (fun b => b = Ba ∨ v.ownBlock = some b) W3).alloc _).grown hgr8 (fun k hk => .inl (.inr hk))
    have hF9 : Frm (fun b => b = Ba ∨ v.ownBlock = some b) W3 (W8.setCell ⟨Ba, 0, none⟩ (.slice oa8 (z + 1) c8)) := hF8.setCell 0 (.inl (.inl rfl)) _
    have hno : ∀ b, b < W1.heap.size + 2 → b ≠ Ba → ¬ (b = Ba ∨ v.ownBlock = some b) := fun b hb hn hh => by
      rcases hh with e | e
      · exact hn e
      · have := HVG.out b e; omega
    have hs8 := hF8.size
    have hz3 := HZ3.out
    have k9 := b8.set 0 (.slice oa8 (z + 1) c8)
    have hge8 := own_ge hown8
    have ho9 := own_frm (p := fun b => b = Ba) (Frm.setCell (p := fun b => b = Ba) (Frm.refl _ W8) 0 (.inl rfl) (.slice oa8 (z + 1) c8)) hown8 (fun g hg e => by have := hge8 g hg; omega)
    refine ⟨hF9.block _ (by omega) (hno _ (by omega) (by omega)), hF9.block _ (by omega) (hno _ (by omega) (by omega)), KpT.of_frm hF9 (fun b _ hb => ⟨fun ht => ?_, fun hc => ?_⟩), ⟨.slice oa8 (z + 1) c8, k9, ?_, fun g hg ht => ?_, hT, ?_, ?_⟩⟩
    · rcases hb with e | e
      · have := hT b ht; omega
      · exact H2.out b e ht
    · have h1 := HCG.out b hc
      rcases hb with e | e
      · omega
      · have := HVG.out b e; omega
    · rw [List.length_append, HZ.out, cellsO_append]
      exact ho9
    · rcases hg8 with e | e
      · exact H2.out g (e.symm.trans hg) ht
      · rw [e, World.size_alloc, HZ3.out] at hg
        injection hg with hg
        have := hTb g ht
        omega
    · have := hF9.size; omega
    · exact hBW3.trans (hF9.below (by have := hBW3.size; omega) (fun b hb => by
        have := H6.out
        rcases hb with e | e
        · omega
        · have := HVG.out b e; omega))
end
end Go.Proofs.Ytmjckjbdkffkoaa

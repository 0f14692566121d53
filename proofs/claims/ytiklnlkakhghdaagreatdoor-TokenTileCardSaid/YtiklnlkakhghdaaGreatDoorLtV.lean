/- What Bare of layer 8 (literal) returns: the text of all pieces. Condition: texts of at most 60,000 bytes. -/
import Derived.Test.YtiklnlkakhghdaaGreatDoorLtW
namespace Go.Proofs.YtiklnlkakhghdaaGreatDoor
open Go.RowKit Go.Shelf
set_option linter.unusedVariables false
attribute [local go_sem] Oper.semAt_some

/-- What holds ahead of a round of Bare's range; z: the heap's size where it began. -/
def BaI (w : World) (z Bb : Nat) (pre : List Pc) (T : Nat → Prop) (W : World) : Prop :=
  ∃ v, BldV Bb v (Lib.strCells (catW (fun x => x.t) pre)) W ∧ (∀ g, v.ownBlock = some g → z + 2 ≤ g ∧ ¬ T g) ∧ (∀ b, T b → z + 2 ≤ b) ∧ z + 2 ≤ W.heap.size ∧ Below w.heap.size w W
theorem BaI.abid {w : World} {z Bb : Nat} (hb : Bb < z) (hw : w.heap.size ≤ z) : AbidL (z + 1) (BaI w z Bb) := by
  rintro pre T W W' T' ⟨v, h1, h2, hT, hzW, hB⟩ hf hT'
  have no : ∀ b, b < z → ¬ (T b ∨ b = z + 1) := fun b hb hh => by rcases hh with g | g; have := hT b g; omega; omega
  refine ⟨v, h1.frm hf (no _ hb) (fun g hg hh => ?_), fun g hg => ⟨(h2 g hg).1, fun hh => ?_⟩, fun b hb => ?_, ?_, ?_⟩
  · have := h2 g hg
    rcases hh with e | e
    · exact this.2 e
    · omega
  · rcases hT' g hh with e | e
    · exact (h2 g hg).2 e
    · have := own_lt h1.2 g hg; omega
  · rcases hT' b hb with e | e
    · exact hT b e
    · omega
  · have := hf.size; omega
  · exact hB.trans ((hf.below (n := w.heap.size) hB.size (fun b hh => by rcases hh with e | e; have := hT b e; omega; omega)))
section
variable (w : World)
set_option maxRecDepth 100000 in
set_option maxHeartbeats 8000000 in
theorem bare8_any (s : ByteArray) (hs : s.size ≤ 60000) :
    Calls Tryz.prog 56 #[.string s] w fun e w' => e = .returned (.string (bareL (PCs s))) ∧ Below w.heap.size w w' := by
  have hok := pcOk_t hs
  have HPI := Lib.hid (fun W => pieces_any W s hs)
  have hcb : catW (fun x => x.t) (PCs s) = bareL (PCs s) := catW_t _
  have HCB := Lib.hid hcb
  clear hcb
  refine (callsIn_wide (n := 5)).1 ?_
  have hfn : Fence.wide.fn 56 := trivial
  have bb := Blk.new w #[.pointer none, .slice none 0 0] 109
  have hB0 : Below w.heap.size w (w.alloc (.cells #[.pointer none, .slice none 0 0] 109)) := (Below.refl _ w).alloc (Nat.le_refl _) _
  have hz0 : (w.alloc (.cells #[.pointer none, .slice none 0 0] 109)).heap.size = w.heap.size + 1 := by simp
  refine callsIn_of_wp_marks Tryz.func56 rfl hfn ?_ rfl
  refine (wpIn_wide (n := 5)).2 ?_
  simp only [Tryz.ntmps56, List.size_toArray, List.length_cons, List.length_nil, Nat.reduceAdd, Nat.reduceSub, Array.replicate_succ, Array.replicate_zero, List.push_toArray, List.append_toArray, List.nil_append, List.cons_append]
  go_wp2_with fail
  obtain ⟨W0, hW0⟩ : ∃ X, w.alloc (.cells #[.pointer none, .slice none 0 0] 109) = X := ⟨_, rfl⟩
  rw [hW0] at bb hB0 hz0 ⊢
  clear hW0
  obtain ⟨Bb, h6⟩ : ∃ x, w.heap.size = x := ⟨_, rfl⟩
  have H6 := Lib.hid h6
  rw [h6] at bb hz0 ⊢
  refine (HPI.out _).mono ?_
  rintro en W1 ⟨mb, Bd, Bf, Bt, Br, rfl, hB1, hcap, hbf, hge⟩
  have hz1 := hB1.size
  have hBw : Below w.heap.size w W1 := hB0.trans (hB1.mono hB0.size)
  have hseq : ∀ W, Below W1.heap.size W1 W → SeqT (5 - 1) Tryz.prog 121 #[.pointer (some ⟨Bd, 0, none⟩), .pointer (some ⟨Bf, 0, none⟩), .pointer (some ⟨Bt, 0, none⟩), .pointer (some ⟨Br, 0, none⟩)] encC (CapC Bd Bt Br mb) (PCs s) W := fun W hW =>
    top_seq 4 (by omega) s hs mb Bd Bf Bt Br W (hcap.same (fun b hb => hW.block b (hcap.lt b hb))) (hbf.below hW)
  have hord : Bb < W1.heap.size ∧ w.heap.size ≤ W1.heap.size := by omega
  have hcge : ∀ b, CapC Bd Bt Br mb b → Bb < b ∧ b < W1.heap.size := fun b hb => ⟨by have := hge b hb; omega, hcap.lt b hb⟩
  have HSEQ := Lib.hid hseq
  have HCG := Lib.hid hcge
  have HOK := Lib.hid hok
  have cb := bb.below hB1
  clear hseq hcge hcap hbf hge hok h6 bb hB0 hz0 hB1 hz1
  go_wp2
  refine (wpIn_wide (n := 5)).1 (wpT (L := PCs s) (encs := encC) (C := CapC Bd Bt Br mb) (gf := 121) (lb := #[.pointer (some ⟨Bd, 0, none⟩), .pointer (some ⟨Bf, 0, none⟩), .pointer (some ⟨Bt, 0, none⟩), .pointer (some ⟨Br, 0, none⟩)]) rfl (enters_of Tryz.func121 (by kernel_rfl) rfl) HSEQ.out (fun b hb => (HCG.out b hb).2) ?hps
    (BaI w W1.heap.size Bb) (fun _ _ _ _ => False) (BaI.abid hord.1 hord.2) (fun _ _ _ _ _ _ h _ _ => h) ?start ?round ?fin ?stop)
  case hps => intro x; rfl
  case start =>
    intro W hB hz
    exact ⟨.slice none 0 0, ⟨.inl (cb.below hB), World.ownsRow_nil _ _ _ _⟩, (fun g hg => by cases hg), (fun b hb => hb.elim), by omega, hBw.trans (hB.mono hBw.size)⟩
  case stop => rintro c pre T W h; exact h.elim
  case fin =>
    rintro T W ⟨v, h1, h2, hT, hzW, hB⟩ hWz hWd
    have hstr := Tryz.Builder_String_any_k Bb Bb (catW (fun x => x.t) (PCs s)).data.toList W (Lib.IsBuilderF.of h1.isB) (by have := h1.lt; omega)
    have HSTR := Lib.hid hstr
    have hWd' := Lib.hid hWd
    clear hstr h1 h2
    dsimp only
    go_wp2_with fail
    refine (HSTR.out).mono ?_
    rintro en W2 ⟨rfl, _, hB2, ho2⟩
    have hD2 := ho2 W1.heap.size _ hWd (fun e => by injection e with e'; omega) (fun c fz e => by cases e)
    have HD := Lib.hid hD2
    have HB2 := Lib.hid hB2
    clear ho2 hD2 hB2
    go_wp2
    have hBF : Below w.heap.size w W2 := hB.trans (HB2.out.mono (by have := H6.out; omega))
    refine ⟨by simp, .inl ⟨_, _, rfl, run_takeDeferred HD.out, ?_⟩⟩
    refine ⟨.string (bareL (PCs s)), ?_, rfl, ?_⟩
    · rw [← HCB.out]
      simp [results, Tryz.f56, go_sem]
    · exact hBF.trans (belowK_b (w := w) (Nat.le_refl _) W2 W1.heap.size _ _ (by omega) HD.out rfl rfl)
  case round =>
    rintro pre x rest T W hLx ⟨v, h1, h2, hT, hzW, hB⟩ hTb hWz hrec hdef t1 t2
    simp only [encC, aggC]
    gi_wp2
    obtain ⟨W2, hW2⟩ : ∃ X, W.alloc (.cells #[.bool x.ex, .bool x.q, .string x.t] 77) = X := ⟨_, rfl⟩
    have hB2 : Below W.heap.size W W2 := by rw [← hW2]; exact (Below.refl _ _).alloc (Nat.le_refl _) _
    have kX : Blk W2 W.heap.size #[.bool x.ex, .bool x.q, .string x.t] 77 := by rw [← hW2]; exact Blk.new W _ _
    have z2 : W2.heap.size = W.heap.size + 1 := by rw [← hW2]; simp
    rw [hW2]
    clear hW2
    refine ⟨hB2.block _ (by omega), hB2.block _ (by omega), ⟨hB2.size, fun b hb _ => hB2.block b hb⟩, fun r => ?_⟩
    obtain ⟨W3, hW3⟩ : ∃ X, W2.putObj (W1.heap.size + 1) (.loop r) = X := ⟨_, rfl⟩
    have z3 : W3.heap.size = W.heap.size + 1 := by rw [← hW3, ← z2]; simp
    have hF3 : Frm (fun b => b = W1.heap.size + 1) W W3 := by
      rw [← hW3]
      exact (Frm.of_below hB2).trans (frm_put (p := fun b => b = W1.heap.size + 1) W2 _ rfl) (fun _ _ h => h)
    have kX3 : Blk W3 W.heap.size #[.bool x.ex, .bool x.q, .string x.t] 77 := by
      rw [← hW3]
      exact (World.putObj_heap_other (by omega)).trans kX
    rw [hW3]
    clear hW3 kX hB2 z2 hrec hdef
    have hb3 := h1.frm hF3 (by omega) (fun g hg e => by have := (h2 g hg).1; omega)
    have x2 := kX3.cell 2
    have hBW3 : Below w.heap.size w W3 := hB.trans (hF3.below (by omega) (fun b hb => by omega))
    have hokx := HOK.out pre x rest hLx
    have HOK2 := Lib.hid hokx
    have hwl : w.heap.size ≤ W3.heap.size := hBW3.size
    have hvlt : ∀ g, v.ownBlock = some g → g < W.heap.size := own_lt h1.2
    have H2 := Lib.hid h2
    have hws := wstring_own W3 Bb v (Lib.strCells (catW (fun x => x.t) pre)) x.t hb3 (by rw [Lib.strCells_length]; have := hokx.2.1; omega) (by have := hokx.1; omega)
    have HWS := Lib.hid (CallsIn.inRound (W1.heap.size + 1) ((callsIn_wide (n := 5 - 1 - 1 - 1)).2 hws))
    have h11 : 1 ≤ 5 - 1 - 1 := by omega
    clear h1 h2 hb3 hLx hws hokx
    gi_wp2_with fail
    refine ⟨trivial, (HWS.out).mono ?_⟩
    rintro en W7 ⟨rfl, v', hv7, hF7, hg7⟩
    have hno : ∀ b, b < W1.heap.size + 2 → b ≠ Bb → ¬ (b = Bb ∨ v.ownBlock = some b) := fun b hb hn hh => by
      rcases hh with e | e
      · exact hn e
      · have := (H2.out b e).1; omega
    have g1 := hF7.block (W1.heap.size + 1) (by omega) (hno _ (by omega) (by omega))
    have g2 := hF7.block W1.heap.size (by omega) (hno _ (by omega) (by omega))
    have hII : BaI w W1.heap.size Bb (pre ++ [x]) T W7 := by
      refine ⟨v', by rw [catW_snoc]; exact hv7, fun g hg => ?_, hT, by have := hF7.size; omega, ?_⟩
      · rcases hg7 g hg with e | e
        · exact H2.out g e
        · exact ⟨by omega, fun ht => by have := hTb g ht; omega⟩
      · exact hBW3.trans (hF7.below hwl (fun b hb => by
          have := H6.out
          rcases hb with e | e
          · omega
          · have := (H2.out b e).1; omega))
    have HII := Lib.hid hII
    have hKK : KpT (CapC Bd Bt Br mb) T W3 W7 := KpT.of_frm hF7 (fun b _ hb => ⟨fun ht => by
        rcases hb with e | e
        · have := hT b ht; omega
        · exact (H2.out b e).2 ht, fun hc => by
        have h1 := HCG.out b hc
        rcases hb with e | e
        · omega
        · have := (H2.out b e).1; omega⟩)
    have HKK := Lib.hid hKK
    clear hII hKK
    gi_wp2
    exact ⟨g1, g2, HKK.out, HII.out⟩
end
end Go.Proofs.YtiklnlkakhghdaaGreatDoor

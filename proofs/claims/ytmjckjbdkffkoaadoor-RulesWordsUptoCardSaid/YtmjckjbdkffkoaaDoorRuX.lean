/- What row of layer 12 (rules) returns, of a node whose kids lie one right behind the other. Condition: at most ten thousand leaves and nodes. -/
import Derived.Test.YtmjckjbdkffkoaaDoorRuW
import Derived.Test.YtmjckjbdkffkoaaDoorRuB
namespace Go.Proofs.YtmjckjbdkffkoaaDoor
open Go.RowKit Go.Shelf
set_option linter.unusedVariables false
attribute [local go_sem] Oper.semAt_some

/-- Bytes as a text. -/
def btsN (L : List Nat) : ByteArray := ⟨(L.map fun x => x.toUInt8).toArray⟩
def cellsB (L : List Nat) : List Value := L.map fun x : Nat => .int .u8 (x : Int)
theorem cellsB_bytes {L : List Nat} (h : ∀ x ∈ L, x < 256) : cellsB L = Lib.byteCells (L.map fun x => x.toUInt8) := by
  unfold cellsB Lib.byteCells
  rw [List.map_map]
  refine List.map_congr_left (fun x hx => ?_)
  have := h x hx
  simp
  omega
theorem cellsB_snoc (L : List Nat) (x : Nat) : cellsB (L ++ [x]) = cellsB L ++ [.int .u8 (x : Int)] := by unfold cellsB; rw [List.map_append]; rfl
theorem cellsB_length (L : List Nat) : (cellsB L).length = L.length := by simp [cellsB]
theorem letN_lt (k : Int) : letN k < 256 := by
  unfold letN
  generalize (k - 1).toNat = j
  by_cases h : j < 18
  · have : ∀ j, j < 18 → [80, 76, 65, 73, 83, 88, 87, 82, 66, 85, 70, 72, 79, 67, 84, 78, 69, 77].getD j 63 < 256 := by decide
    exact this j h
  · rw [List.getD_eq_getElem?_getD, List.getElem?_eq_none (by simpa using h)]
    decide
theorem segP_lt {sg : Nat → Nat} (h : ∀ i, sg i < 256) : ∀ (d a : Nat), ∀ x ∈ segP sg a d, x < 256
  | 0, a, x, hx => by cases hx
  | d + 1, a, x, hx => by
    rcases List.mem_cons.1 hx with rfl | hx
    · exact h a
    · exact segP_lt h d (a + 1) x hx
theorem rowTg_lt {sg : Nat → Nat} (h : ∀ i, sg i < 256) (nv : Nat → Nd) (ks : List Nat) (a e : Nat) : ∀ x ∈ rowTg sg nv ks a e, x < 256 := by
  intro x hx
  rcases List.mem_append.1 hx with hx | hx
  · obtain ⟨k, _, rfl⟩ := List.mem_map.1 hx
    exact letN_lt _
  · exact segP_lt h _ _ x hx
theorem rowTg_len (sg : Nat → Nat) (nv : Nat → Nd) (ks : List Nat) (a e : Nat) : (rowTg sg nv ks a e).length ≤ ks.length + e := by
  unfold rowTg rowK
  rw [List.length_append, List.length_map, segP_len]
  omega
/-- What holds ahead of a round of row's range; z: the heap's size where it began. -/
def RoI (w : World) (z Bb : Nat) (pre : List Nat) (T : Nat → Prop) (W : World) : Prop :=
  ∃ v, BldV Bb v (cellsB pre) W ∧ (∀ g, v.ownBlock = some g → z + 2 ≤ g ∧ ¬ T g) ∧ (∀ b, T b → z + 2 ≤ b) ∧ z + 2 ≤ W.heap.size ∧ Below w.heap.size w W
theorem RoI.abid {w : World} {z Bb : Nat} (hb : Bb < z) (hw : w.heap.size ≤ z) : AbidL (z + 1) (RoI w z Bb) := by
  rintro pre T W W' T' ⟨v, h1, h2, hT, hzW, hB⟩ hf hT'
  have no : ∀ b, b < z → ¬ (T b ∨ b = z + 1) := fun b hb hh => by rcases hh with g | g; have := hT b g; omega; omega
  refine ⟨v, h1.frm hf (no _ hb) (fun g hg hh => ?_), fun g hg => ⟨(h2 g hg).1, fun hh => ?_⟩, fun b hb => ?_, ?_, ?_⟩
  · have := h2 g hg
    rcases hh with e | e
    · exact this.2 e
    · omega
  · rcases hT' g hh with e | e
    · exact (h2 g hg).2 e
    · have := own_lt h1.2 g hg; omega
  · rcases hT' b hb with e | e
    · exact hT b e
    · omega
  · have := hf.size; omega
  · exact hB.trans ((hf.below (n := w.heap.size) hB.size (fun b hh => by rcases hh with e | e; have := hT b e; omega; omega)))
section
variable (w : World)
theorem pieces_any (v : Vw) :
    Calls Tryd.prog 88 #[.agg v.cs] w fun e w' => e = .returned (.func (.func 108) #[] #[.pointer (some ⟨w.heap.size, 0, none⟩)]) ∧ w' = w.alloc (.cells v.cs 74) := by
  unfold Vw.cs
  go_enter Tryd.func88, Tryd.ntmps88
  go_wp2
  go_ret
  exact ⟨rfl, rfl⟩
set_option maxRecDepth 100000 in
set_option maxHeartbeats 8000000 in
theorem vrow_any (v : Vw) (lv : Nat → Lf) (nv : Nat → Nd) (ks : List Nat) (hV : VwOk w v lv nv ks) (a e : Nat) (hf : (nv v.i).f = (a : Int)) (ht : (nv v.i).t = (e : Int)) (hle : e ≤ v.ln) (hk : KdT nv ks a e) (hkn : v.kn ≤ 10000) :
    Calls Tryd.prog 71 #[.agg v.cs] w fun r w' => r = .returned (.string (btsN (rowTg (fun i => sgn (lv i).k (lv i).s) nv ks a e))) ∧ Below w.heap.size w w' := by
  have h256 := rowTg_lt (sg := fun i => sgn (lv i).k (lv i).s) (fun i => sgn_lt _ _) nv ks a e
  have hlen : (rowTg (fun i => sgn (lv i).k (lv i).s) nv ks a e).length ≤ 30000 := by
    have h1 := rowTg_len (fun i => sgn (lv i).k (lv i).s) nv ks a e
    have h2 := hV.k.len
    have h3 := hV.ln
    omega
  refine (callsIn_wide (n := 5)).1 ?_
  have hfn : Fence.wide.fn 71 := trivial
  have HV := Lib.hid hV
  have hB0 : Below w.heap.size w ((w.alloc (.cells v.cs 74)).alloc (.cells #[.pointer none, .slice none 0 0] 58)) := ((Below.refl _ w).alloc (Nat.le_refl _) _).alloc (by simp) _
  have bb := Blk.new (w.alloc (.cells v.cs 74)) #[.pointer none, .slice none 0 0] 58
  have bv := (Blk.new w v.cs 74).alloc (.cells #[.pointer none, .slice none 0 0] 58)
  have hz0 : ((w.alloc (.cells v.cs 74)).alloc (.cells #[.pointer none, .slice none 0 0] 58)).heap.size = w.heap.size + 2 := by simp
  simp only [World.size_alloc] at bb
  clear hV
  refine callsIn_of_wp_marks Tryd.func71 rfl hfn ?_ rfl
  refine (wpIn_wide (n := 5)).2 ?_
  simp only [Tryd.ntmps71, List.size_toArray, List.length_cons, List.length_nil, Nat.reduceAdd, Nat.reduceSub, Array.replicate_succ, Array.replicate_zero, List.push_toArray, List.append_toArray, List.nil_append, List.cons_append]
  have HPA := Lib.hid (fun W => pieces_any W v)
  unfold Vw.cs at hB0 bb bv hz0 HPA ⊢
  go_wp2_with fail
  obtain ⟨W0, hW0⟩ : ∃ X, (w.alloc (.cells #[.slice v.la v.ln v.lc, .slice v.ao v.n v.cap, .int .i64 (v.i : Int), .slice v.ka v.kn v.kc] 74)).alloc (.cells #[.pointer none, .slice none 0 0] 58) = X := ⟨_, rfl⟩
  rw [hW0] at bb bv hB0 hz0 ⊢
  clear hW0
  obtain ⟨Bb, h6⟩ : ∃ x, w.heap.size + 1 = x := ⟨_, rfl⟩
  have H6 := Lib.hid h6
  rw [h6] at bb ⊢
  refine (HPA.out _).mono ?_
  rintro en W1 ⟨rfl, hW1⟩
  obtain ⟨Bv, h7⟩ : ∃ x, W0.heap.size = x := ⟨_, rfl⟩
  have kv := Blk.new W0 v.cs 74
  have hB1 : Below W0.heap.size W0 W1 := by rw [hW1]; exact (Below.refl _ _).alloc (Nat.le_refl _) _
  have hz1 : W1.heap.size = W0.heap.size + 1 := by rw [hW1]; simp
  unfold Vw.cs at kv
  rw [← hW1, h7] at kv
  rw [h7] at hz1 ⊢
  have hBw : Below w.heap.size w W1 := hB0.trans (hB1.mono hB0.size)
  have hV1 := HV.out.below hBw
  obtain ⟨sg, hsg⟩ : ∃ sg : Nat → Nat, (fun i => sgn (lv i).k (lv i).s) = sg := ⟨_, rfl⟩
  have hseq : ∀ W, Below W1.heap.size W1 W → SeqT (5 - 1) Tryd.prog 108 #[.pointer (some ⟨Bv, 0, none⟩)] (fun x : Nat => #[.int .u8 (x : Int)]) (CapV Bv v) (rowTg (fun i => sgn (lv i).k (lv i).s) nv ks a e) W := fun W hW =>
    pieces_seq 4 (by omega) Bv v lv nv ks W (hV1.below hW) ((show Blk W1 Bv v.cs 74 from kv).below hW) a e hf ht hle hk hkn
  have hcge : ∀ b, CapV Bv v b → b ≠ Bb ∧ b < W1.heap.size := by
    intro b hb
    refine ⟨?_, hV1.capLt (by omega) b hb⟩
    rcases hb with rfl | rfl | hb | hb | hb
    · omega
    · have := HV.out.tx.1; omega
    · have := HV.out.capLt (Bv := 1) HV.out.tx.1 b (.inr (.inr (.inl hb))); omega
    · have := HV.out.capLt (Bv := 1) HV.out.tx.1 b (.inr (.inr (.inr (.inl hb)))); omega
    · have := HV.out.capLt (Bv := 1) HV.out.tx.1 b (.inr (.inr (.inr (.inr hb)))); omega
  have hord : Bb < W1.heap.size ∧ w.heap.size ≤ W1.heap.size := by omega
  obtain ⟨L, hL⟩ : ∃ L, rowTg (fun i => sgn (lv i).k (lv i).s) nv ks a e = L := ⟨_, rfl⟩
  rw [hL] at hseq h256 hlen
  have hstrs := cellsB_bytes h256
  have HSEQ := Lib.hid hseq
  have HCG := Lib.hid hcge
  have HL := Lib.hid hL
  have HLEN := Lib.hid hlen
  have HSTRS := Lib.hid hstrs
  have cb := bb.below (hB1.mono (Nat.le_refl _))
  clear hseq hcge hL hlen hstrs h256 bb bv hB0 hz0 hB1 hz1 hV1 kv hW1 h7 h6 hsg
  go_wp2
  refine (wpIn_wide (n := 5)).1 (wpT (L := L) (encs := fun x : Nat => #[.int .u8 (x : Int)]) (C := CapV Bv v) (gf := 108) (lb := #[.pointer (some ⟨Bv, 0, none⟩)]) rfl (enters_of Tryd.func108 (by kernel_rfl) rfl) HSEQ.out (fun b hb => (HCG.out b hb).2) ?hps
    (RoI w W1.heap.size Bb) (fun _ _ _ _ => False) (RoI.abid hord.1 hord.2) (fun _ _ _ _ _ _ h _ _ => h) ?start ?round ?fin ?stop)
  case hps => intro x; rfl
  case start =>
    intro W hB hz
    exact ⟨.slice none 0 0, ⟨.inl (cb.below hB), World.ownsRow_nil _ _ _ _⟩, (fun g hg => by cases hg), (fun b hb => hb.elim), by omega, hBw.trans (hB.mono hBw.size)⟩
  case stop => rintro c pre T W h; exact h.elim
  case fin =>
    rintro T W ⟨v9, h1, h2, hT, hzW, hB⟩ hWz hWd
    have hstr := Tryd.Builder_String_any_k Bb Bb (L.map fun x => x.toUInt8) W (Lib.IsBuilderF.of (by have := h1.isB; rw [HSTRS.out] at this; exact this)) (by have := h1.lt; omega)
    have HSTR := Lib.hid hstr
    have hWd' := Lib.hid hWd
    clear hstr h1 h2
    dsimp only
    go_wp2_with fail
    refine (HSTR.out).mono ?_
    rintro en W2 ⟨rfl, _, hB2, ho2⟩
    have hD2 := ho2 W1.heap.size _ hWd (fun e => by injection e with e'; omega) (fun c fz e => by cases e)
    have HD := Lib.hid hD2
    have HB2 := Lib.hid hB2
    clear ho2 hD2 hB2
    go_wp2
    have hBF : Below w.heap.size w W2 := hB.trans (HB2.out.mono (by have := H6.out; omega))
    refine ⟨by simp, .inl ⟨_, _, rfl, run_takeDeferred HD.out, ?_⟩⟩
    refine ⟨.string (btsN L), ?_, by rw [HL.out], ?_⟩
    · simp [results, Tryd.f71, go_sem, btsN]
    · exact hBF.trans (belowK_b (w := w) (Nat.le_refl _) W2 W1.heap.size _ _ (by omega) HD.out rfl rfl)
  case round =>
    rintro pre x rest T W hLx ⟨v9, h1, h2, hT, hzW, hB⟩ hTb hWz hrec hdef t1 t2
    gi_wp2
    refine ⟨trivial, trivial, KpT.refl _ _ _, fun r => ?_⟩
    obtain ⟨W3, hW3⟩ : ∃ X, W.putObj (W1.heap.size + 1) (.loop r) = X := ⟨_, rfl⟩
    have z3 : W3.heap.size = W.heap.size := by rw [← hW3]; simp
    have hF3 : Frm (fun b => b = W1.heap.size + 1) W W3 := by
      rw [← hW3]
      exact frm_put (p := fun b => b = W1.heap.size + 1) W _ rfl
    rw [hW3]
    clear hW3 hrec hdef
    have hb3 := h1.frm hF3 (by omega) (fun g hg e => by have := (h2 g hg).1; omega)
    have hBW3 : Below w.heap.size w W3 := hB.trans (hF3.below (by omega) (fun b hb => by omega))
    have hwl : w.heap.size ≤ W3.heap.size := hBW3.size
    have H2 := Lib.hid h2
    have hpl : pre.length ≤ 30000 := by
      have := HLEN.out
      rw [hLx, List.length_append] at this
      omega
    have hws := wbyte_own W3 Bb v9 (cellsB pre) (x : Int) hb3 (by rw [cellsB_length]; omega)
    have HWS := Lib.hid (CallsIn.inRound (W1.heap.size + 1) ((callsIn_wide (n := 5 - 1 - 1 - 1)).2 hws))
    have h11 : 1 ≤ 5 - 1 - 1 := by omega
    clear h1 h2 hb3 hLx hws
    gi_wp2_with fail
    refine ⟨trivial, (HWS.out).mono ?_⟩
    rintro en W7 ⟨rfl, v', hv7, hF7, hg7⟩
    have hno : ∀ b, b < W1.heap.size + 2 → b ≠ Bb → ¬ (b = Bb ∨ v9.ownBlock = some b) := fun b hb hn hh => by
      rcases hh with e | e
      · exact hn e
      · have := (H2.out b e).1; omega
    have g1 := hF7.block (W1.heap.size + 1) (by omega) (hno _ (by omega) (by omega))
    have g2 := hF7.block W1.heap.size (by omega) (hno _ (by omega) (by omega))
    have hII : RoI w W1.heap.size Bb (pre ++ [x]) T W7 := by
      refine ⟨v', by rw [cellsB_snoc]; exact hv7, fun g hg => ?_, hT, by have := hF7.size; omega, ?_⟩
      · rcases hg7 g hg with e | e
        · exact H2.out g e
        · exact ⟨by omega, fun ht => by have := hTb g ht; omega⟩
      · exact hBW3.trans (hF7.below hwl (fun b hb => by
          have := H6.out
          rcases hb with e | e
          · omega
          · have := (H2.out b e).1; omega))
    have HII := Lib.hid hII
    have hKK : KpT (CapV Bv v) T W3 W7 := KpT.of_frm hF7 (fun b _ hb => ⟨fun ht => by
        rcases hb with e | e
        · have := hT b ht; omega
        · exact (H2.out b e).2 ht, fun hc => by
        have h1 := HCG.out b hc
        rcases hb with e | e
        · exact h1.1 e
        · have := (H2.out b e).1; omega⟩)
    have HKK := Lib.hid hKK
    clear hII hKK
    gi_wp2
    exact ⟨g1, g2, HKK.out, HII.out⟩
end
end Go.Proofs.YtmjckjbdkffkoaaDoor

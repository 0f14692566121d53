/- What Show of layer 11 (tree) returns: a right tree's text, else none. Condition: rows of at most 40 nodes whose numbers are ints; the library's table of powers of ten lies as start-up lays it. -/
import Derived.Test.YtdiolfniaiojfaaDoorTrTb
import Derived.Test.YtdiolfniaiojfaaDoorTrZa
import Derived.Test.YtdiolfniaiojfaaDoorTrA
import Derived.Test.YtdiolfniaiojfaaDoorTrB
namespace Go.Proofs.YtdiolfniaiojfaaDoor
open Go.RowKit Go.Shelf Go.Lib
set_option linter.unusedVariables false
set_option linter.unusedSectionVars false
attribute [local go_sem] Oper.semAt_some

/-! How long the text is while it is told. -/
theorem hsL_split {nv : Nat → Nd} {b c : Nat} (h : b ≤ c) : ∀ d, hsL nv b (c + d) = hsL nv b c ++ hsL nv c (c + d)
  | 0 => by rw [Nat.add_zero, hsL_nil (Nat.le_refl c), List.append_nil]
  | d + 1 => by rw [← Nat.add_assoc, hsL_succ (by omega), hsL_split h d, hsL_succ (by omega), List.append_assoc]
theorem hsL_le {nv : Nat → Nd} {b c e : Nat} (h : b ≤ c) (g : c ≤ e) : (hsL nv b c).length ≤ (hsL nv b e).length := by
  obtain ⟨d, rfl⟩ : ∃ d, e = c + d := ⟨e - c, by omega⟩
  rw [hsL_split h d, List.length_append]
  omega
theorem shS_len {nv : Nat → Nd} (s : Nat × List UInt8) (x : Nat) : s.2.length + (hsL nv s.1 (x + 1)).length ≤ (shS nv s x).2.length := by
  unfold shS
  simp only [List.length_append]
  omega
theorem fold_len {nv : Nat → Nd} : ∀ (l : List Nat) (s : Nat × List UInt8), s.2.length ≤ (l.foldl (shS nv) s).2.length
  | [], s => Nat.le_refl _
  | x :: l, s => by
    have h1 := shS_len (nv := nv) s x
    have h2 := fold_len (nv := nv) l (shS nv s x)
    rw [List.foldl_cons]
    omega
theorem fullL_len {nv : Nat → Nd} {n : Nat} (h : Nums nv n) (hn : n ≤ 40) : (fullL nv n).length ≤ 4000 := by
  have h1 := gL_len h hn n (Nat.le_refl n)
  have h2 := chn_len (nv := nv) (n - 1)
  unfold fullL endN shutL
  rw [List.length_append, List.length_replicate]
  omega
/-- Where Show stands ahead of a round of its range. -/
def ShB (w : World) (z Bl Bb Bg : Nat) (ao : Option Addr) (n cap : Nat) (nv : Nat → Nd) (pre : List Nat) (T : Nat → Prop) (W : World) : Prop :=
  ∃ v, BldV Bb v (Lib.strCells (lst (pre.foldl (shS nv) (0, [])).2)) W ∧ Blk W Bg #[.int .i64 ((pre.foldl (shS nv) (0, [])).1 : Int)] 3 ∧ Blk W Bl #[.slice ao n cap] 22 ∧
    (∀ g, v.ownBlock = some g → ¬ T g ∧ z + 2 ≤ g) ∧ (∀ b, T b → z + 2 ≤ b) ∧ z + 2 ≤ W.heap.size ∧ Below w.heap.size w W
theorem ShB.abid {w : World} {z Bl Bb Bg : Nat} {ao : Option Addr} {n cap : Nat} {nv : Nat → Nd} (h1 : Bl < z) (h2 : Bb < z) (h3 : Bg < z) (hw : w.heap.size ≤ z) : AbidL (z + 1) (ShB w z Bl Bb Bg ao n cap nv) := by
  rintro pre T W W' T' ⟨v, hb, hg, hl, hv, hT, hzW, hB⟩ hf hT'
  have no : ∀ b, b < z → ¬ (T b ∨ b = z + 1) := fun b hb hh => by rcases hh with g | g; have := hT b g; omega; omega
  have nv' : ∀ g, v.ownBlock = some g → ¬ (T g ∨ g = z + 1) := fun g hg hh => by
    have := hv g hg
    rcases hh with e | e
    · exact this.1 e
    · omega
  refine ⟨v, hb.frm hf (no _ h2) nv', hg.frm hf (no _ h3), hl.frm hf (no _ h1), fun g hg => ⟨fun hh => ?_, (hv g hg).2⟩, fun b hb => ?_, ?_, ?_⟩
  · rcases hT' g hh with e | e
    · exact (hv g hg).1 e
    · have := own_lt hb.2 g hg; omega
  · rcases hT' b hb with e | e
    · exact hT b e
    · omega
  · have := hf.size; omega
  · exact hB.trans (hf.below (n := w.heap.size) hB.size (fun b hh => by rcases hh with e | e; have := hT b e; omega; omega))
/-- What begun holds. -/
def bgC (W : World) (Bg : Nat) : Nat := match W.cell? ⟨Bg, 0, none⟩ with
  | some (.int _ i) => i.toNat
  | _ => 0
theorem bgC_of {W : World} {Bg b : Nat} (h : Blk W Bg #[.int .i64 (b : Int)] 3) : bgC W Bg = b := by
  unfold bgC
  have := h.cell 0
  simp at this
  rw [this]
  simp
/-- The loop over the nodes that begin. -/
def ShL (nv : Nat → Nd) (Bl Bb Bg : Nat) (ao : Option Addr) (n cap b0 x : Nat) (t0 : List UInt8) (v0 : Value) (W3 wr : World) : Prop :=
  ∃ (b : Nat) (v : Value), b0 ≤ b ∧ b ≤ max b0 (x + 1) ∧ BldV Bb v (Lib.strCells (lst (t0 ++ hsL nv b0 b))) wr ∧ Blk wr Bg #[.int .i64 (b : Int)] 3 ∧
    Frm (fun k => k = Bg ∨ k = Bb ∨ v0.ownBlock = some k) W3 wr ∧ (∀ g, v.ownBlock = some g → v0.ownBlock = some g ∨ W3.heap.size ≤ g)
section
variable (w : World)
set_option maxRecDepth 100000 in
set_option maxHeartbeats 8000000 in
theorem show_yes (ao : Option Addr) (n cap : Nat) (nv : Nat → Nd) (hrow : NRow w ao n nv) (hl : n ≤ 40) (hN : Nums nv n) (hR : Rt nv n (nv 0).t) (hT : Tb w) :
    Calls Tryd.prog 5 #[.slice ao n cap] w fun e w' => e = .returned (.string (lst (fullL nv n))) ∧ Below w.heap.size w w' := by
  have HROW := Lib.hid hrow
  have HSP := Lib.hid hR.sp
  have hn0 := hR.pos
  have HR := Lib.hid hR
  have HTB := Lib.hid hT
  have HNN := Lib.hid hN
  refine (callsIn_wide (n := 5)).1 ?_
  have hfn : Fence.wide.fn 5 := trivial
  have bl := Blk.new w #[.slice ao n cap] 22
  have hBl : Below w.heap.size w (w.alloc (.cells #[.slice ao n cap] 22)) := (Below.refl _ w).alloc (Nat.le_refl _) _
  obtain ⟨W0, hW0⟩ : ∃ X, w.alloc (.cells #[.slice ao n cap] 22) = X := ⟨_, rfl⟩
  rw [hW0] at bl hBl
  have hz0 : W0.heap.size = w.heap.size + 1 := by rw [← hW0]; simp
  have HW0 := Lib.hid hW0
  have HBl := Lib.hid hBl
  have HC := Lib.hid (fun X (hX : Below W0.heap.size W0 X) => check_any X ao n cap nv ((HROW.out.below hBl).below hX) (nv 0).t (by omega))
  obtain ⟨b, off, hao, hbw, c0, c1, c2, c3⟩ := hrow 0 hn0
  have e2 := hBl.cell (p := ⟨b, off + 0 * 4 + 2, none⟩) hbw
  rw [c2] at e2
  simp only [Nat.zero_mul, Nat.add_zero] at e2
  obtain ⟨tt, htt⟩ : ∃ x, (nv 0).t = x := ⟨_, rfl⟩
  rw [htt] at e2 HC
  have HTT := Lib.hid htt
  have b0 : W0.cell? ⟨w.heap.size, 0, none⟩ = some (.slice ao n cap) := bl.cell 0
  have s1 : ((n : Int) == 0) = false := by simp; omega
  obtain ⟨z0, h6⟩ : ∃ x, w.heap.size = x := ⟨_, rfl⟩
  have H6 := Lib.hid h6
  subst hao
  clear hrow hR hT hN hW0 c0 c1 c2 c3 htt hBl
  refine callsIn_of_wp_marks Tryd.func5 rfl hfn ?_ rfl
  refine (wpIn_wide (n := 5)).2 ?_
  simp only [Tryd.ntmps5, List.size_toArray, List.length_cons, List.length_nil, Nat.reduceAdd, Nat.reduceSub, Array.replicate_succ, Array.replicate_zero, List.push_toArray, List.append_toArray, List.nil_append, List.cons_append]
  go_wp2_with fail
  rw [HW0.out]
  rw [h6] at bl b0 hz0
  go_cut [17] from 6 to 17 (fun v17 wx => v17 = .bool false ∧ Below W0.heap.size W0 wx)
  case first =>
    first | (go_region_with (go_at_call 10; refine (HC.out _ (by first | exact (Below.refl _ _).drew | exact (Below.refl _ _).drew.drew)).mono ?_; rintro e w3 ⟨⟨x, rfl, hx⟩, hb3⟩)) | fail
    all_goals
      obtain rfl : x = true := hx.2 (by rw [← HTT.out]; exact HR.out)
      go_wp2_with fail
      go_meet
      case rel => exact ⟨by simp, by first | exact (Below.refl _ _).drew.trans hb3 | exact (Below.refl _ _).drew.drew.trans hb3⟩
  case rest =>
    obtain ⟨rfl, hb1⟩ := hcut
    have bl1 := bl.below hb1
    have c1 : wc.cell? ⟨z0, 0, none⟩ = some (.slice (some ⟨b, off, none⟩) n cap) := bl1.cell 0
    have hBw : Below w.heap.size w wc := HBl.out.trans (hb1.mono HBl.out.size)
    have hzc : z0 < wc.heap.size := bl1.lt
    obtain ⟨Bb, hBb⟩ : ∃ x, wc.heap.size = x := ⟨_, rfl⟩
    have bb2 : Blk ((wc.alloc (.cells #[.pointer none, .slice none 0 0] 37)).alloc (.cells #[.int .i64 0] 3)) Bb #[.pointer none, .slice none 0 0] 37 := by rw [← hBb]; exact (Blk.new wc _ _).alloc _
    have bg2 : Blk ((wc.alloc (.cells #[.pointer none, .slice none 0 0] 37)).alloc (.cells #[.int .i64 0] 3)) (Bb + 1) #[.int .i64 0] 3 := by
      have := Blk.new (wc.alloc (.cells #[.pointer none, .slice none 0 0] 37)) #[.int .i64 0] 3
      rw [World.size_alloc, hBb] at this
      exact this
    have bl2 := (bl1.alloc (.cells #[.pointer none, .slice none 0 0] 37)).alloc (.cells #[.int .i64 0] 3)
    have hB2 : Below w.heap.size w ((wc.alloc (.cells #[.pointer none, .slice none 0 0] 37)).alloc (.cells #[.int .i64 0] 3)) := (hBw.alloc hBw.size _).alloc (by have := hBw.size; rw [World.size_alloc]; omega) _
    have hz2 : ((wc.alloc (.cells #[.pointer none, .slice none 0 0] 37)).alloc (.cells #[.int .i64 0] 3)).heap.size = Bb + 2 := by rw [World.size_alloc, World.size_alloc, hBb]
    clear bl b0 e2 hb1 HC HBl HW0 hz0
    go_upto_region 5 with fail
    obtain ⟨W2, hW2⟩ : ∃ X, (wc.alloc (.cells #[.pointer none, .slice none 0 0] 37)).alloc (.cells #[.int .i64 0] 3) = X := ⟨_, rfl⟩
    rw [hW2] at bb2 bg2 bl2 hB2 hz2 ⊢
    clear hW2 c1 bl1 hBw
    have c2 : W2.cell? ⟨z0, 0, none⟩ = some (.slice (some ⟨b, off, none⟩) n cap) := bl2.cell 0
    go_wp2_with fail
    refine (upward_any W2 (some ⟨b, off, none⟩) n cap).mono ?_
    rintro en W1 ⟨rfl, hW1⟩
    have bx := Blk.new W2 #[.slice (some ⟨b, off, none⟩) n cap] 22
    rw [← hW1] at bx
    have hB1 : Below W2.heap.size W2 W1 := by rw [hW1]; exact (Below.refl _ _).alloc (Nat.le_refl _) _
    have hz1 : W1.heap.size = Bb + 3 := by rw [hW1, World.size_alloc, hz2]
    rw [hz2] at bx ⊢
    have hBW1 := hB2.trans (hB1.mono hB2.size)
    have hrow1 : NRow W1 (some ⟨b, off, none⟩) n nv := HROW.out.below hBW1
    have bb3 := bb2.below hB1
    have bg3 := bg2.below hB1
    have bl3 := bl2.below hB1
    have hseq : ∀ W, Below W1.heap.size W1 W → SeqT (5 - 1) Tryd.prog 19 #[.pointer (some ⟨Bb + 2, 0, none⟩)] (fun x : Nat => #[.int .i64 (x : Int)]) (CapN (Bb + 2) (some ⟨b, off, none⟩) n) (ups nv n) W := fun W hW =>
      up_seq 4 (by omega) (Bb + 2) (some ⟨b, off, none⟩) n cap nv (by omega) W (bx.below hW) (hrow1.below hW) HSP.out
    have hcge : ∀ k, CapN (Bb + 2) (some ⟨b, off, none⟩) n k → k ≠ Bb ∧ k ≠ Bb + 1 ∧ k < Bb + 3 := by
      rintro k (rfl | ⟨h1, off', h2⟩)
      · omega
      · injection h2 with h2
        injection h2 with h2 _
        omega
    have HSEQ := Lib.hid hseq
    have HCG := Lib.hid hcge
    have HZ1 := Lib.hid hz1
    have HBW := Lib.hid hBW1
    have HBB := Lib.hid (And.intro bb3 (And.intro bg3 bl3))
    clear hseq hcge bx bb2 bg2 bl2 hB2 hz2 hW1 hB1 hrow1 bb3 bg3 bl3 c2 hBW1
    rw [← HZ1.out] at HCG
    have hord : z0 < W1.heap.size ∧ Bb < W1.heap.size ∧ Bb + 1 < W1.heap.size ∧ w.heap.size ≤ z0 ∧ z0 < Bb := by have := HZ1.out; omega
    have HORD := Lib.hid hord
    have hgl : ∀ g, Tryd.prog.globalNamed "internal/strconv.uint64pow10" = some g → g < w.heap.size := HTB.out.lt
    have HGL := Lib.hid hgl
    have e0 : Lib.strCells (lst []) = [] := rfl
    have HE0 := Lib.hid e0
    clear hord hgl e0 hBb hzc H6 h6 s1 hz1
    go_wp2_with fail
    refine (wpIn_wide (n := 5)).1 (wpT (L := ups nv n) (encs := fun x : Nat => #[.int .i64 (x : Int)]) (C := CapN (Bb + 2) (some ⟨b, off, none⟩) n) (gf := 19) (lb := #[.pointer (some ⟨Bb + 2, 0, none⟩)]) rfl (enters_of Tryd.func19 (by kernel_rfl) rfl) HSEQ.out (fun b hb => (HCG.out b hb).2.2) ?hps
      (ShB w W1.heap.size z0 Bb (Bb + 1) (some ⟨b, off, none⟩) n cap nv) (fun _ _ _ _ => False) (ShB.abid HORD.out.1 HORD.out.2.1 HORD.out.2.2.1 HBW.out.size) (fun _ _ _ _ _ _ h _ _ => h) ?start ?round ?fin ?stop)
    case hps => intro x; rfl
    case stop => rintro c pre T W h; exact h.elim
    case start =>
      intro W hB hz
      refine ⟨.slice none 0 0, ⟨.inl (HBB.out.1.below hB), ?_⟩, HBB.out.2.1.below hB, HBB.out.2.2.below hB, (fun g hg => by cases hg), (fun b hb => hb.elim), by omega, HBW.out.trans (hB.mono HBW.out.size)⟩
      show W.ownsRow Bb 5 1 _ (Lib.strCells (lst [])).length (Lib.strCells (lst []))
      rw [HE0.out]
      exact World.ownsRow_nil _ _ _ _
    case fin =>
      rintro T W ⟨v, hb, hg, hlb, hv, hT, hzW, hB⟩ hWz hWd
      rw [sh_full HSP.out hn0] at hb
      have hbl := hb.lt
      have hstr := Tryd.Builder_String_any_k Bb Bb (fullL nv n) W (Lib.IsBuilderF.of hb.isB) (by omega)
      have HSTR := Lib.hid hstr
      have hWd' := Lib.hid hWd
      have hord := HORD.out
      clear hstr hb hg hlb hv
      dsimp only
      go_wp2_with fail
      refine (HSTR.out).mono ?_
      rintro en W2 ⟨rfl, _, hB2, ho2⟩
      have hD2 := ho2 W1.heap.size _ hWd (fun e => by injection e with e'; omega) (fun c fz e => by cases e)
      have HD := Lib.hid hD2
      have HB2 := Lib.hid hB2
      clear ho2 hD2 hB2
      go_wp2
      have hBF : Below w.heap.size w W2 := hB.trans (HB2.out.mono (by omega))
      refine ⟨by simp, .inl ⟨_, _, rfl, run_takeDeferred HD.out, ?_⟩⟩
      refine ⟨.string (lst (fullL nv n)), ?_, rfl, ?_⟩
      · simp [results, Tryd.f5, go_sem, lst]
      · exact hBF.trans (belowK_b (w := w) (Nat.le_refl _) W2 W1.heap.size _ _ (by omega) HD.out rfl rfl)
    case round =>
      rintro pre x rest T W hLx ⟨v, hb, hg, hlb, hv, hT, hzW, hB⟩ hTb hWz hrec hdef t1 t2
      gi_wp2
      refine ⟨trivial, trivial, KpT.refl _ _ _, fun r => ?_⟩
      obtain ⟨W3, hW3⟩ : ∃ X, W.putObj (W1.heap.size + 1) (.loop r) = X := ⟨_, rfl⟩
      have z3 : W3.heap.size = W.heap.size := by rw [← hW3]; simp
      have hF3 : Frm (fun b => b = W1.heap.size + 1) W W3 := by
        rw [← hW3]
        exact frm_put (p := fun b => b = W1.heap.size + 1) W _ rfl
      rw [hW3]
      have hord := HORD.out
      have hb3 := hb.frm hF3 (by omega) (fun g hg e => by have := (hv g hg).2; omega)
      have hg3 := hg.frm hF3 (by omega)
      have hl3 := hlb.frm hF3 (by omega)
      have hBW3 : Below w.heap.size w W3 := hB.trans (hF3.below (by omega) (fun b hb => by omega))
      have hxn : x < n := ups_lt HSP.out x (by rw [hLx]; simp)
      have hful := sh_full HSP.out hn0
      rw [hLx, List.foldl_append, List.foldl_cons] at hful
      have HSN : Hid ((pre ++ [x]).foldl (shS nv) (0, []) = shS nv (pre.foldl (shS nv) (0, [])) x) := Lib.hid (by rw [List.foldl_append]; rfl)
      obtain ⟨s, hs⟩ : ∃ s, pre.foldl (shS nv) (0, []) = s := ⟨_, rfl⟩
      rw [hs] at hb3 hg3 hful HSN
      have m1 := shS_len (nv := nv) s x
      have m2 := fold_len (nv := nv) rest (shS nv s x)
      rw [hful] at m2
      have m3 := fullL_len HNN.out hl
      have hlen : s.2.length + (hsL nv s.1 (x + 1)).length ≤ 4000 := by simp only at m2; omega
      obtain ⟨b0, t0⟩ := s
      simp only at hb3 hg3 hlen
      have HV := Lib.hid hv
      have HB3 := Lib.hid (And.intro hb3 (And.intro hg3 (And.intro hl3 hBW3)))
      have HL := Lib.hid hlen
      have HTT2 := Lib.hid (And.intro hT (And.intro hzW (And.intro hTb (And.intro hWz z3))))
      have h11 : 1 ≤ 5 - 1 - 1 := by omega
      clear hW3 hrec hdef hb hg hlb hv hF3 hb3 hg3 hl3 hBW3 hful hs m1 m2 m3 hlen hT hzW hTb hLx t1 t2
      gi_wp2_with fail
      gi_loopw [] (fun wr => ShL nv z0 Bb (Bb + 1) (some ⟨b, off, none⟩) n cap b0 x t0 v W3 wr) (fun wr => x + 1 - bgC wr (Bb + 1))
      case atStart => exact ⟨b0, v, Nat.le_refl _, Nat.le_max_left _ _, by rw [hsL_nil (Nat.le_refl _), List.append_nil]; exact HB3.out.1, HB3.out.2.1, Frm.refl _ _, fun g h => .inl h⟩
      case round =>
        obtain ⟨bb, vv, h1, h2, hbv, hbg, hfr, hown⟩ := hrel
        have hord := HORD.out
        have hvv : ∀ g, v.ownBlock = some g → W1.heap.size + 2 ≤ g := fun g hg => (HV.out g hg).2
        have g0 : wr.cell? ⟨Bb + 1, 0, none⟩ = some (.int .i64 (bb : Int)) := hbg.cell 0
        have lwr := HB3.out.2.2.1.frm hfr (fun hh => by
          rcases hh with e | e | e
          · omega
          · omega
          · have := hvv z0 e; omega)
        have l0 : wr.cell? ⟨z0, 0, none⟩ = some (.slice (some ⟨b, off, none⟩) n cap) := lwr.cell 0
        have hms := bgC_of hbg
        have hBwr : Below w.heap.size w wr := HB3.out.2.2.2.trans (hfr.below HB3.out.2.2.2.size (fun k hk => by
          rcases hk with rfl | rfl | e
          · omega
          · omega
          · have := hvv k e; omega))
        have HMS := Lib.hid hms
        have HBV := Lib.hid hbv
        have HBG := Lib.hid hbg
        have HFR := Lib.hid hfr
        have HOWN := Lib.hid hown
        by_cases hle : bb ≤ x
        · have q1 : (bb : Int) ≤ (x : Int) := by omega
          have hl1 : (t0 ++ hsL nv b0 bb).length ≤ 4000 := by
            have h3 := hsL_le (nv := nv) h1 (show bb ≤ x + 1 by omega)
            have := HL.out
            rw [List.length_append]; omega
          have hbeg := begin_any wr Bb vv (t0 ++ hsL nv b0 bb) (some ⟨b, off, none⟩) n cap bb nv hbv (HROW.out.below hBwr) (HTB.out.below hBwr HGL.out) (fun g hg => by have := HGL.out g hg; omega) (by omega) hl HNN.out (by omega)
          rw [List.append_assoc, ← hsL_succ h1] at hbeg
          have HBEG := Lib.hid (CallsIn.inRound (W1.heap.size + 1) ((callsIn_wide (n := 5 - 1 - 1 - 1)).2 hbeg))
          have HBW4 := Lib.hid hBwr
          clear hms hbv hbg hfr hown lwr hl1 hbeg hBwr
          gi_wp2_with fail
          refine ⟨trivial, (HBEG.out).mono ?_⟩
          rintro en w4 ⟨rfl, v4, hbv4, hF4⟩
          have hnb : ∀ g, vv.ownBlock = some g → g ≠ Bb + 1 := fun g hg => by
            rcases HOWN.out g hg with e | e
            · have := hvv g e; omega
            · have := HTT2.out; omega
          have hbg4 : Blk w4 (Bb + 1) #[.int .i64 (bb : Int)] 3 := hF4.box HBG.out (by omega) (fun e => hnb _ e rfl)
          have d0 : w4.cell? ⟨Bb + 1, 0, none⟩ = some (.int .i64 (bb : Int)) := hbg4.cell 0
          have d1 := hbg4.frozen 0
          have hv4n : ∀ g, v4.ownBlock = some g → g ≠ Bb + 1 := fun g hg => by
            rcases hF4.2 g hg with e | e
            · exact hnb g e
            · have := HBG.out.lt; omega
          have HF4 := Lib.hid hF4
          have HBV4 := Lib.hid hbv4
          have HBG4 := Lib.hid hbg4
          have HV4N := Lib.hid hv4n
          clear hF4 hbv4 hbg4 hv4n hnb g0 l0
          gi_wp2_with fail
          go_roundw
          case rel =>
            refine ⟨bb + 1, v4, by omega, by omega, HBV4.out.frm (p := fun k => k = Bb + 1) (Frm.setCell (p := fun k => k = Bb + 1) (Frm.refl _ w4) 0 (.inl rfl) _) (by omega) (fun g hg e => HV4N.out g hg e), ?_, ?_, ?_⟩
            · have := HBG4.out.set 0 (.int .i64 ((bb : Int) + 1))
              exact this
            · refine (HFR.out.trans HF4.out.1 (fun k hk hh => ?_)).setCell 0 (.inl (.inl rfl)) _
              rcases hh with e | e
              · exact .inr (.inl e)
              · rcases HOWN.out k e with e' | e'
                · exact .inr (.inr e')
                · omega
            · intro g hg
              rcases HF4.out.2 g hg with e | e
              · exact HOWN.out g e
              · have := HFR.out.size; exact .inr (by omega)
          case measure =>
            have e1 := bgC_of (HBG4.out.set 0 (.int .i64 ((bb + 1 : Nat) : Int)))
            have e2 : ((bb : Int) + 1) = ((bb + 1 : Nat) : Int) := by omega
            rw [e2, e1, HMS.out]
            omega
        · have q1 : ¬ (bb : Int) ≤ (x : Int) := by omega
          have hbm : bb = max b0 (x + 1) := by omega
          have hht : hsL nv b0 bb = hsL nv b0 (x + 1) := by
            rcases Nat.le_total b0 (x + 1) with g | g
            · rw [hbm, Nat.max_eq_right g]
            · rw [hbm, Nat.max_eq_left g, hsL_nil (Nat.le_refl _), hsL_nil g]
          rw [hht] at HBV
          have hl1 : (t0 ++ hsL nv b0 (x + 1)).length ≤ 4000 := by
            have := HL.out
            rw [List.length_append]; omega
          have hnl : ∀ k, k < W1.heap.size + 2 → k ≠ Bb → k ≠ Bb + 1 → ¬ (k = Bb + 1 ∨ k = Bb ∨ v.ownBlock = some k) := fun k hk a1 a2 hh => by
            rcases hh with e | e | e
            · exact a2 e
            · exact a1 e
            · have := hvv k e; omega
          have HNL := Lib.hid hnl
          have HHVV := Lib.hid hvv
          have HBM := Lib.hid hbm
          have hw41 := wbyte_own wr Bb vv (Lib.strCells (lst (t0 ++ hsL nv b0 (x + 1)))) 41 HBV.out (by rw [cells_len]; omega)
          have HW41 := Lib.hid (CallsIn.inRound (W1.heap.size + 1) ((callsIn_wide (n := 5 - 1 - 1 - 1)).2 hw41))
          clear hms hbv hbg hfr hown lwr hBwr hht hnl hvv hbm hw41
          by_cases h41 : x + 1 < bb
          · have q2 : (x : Int) + 1 < (bb : Int) := by omega
            clear h2
            gi_wp2_with fail
            refine ⟨trivial, (HW41.out).mono ?_⟩
            rintro en w4 ⟨rfl, v4, hbv4, hF4, hg4⟩
            have h9 : ([.int .u8 41] : List Value) = Lib.strCells (lst [41]) := by rw [cells_one]; rfl
            rw [h9, ← cells_app] at hbv4
            have HF4 : Hid (BdF Bb vv wr v4 w4) := Lib.hid ⟨hF4, hg4⟩
            have HBV4 := Lib.hid hbv4
            clear hF4 hg4 hbv4 h9 g0 l0
            gi_wp2_with fail
            have hF := HFR.out.trans HF4.out.1 (fun k hk hh => by
              rcases hh with e | e
              · exact .inr (.inl e)
              · rcases HOWN.out k e with e' | e'
                · exact .inr (.inr e')
                · omega)
            have hz := HTT2.out
            have hg4n : ∀ g, vv.ownBlock = some g → g ≠ Bb + 1 ∧ g ≠ z0 := fun g hg => by
              rcases HOWN.out g hg with e | e
              · have := HHVV.out g e; omega
              · omega
            refine ⟨hF.block _ (by omega) (HNL.out _ (by omega) (by omega) (by omega)), hF.block _ (by omega) (HNL.out _ (by omega) (by omega) (by omega)), KpT.of_frm hF (fun k _ hk => ⟨fun ht => ?_, fun hc => ?_⟩), ⟨v4, ?_, ?_, ?_, fun g hg => ?_, hz.1, ?_, ?_⟩⟩
            · rcases hk with rfl | rfl | e
              · have := hz.1 _ ht; omega
              · have := hz.1 _ ht; omega
              · exact (HV.out k e).1 ht
            · have h7 := HCG.out k hc
              rcases hk with rfl | rfl | e
              · omega
              · omega
              · have := HHVV.out k e; omega
            · rw [HSN.out]
              have e1 : (shS nv (b0, t0) x).2 = t0 ++ hsL nv b0 (x + 1) ++ [41] := by
                unfold shS
                simp only
                rw [if_pos (by have := HBM.out; omega)]
              rw [e1]
              exact HBV4.out
            · rw [HSN.out]
              have e1 : (shS nv (b0, t0) x).1 = bb := by unfold shS; exact HBM.out.symm
              rw [e1]
              exact HF4.out.box HBG.out (by omega) (fun e => (hg4n _ e).1 rfl)
            · exact (HF4.out.box (HB3.out.2.2.1.frm HFR.out (HNL.out _ (by omega) (by omega) (by omega))) (by omega) (fun e => (hg4n _ e).2 rfl))
            · rcases HF4.out.2 g hg with e | e
              · rcases HOWN.out g e with e' | e'
                · exact HV.out g e'
                · exact ⟨fun ht => by have := hz.2.2.1 g ht; omega, by omega⟩
              · have := HFR.out.size
                exact ⟨fun ht => by have := hz.2.2.1 g ht; omega, by omega⟩
            · have := hF.size; omega
            · exact HB3.out.2.2.2.trans (hF.below HB3.out.2.2.2.size (fun k hk => by
                rcases hk with rfl | rfl | e
                · omega
                · omega
                · have := HHVV.out k e; omega))
          · have q2 : ¬ (x : Int) + 1 < (bb : Int) := by omega
            clear h2
            gi_wp2_with fail
            have hF := HFR.out
            have hz := HTT2.out
            refine ⟨hF.block _ (by omega) (HNL.out _ (by omega) (by omega) (by omega)), hF.block _ (by omega) (HNL.out _ (by omega) (by omega) (by omega)), KpT.of_frm hF (fun k _ hk => ⟨fun ht => ?_, fun hc => ?_⟩), ⟨vv, ?_, ?_, ?_, fun g hg => ?_, hz.1, ?_, ?_⟩⟩
            · rcases hk with rfl | rfl | e
              · have := hz.1 _ ht; omega
              · have := hz.1 _ ht; omega
              · exact (HV.out k e).1 ht
            · have h7 := HCG.out k hc
              rcases hk with rfl | rfl | e
              · omega
              · omega
              · have := HHVV.out k e; omega
            · rw [HSN.out]
              have e1 : (shS nv (b0, t0) x).2 = t0 ++ hsL nv b0 (x + 1) := by
                unfold shS
                simp only
                rw [if_neg (by have := HBM.out; omega), List.append_nil]
              rw [e1]
              exact HBV.out
            · rw [HSN.out]
              have e1 : (shS nv (b0, t0) x).1 = bb := by unfold shS; exact HBM.out.symm
              rw [e1]
              exact HBG.out
            · exact HB3.out.2.2.1.frm HFR.out (HNL.out _ (by omega) (by omega) (by omega))
            · rcases HOWN.out g hg with e' | e'
              · exact HV.out g e'
              · exact ⟨fun ht => by have := hz.2.2.1 g ht; omega, by omega⟩
            · have := hF.size; omega
            · exact HB3.out.2.2.2.trans (hF.below HB3.out.2.2.2.size (fun k hk => by
                rcases hk with rfl | rfl | e
                · omega
                · omega
                · have := HHVV.out k e; omega))
set_option maxRecDepth 100000 in
set_option maxHeartbeats 4000000 in
theorem show_none (ao : Option Addr) (cap : Nat) : Calls Tryd.prog 5 #[.slice ao 0 cap] w fun e w' => e = .returned (.string ⟨#[]⟩) ∧ Below w.heap.size w w' := by
  have hB0 : Below w.heap.size w (w.alloc (.cells #[.slice ao 0 cap] 22)) := (Below.refl _ w).alloc (Nat.le_refl _) _
  have b0 : (w.alloc (.cells #[.slice ao 0 cap] 22)).cell? ⟨w.heap.size, 0, none⟩ = some (.slice ao 0 cap) := (Blk.new w #[.slice ao 0 cap] 22).cell 0
  have HB0 := Lib.hid hB0
  obtain ⟨W0, hW0⟩ : ∃ X, w.alloc (.cells #[.slice ao 0 cap] 22) = X := ⟨_, rfl⟩
  rw [hW0] at b0 HB0
  have HW0 := Lib.hid hW0
  clear hB0 hW0
  go_enter Tryd.func5, Tryd.ntmps5
  go_wp2_with fail
  rw [HW0.out]
  go_quiet (fail)
  obtain ⟨W1, hW1⟩ : ∃ X, W0.drewN nq = X := ⟨_, rfl⟩
  have HB1 : Hid (Below w.heap.size w W1) := Lib.hid (by rw [← hW1]; exact below_drewN HB0.out _)
  rw [hW1]
  clear hW1
  go_wp2_with fail
  go_ret
  exact ⟨rfl, HB1.out⟩
set_option maxRecDepth 100000 in
set_option maxHeartbeats 4000000 in
theorem show_no (ao : Option Addr) (n cap : Nat) (nv : Nat → Nd) (hrow : NRow w ao n nv) (hl : n ≤ 10000) (h0 : 0 < n) (hR : ¬ Rt nv n (nv 0).t) :
    Calls Tryd.prog 5 #[.slice ao n cap] w fun e w' => e = .returned (.string ⟨#[]⟩) ∧ Below w.heap.size w w' := by
  have HROW := Lib.hid hrow
  have HR := Lib.hid hR
  have bl := Blk.new w #[.slice ao n cap] 22
  have hBl : Below w.heap.size w (w.alloc (.cells #[.slice ao n cap] 22)) := (Below.refl _ w).alloc (Nat.le_refl _) _
  obtain ⟨W0, hW0⟩ : ∃ X, w.alloc (.cells #[.slice ao n cap] 22) = X := ⟨_, rfl⟩
  rw [hW0] at bl hBl
  have HW0 := Lib.hid hW0
  have HBl := Lib.hid hBl
  have HC := Lib.hid (fun X (hX : Below W0.heap.size W0 X) => check_any X ao n cap nv ((HROW.out.below hBl).below hX) (nv 0).t (by omega))
  obtain ⟨b, off, hao, hbw, c0, c1, c2, c3⟩ := hrow 0 h0
  have e2 := hBl.cell (p := ⟨b, off + 0 * 4 + 2, none⟩) hbw
  rw [c2] at e2
  simp only [Nat.zero_mul, Nat.add_zero] at e2
  obtain ⟨tt, htt⟩ : ∃ x, (nv 0).t = x := ⟨_, rfl⟩
  rw [htt] at e2 HC
  have HTT := Lib.hid htt
  have b0 : W0.cell? ⟨w.heap.size, 0, none⟩ = some (.slice ao n cap) := bl.cell 0
  have s1 : ((n : Int) == 0) = false := by simp; omega
  subst hao
  clear hrow hR hW0 c0 c1 c2 c3 htt hBl bl
  go_enter Tryd.func5, Tryd.ntmps5
  go_wp2_with fail
  rw [HW0.out]
  go_cut [17] from 6 to 17 (fun v17 wx => v17 = .bool true ∧ Below W0.heap.size W0 wx)
  case first =>
    first | (go_region_with (go_at_call 10; refine (HC.out _ (by first | exact (Below.refl _ _).drew | exact (Below.refl _ _).drew.drew)).mono ?_; rintro e w3 ⟨⟨x, rfl, hx⟩, hb3⟩)) | fail
    all_goals
      obtain rfl : x = false := by
        cases x
        · rfl
        · exact absurd (by rw [HTT.out]; exact hx.1 rfl) HR.out
      go_wp2_with fail
      go_meet
      case rel => exact ⟨by simp, by first | exact (Below.refl _ _).drew.trans hb3 | exact (Below.refl _ _).drew.drew.trans hb3⟩
  case rest =>
    obtain ⟨rfl, hb1⟩ := hcut
    have HB1 := Lib.hid (HBl.out.trans (hb1.mono HBl.out.size))
    clear hb1
    go_wp2_with fail
    go_ret
    exact ⟨rfl, HB1.out⟩
end
end Go.Proofs.YtdiolfniaiojfaaDoor

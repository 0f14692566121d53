/- What the tree's upward yields. Condition: at most ten thousand nodes whose Ups are those of a tree. -/
import Derived.Test.YtdiolfniaiojfaaDoorTrZ
namespace Go.Proofs.YtdiolfniaiojfaaDoor
open Go.RowKit Go.Shelf
set_option linter.unusedVariables false
attribute [local go_sem] Oper.semAt_some

set_option maxRecDepth 100000 in
set_option maxHeartbeats 2000000 in
theorem up_seq (m : Nat) (hm : 3 ≤ m) (Bx : Nat) (ao : Option Addr) (n c : Nat) (nv : Nat → Nd) (hn : n ≤ 10000) (W : World) (hb : Blk W Bx #[.slice ao n c] 22) (hrow : NRow W ao n nv) (hs : Sp nv n) :
    SeqT m Tryd.prog 19 #[.pointer (some ⟨Bx, 0, none⟩)] (fun x : Nat => #[.int .i64 (x : Int)]) (CapN Bx ao n) (ups nv n) W := by
  intro l J Jx hJ hJx hY h0
  have hro : Fence.wide.round = none := rfl
  have hfn : Fence.wide.fn 19 := trivial
  have HROW := Lib.hid hrow
  have HS := Lib.hid hs
  have hB1 : Below W.heap.size W (W.alloc (.cells #[.func (.yield l) #[] #[]] 50)) := (Below.refl _ _).alloc (Nat.le_refl _) _
  have hz1 : (W.alloc (.cells #[.func (.yield l) #[] #[]] 50)).heap.size = W.heap.size + 1 := by simp
  have hcb := (hb.below hB1).cell 0
  simp only [List.getElem?_toArray, List.getElem?_cons_zero] at hcb
  have hS0 : UpS W Bx ao n l J (pth nv 0) (ylb nv 0) (.slice none 0 0) (fun b => b = W.heap.size) (W.alloc (.cells #[.func (.yield l) #[] #[]] 50)) :=
    ⟨hJ _ _ W _ _ h0 (Frm.of_below hB1) (fun b hb => .inr (by omega)), World.ownsRow_nil _ _ _ _, Blk.new W _ _, rfl, (fun g hg => by cases hg), (fun b hb => ⟨by omega, by omega⟩), fun b hb _ => hB1.block b hb⟩
  have HS0 := Lib.hid hS0
  have HJ := Lib.hid hJ
  have HJX := Lib.hid hJx
  have HY := Lib.hid hY
  clear hrow hb hs hS0 hB1 hz1 h0 hJ hJx hY
  refine callsIn_of_wp_marks Tryd.func19 rfl hfn ?_ hro
  simp only [Tryd.ntmps19, List.size_toArray, List.length_cons, List.length_nil, Nat.reduceAdd, Nat.reduceSub, Array.replicate_succ, Array.replicate_zero, List.push_toArray, List.append_toArray, List.nil_append, List.cons_append]
  gi_wp2
  obtain ⟨W1, hW1⟩ : ∃ X, W.alloc (.cells #[.func (.yield l) #[] #[]] 50) = X := ⟨_, rfl⟩
  rw [hW1] at hcb HS0 ⊢
  clear hW1 hcb
  gi_loopw [3, 11] (fun v3 v11 wr => UpO W Bx ao n l J nv v3 v11 wr) (fun _ v11 _ => n - (intOf v11).toNat)
  case atStart => exact ⟨0, Nat.zero_le _, rfl, _, HS0.out⟩
  case round =>
    obtain ⟨k, hk, rfl, T, hU⟩ := hrel
    by_cases hlt : k < n
    · have hlt' : (k : Int) < (n : Int) := by omega
      have q0 : (0 : Int) ≤ (k : Int) := by omega
      have hrow := HROW.out.kept (Nat.le_of_lt hU.lt) (fun b off h1 h2 => hU.cap b h2 (.inr ⟨by omega, off, h1⟩))
      obtain ⟨b, off, rfl, hbw, c0, c1, c2, c3⟩ := hrow k hlt
      obtain ⟨pp, D, hp, hpu, hD, hp1, hy1, hlen, r, hr⟩ := up_step HS.out hlt
      obtain ⟨P, hP⟩ : ∃ P, nv k = P := ⟨_, rfl⟩
      rw [hP] at c0 c1 c2 c3
      obtain ⟨pk, pf, pt, pu⟩ := P
      simp only at c0 c1 c2 c3
      obtain ⟨oa, oc, rfl⟩ := own_slice hU.own
      obtain ⟨z, hz⟩ : ∃ z, (pth nv k).length = z := ⟨_, rfl⟩
      rw [hz] at hU hlen ⊢
      have e0 : IntKind.i64.wrap ((z : Int) - 1) = (z : Int) - 1 := IntWalk.i64_in _ (by omega)
      have HU := Lib.hid hU
      have HZ := Lib.hid hz
      have HP := Lib.hid hP
      have HPT := Lib.hid hp
      have HPU := Lib.hid hpu
      have HD := Lib.hid hD
      have HP1 := Lib.hid hp1
      have HY1 := Lib.hid hy1
      have HR := Lib.hid hr
      clear hU hz hP hp hpu hD hp1 hy1 hr hrow HS0
      gi_wp2
      obtain ⟨W2, hW2⟩ : ∃ X, wr.alloc (.cells #[.int .i64 pk, .int .i64 pf, .int .i64 pt, .int .i64 pu] 27) = X := ⟨_, rfl⟩
      have hB2 : Below wr.heap.size wr W2 := by rw [← hW2]; exact (Below.refl _ _).alloc (Nat.le_refl _) _
      have kX : Blk W2 wr.heap.size #[.int .i64 pk, .int .i64 pf, .int .i64 pt, .int .i64 pu] 27 := by rw [← hW2]; exact Blk.new wr _ _
      have z2 : W2.heap.size = wr.heap.size + 1 := by rw [← hW2]; simp
      obtain ⟨NB, hNB⟩ : ∃ NB, wr.heap.size = NB := ⟨_, rfl⟩
      rw [hW2]
      have hU2 := HU.out.below (T' := fun b => T b ∨ b = NB) HJ.out hB2 (fun b hb => .inl hb) (fun b hb => hb.imp id (fun e => by omega)) (fun b hb => by
        rcases hb with g | g
        · have := (HU.out.tb b g).2; omega
        · omega)
      rw [hNB] at kX hB2 ⊢
      have HNI : Hid (UpN W Bx (some ⟨b, off, none⟩) n l J nv k NB pp D (.slice oa z oc) (.int .i64 ((z : Int) - 1)) W2) := Lib.hid ⟨[], pp, rfl, by rw [← HZ.out, HPT.out, List.length_reverse], fun b => T b ∨ b = NB, by rw [← HPT.out, List.append_nil]; exact hU2, .inr rfl, by rw [HP.out]; exact kX⟩
      clear hW2 hB2 kX z2 hU2 hbw c0 c1 c2 c3 e0 hNB
      gi_loopw [3, 6] (fun v3 v6 wr => UpN W Bx (some ⟨b, off, none⟩) n l J nv k NB pp D v3 v6 wr) (fun _ v6 _ => (intOf v6 + 1).toNat)
      case atStart => exact HNI.out
      case round =>
        obtain ⟨A, B, hAB, rfl, T2, hU2, hNT, hNb⟩ := hrel
        obtain ⟨oa2, oc2, rfl⟩ := own_slice hU2.own
        rw [HP.out] at hNb
        have d3 := hNb.cell 3
        have cy := hU2.yb.cell 0
        simp only [List.getElem?_toArray, List.getElem?_cons_zero, List.getElem?_cons_succ] at d3 cy
        have hylen : (B ++ D).length ≤ k := by
          have h1 : (pp ++ D).length = (pth nv k).length := by rw [HPT.out, List.length_reverse]
          rw [HZ.out, hAB] at h1
          simp only [List.length_append] at h1 ⊢
          omega
        cases B with
        | cons x B =>
          obtain ⟨y, hy⟩ : ∃ y, (B ++ D).length = y := ⟨_, rfl⟩
          have hyr : (x :: B ++ D).reverse.length = y + 1 := by rw [List.length_reverse, ← hy]; rfl
          have hyi : ((x :: B ++ D).length : Int) - 1 = (y : Int) := by rw [← hy]; simp
          have hyl : y < k := by rw [show (x :: B ++ D).length = (B ++ D).length + 1 from rfl, hy] at hylen; omega
          have hrv : (x :: B ++ D).reverse = (B ++ D).reverse ++ [x] := by rw [List.cons_append, List.reverse_cons]
          have hown := hU2.own
          rw [hyr] at hU2 hown ⊢
          rw [hyi]
          obtain ⟨g, oc, hv, hg1, hg2, hg3, hg4⟩ := owns_nil hown (by omega)
          obtain ⟨rfl, rfl⟩ : oa2 = some ⟨g, 0, none⟩ ∧ oc2 = oc := by simpa using hv
          have cg : wr.cell? ⟨g, y, none⟩ = some (.int .i64 (x : Int)) := by
            have h1 : (cellsO (x :: B ++ D).reverse)[y]? = some (.int .i64 (x : Int)) := by
              rw [hrv, cellsO_append, List.getElem?_append_right (by rw [cellsO_length, List.length_reverse, hy]; exact Nat.le_refl _), cellsO_length, List.length_reverse, hy, Nat.sub_self]
              rfl
            have := hown.cells (g := g) rfl y _ h1
            rwa [Addr.add_lit, Nat.zero_add] at this
          have hxu : ¬ (x : Int) = pu := by
            have := HPU.out x (by rw [hAB]; simp)
            rw [HP.out] at this
            exact this
          have q1 : (0 : Int) ≤ (y : Int) := by omega
          have q2 : (y : Int) < ((y + 1 : Nat) : Int) := by omega
          have q3 : (y : Int) ≤ (oc2 : Int) := by omega
          have e1 : IntKind.i64.wrap ((y : Int) - 1) = (y : Int) - 1 := IntWalk.i64_in _ (by omega)
          obtain ⟨r, hr⟩ : ∃ r, ups nv n = (ylb nv k ++ A) ++ x :: r := by
            obtain ⟨r0, hr0⟩ : ∃ r, ups nv n = ylb nv (k + 1) ++ r := ⟨_, HR.out⟩
            exact ⟨B ++ r0, by rw [hr0, HY1.out, hAB]; simp⟩
          obtain ⟨fn, tmps, assign, body, hyy, hR⟩ := HY.out _ x _ T2 wr.drew.drew hr (HJ.out _ T2 wr _ T2 hU2.hj ((Frm.refl _ wr).drew.drew) (fun b hb => .inl hb)) (fun b hb => (hU2.tb b hb).2)
          have HU2 := Lib.hid hU2
          have HOWN := Lib.hid hown
          have HAB := Lib.hid hAB
          have HNB := Lib.hid hNb
          have HYL := Lib.hid hy
          have HRV := Lib.hid hrv
          clear hU2 hown hAB hNb hy hrv hr hyr hyi hv hylen hg1
          gi_wp2
          gi_region
          gi_wp2
          have hmx : Tryd.prog.follows .mixedOrders = true := by kernel_rfl
          refine wpIn_noP ?_
          gi_region_with_o (refine ⟨fun _ => by omega, hR.mono ?_⟩; rintro e W9 hh; obtain ⟨bb, rfl, hq9⟩ := yield_one hh; clear hh)
          all_goals
            dsimp only [noP]
            obtain ⟨hk9, hjt, hjf⟩ := hq9.out
            have hU9 := fun hb => HU2.out.kpt (Y' := ylb nv k ++ A ++ [x]) (w' := W9) ⟨hk9.size, hk9.same⟩ (hjt hb)
            have hn9 : Blk W9 NB #[.int .i64 pk, .int .i64 pf, .int .i64 pt, .int .i64 pu] 27 := (hk9.same _ HNB.out.lt (.inl hNT)).trans HNB.out
            have HU9 := Lib.hid hU9
            have HN9 := Lib.hid hn9
            have HJF := Lib.hid hjf
            have hs9 := hk9.size
            clear hk9 hjt hjf hU9 hn9 hR hyy cg d3 cy hq9
            cases bb
            · gi_wp2
              exact ⟨_, results_none rfl _ _ _, ⟨⟨_, rfl⟩, .inr ⟨_, _, HJF.out (by first | rfl | trivial)⟩⟩⟩
            · gi_wp2
              go_roundw
              case rel =>
                refine ⟨A ++ [x], B, by rw [HAB.out]; simp, by rw [HYL.out], T2, ?_, hNT, by rw [HP.out]; exact HN9.out⟩
                have u := HU9.out rfl
                rw [HRV.out] at u
                have u2 := u.pop (by rw [List.length_reverse, HYL.out])
                rw [List.append_assoc] at u2
                exact u2
              case measure => simp [intOf]; try omega
        | nil =>
          have hpA : pp = A := by rw [hAB, List.append_nil]
          obtain ⟨y, hy⟩ : ∃ y, D.length = y := ⟨_, rfl⟩
          simp only [List.nil_append] at hU2 hylen ⊢
          rw [List.length_reverse, hy] at hU2 ⊢
          rw [hy] at hylen
          have HU2 := Lib.hid hU2
          have HPA := Lib.hid hpA
          have HYL := Lib.hid hy
          have hown := hU2.own
          rw [List.length_reverse, hy] at hown
          rcases HD.out with hD0 | ⟨d, D', hD1, hdu⟩
          · have hy0 : y = 0 := by rw [← hy, hD0]; rfl
            have hq0 : decide ((0 : Int) ≤ (y : Int) - 1) = false := by simp; omega
            clear hU2 hpA hown hy hAB hNb d3 cy hD0 hy0
            obtain ⟨q, hq⟩ : ∃ q : Int, (y : Int) - 1 = q := ⟨_, rfl⟩
            rw [hq] at hq0 ⊢
            clear hq
            gi_wp2
            refine (wpIn_wide (n := m)).2 ?_
            go_wp2_with fail
            go_quiet (fail)
            go_wp2_with fail
            refine (wpIn_wide (n := m)).2 ?_
            go_wp2_with fail
            refine (wpIn_wide (n := m)).2 ?_
            obtain ⟨W4, hW4⟩ : ∃ X, X = wr.drewN nq := ⟨_, rfl⟩
            have hB4 : Below wr.heap.size wr W4 := by rw [hW4]; exact below_drewN (Below.refl _ _) _
            have hz4 : W4.heap.size = wr.heap.size := by rw [hW4]; rfl
            rw [← hW4]
            clear hW4
            have hown4 := own_below HU2.out.own hB4
            rw [List.length_reverse, HYL.out] at hown4
            have HO4 := Lib.hid hown4
            have HB4 := Lib.hid hB4
            have HZ4 := Lib.hid hz4
            clear hown4 hB4 hz4
            go_wp2_with (at_builtin; go_must (refine wpl_app_gen rfl _ _ 51 3 1 8 _ rfl Tryd.underlying51 infoI rfl (by omega) (by omega) (W.heap.size + 1) (.slice oa2 y oc2) y (cellsO D.reverse) rfl (own_allocI HO4.out _) _ 1 [.int .i64 (k : Int)] rfl (src_oneI _ _ _) rfl (by simp [Value.oneCell']) (by omega) (by rw [World.size_alloc]; have := HZ4.out; have := HU2.out.lt; omega) (y + 1) rfl ?_); rintro oa3 c3 W6 how hgr hob)
            obtain ⟨T6, hU6⟩ := HU2.out.push (x := k) HJ.out (HB4.out.trans ((Below.refl _ _).alloc HB4.out.size _)) (by rw [List.length_reverse, HYL.out]; exact how) hgr (by rw [List.length_reverse, HYL.out]; exact hob)
            rw [List.length_reverse, HYL.out] at hU6
            have HU6 := Lib.hid hU6
            clear how hgr hob hU6
            gi_wp2
            go_roundw
            case rel => exact ⟨k + 1, by omega, by go_num, T6, by rw [HP1.out, HY1.out, HPA.out]; exact HU6.out⟩
            case measure => simp [intOf]; omega
          · have hy1 : D'.length + 1 = y := by rw [← hy, hD1]; rfl
            obtain ⟨g, oc, hv, hg1, hg2, hg3, hg4⟩ := owns_nil hown (by omega)
            obtain ⟨rfl, rfl⟩ : oa2 = some ⟨g, 0, none⟩ ∧ oc2 = oc := by simpa using hv
            have hrv : D.reverse = D'.reverse ++ [d] := by rw [hD1, List.reverse_cons]
            obtain ⟨y0, hy0⟩ : ∃ y0, D'.length = y0 := ⟨_, rfl⟩
            have hyi : (y : Int) - 1 = (y0 : Int) := by omega
            have cg : wr.cell? ⟨g, y0, none⟩ = some (.int .i64 (d : Int)) := by
              have h1 : (cellsO D.reverse)[y0]? = some (.int .i64 (d : Int)) := by
                rw [hrv, cellsO_append, List.getElem?_append_right (by rw [cellsO_length, List.length_reverse, hy0]; exact Nat.le_refl _), cellsO_length, List.length_reverse, hy0, Nat.sub_self]
                rfl
              have := hown.cells (g := g) rfl y0 _ h1
              rwa [Addr.add_lit, Nat.zero_add] at this
            rw [HP.out] at hdu
            have hdx : ((d : Int) == pu) = true := by simp; exact hdu
            have hdy : (d : Int) = pu := hdu
            have q0' : (0 : Int) ≤ (y0 : Int) := by omega
            have q1 : (y0 : Int) < (y : Int) := by omega
            rw [hyi]
            clear hU2 hpA hown hy hAB hNb cy hD1 hdu hy1 hv hg1 hrv hyi hy0
            gi_wp2
            refine (wpIn_wide (n := m)).2 ?_
            go_wp2_with fail
            go_quiet (fail)
            go_wp2_with fail
            refine (wpIn_wide (n := m)).2 ?_
            go_wp2_with fail
            refine (wpIn_wide (n := m)).2 ?_
            obtain ⟨W4, hW4⟩ : ∃ X, X = wr.drewN nq := ⟨_, rfl⟩
            have hB4 : Below wr.heap.size wr W4 := by rw [hW4]; exact below_drewN (Below.refl _ _) _
            have hz4 : W4.heap.size = wr.heap.size := by rw [hW4]; rfl
            rw [← hW4]
            clear hW4
            have hown4 := own_below HU2.out.own hB4
            rw [List.length_reverse, HYL.out] at hown4
            have HO4 := Lib.hid hown4
            have HB4 := Lib.hid hB4
            have HZ4 := Lib.hid hz4
            clear hown4 hB4 hz4
            go_wp2_with (at_builtin; go_must (refine wpl_app_gen rfl _ _ 51 3 1 8 _ rfl Tryd.underlying51 infoI rfl (by omega) (by omega) (W.heap.size + 1) (.slice (some ⟨g, 0, none⟩) y oc2) y (cellsO D.reverse) rfl (own_allocI HO4.out _) _ 1 [.int .i64 (k : Int)] rfl (src_oneI _ _ _) rfl (by simp [Value.oneCell']) (by omega) (by rw [World.size_alloc]; have := HZ4.out; have := HU2.out.lt; omega) (y + 1) rfl ?_); rintro oa3 c3 W6 how hgr hob)
            obtain ⟨T6, hU6⟩ := HU2.out.push (x := k) HJ.out (HB4.out.trans ((Below.refl _ _).alloc HB4.out.size _)) (by rw [List.length_reverse, HYL.out]; exact how) hgr (by rw [List.length_reverse, HYL.out]; exact hob)
            rw [List.length_reverse, HYL.out] at hU6
            have HU6 := Lib.hid hU6
            clear how hgr hob hU6
            gi_wp2
            go_roundw
            case rel => exact ⟨k + 1, by omega, by go_num, T6, by rw [HP1.out, HY1.out, HPA.out]; exact HU6.out⟩
            case measure => simp [intOf]; omega
    · have hkn : k = n := by omega
      subst hkn
      obtain ⟨oa, oc, hv3, hrd⟩ := owns_rdo hU.own
      subst hv3
      obtain ⟨lv, hlv⟩ : ∃ lv, pth nv k = lv := ⟨_, rfl⟩
      obtain ⟨z, hz⟩ : ∃ z, lv.length = z := ⟨_, rfl⟩
      obtain ⟨Y, hY0⟩ : ∃ Y, ylb nv k = Y := ⟨_, rfl⟩
      have hups : ups nv k = Y ++ lv.reverse := by rw [ylb_ups, hY0, hlv]
      have hzn : z ≤ k := by
        rw [← hz, ← hlv]
        unfold pth
        by_cases h0 : k = 0
        · simp [h0]
        · rw [if_neg h0, List.length_reverse]
          have := yl_len HS.out (k - 1) (by omega)
          rw [List.length_append] at this
          omega
      rw [hlv, hY0] at hU
      rw [hlv] at hrd
      rw [hlv, hz]
      rw [hz] at hrd
      have HU := Lib.hid hU
      have HRD := Lib.hid hrd
      have HZ := Lib.hid hz
      have HUPS := Lib.hid hups
      clear hU hrd hz hlv hY0 hups HROW HS0
      gi_wp2_with fail
      refine ⟨trivial, fun _ => by omega, (callsIn_wide.2 (backI_any wr oa z oc)).mono ?_⟩
      rintro en W1 ⟨rfl, hW1⟩
      obtain ⟨Bp, hBp⟩ : ∃ x, wr.heap.size = x := ⟨_, rfl⟩
      have bx := Blk.new wr #[.slice oa z oc] 51
      rw [← hW1] at bx
      have hB1 : Below wr.heap.size wr W1 := by rw [hW1]; exact (Below.refl _ _).alloc (Nat.le_refl _) _
      have hz1 : W1.heap.size = wr.heap.size + 1 := by rw [hW1]; simp
      rw [hBp] at bx hB1 hz1 ⊢
      have hseq : ∀ Wx, Below W1.heap.size W1 Wx → SeqT (m - 1) Tryd.prog 26 #[.pointer (some ⟨Bp, 0, none⟩)] (fun x : Nat => #[.int .i64 (x : Int), .int .i64 (ol lv x : Int)]) (CapN Bp oa z) (rvR z) Wx := fun Wx hW =>
        backI_seq (m - 1) (by omega) Bp oa z oc lv (by omega) Wx (bx.below hW) ((HRD.out.below (hBp ▸ hB1)).below hW)
      have hown : ∀ b, CapN Bp oa z b → b = Bp ∨ T b := by
        rintro b (h | ⟨h1, off, h2⟩)
        · exact .inl h
        · subst h2
          exact .inr (HU.out.tv b rfl)
      have hlt := HU.out.lt
      have hcb : ∀ b, CapN Bp oa z b → b < W1.heap.size := fun b hb => by
        rcases hown b hb with h | h
        · omega
        · have := (HU.out.tb b h).2; omega
      have hstart : ∀ Wx, Below W1.heap.size W1 Wx → Wx.heap.size = W1.heap.size + 2 → IuP J lv Y W.heap.size l W1.heap.size Bp oa z [] (fun _ => False) Wx := by
        intro Wx hB hs
        have hBx : Below wr.heap.size wr Wx := (hBp ▸ hB1).trans (hB.mono (by omega))
        refine ⟨fun b => T b ∨ b = Bp ∨ b = W1.heap.size ∨ b = W1.heap.size + 1, ?_, HU.out.yb.below hBx, (fun b hb => hb.elim), .inl HU.out.ty, .inr (.inr (.inl rfl)), .inr (.inr (.inr rfl)), fun b hb => ?_, by omega, by omega⟩
        · have := HJ.out _ T wr Wx (fun b => T b ∨ b = Bp ∨ b = W1.heap.size ∨ b = W1.heap.size + 1) HU.out.hj (Frm.of_below hBx) (fun b hb => by
            rcases hb with h | h
            · exact .inl h
            · exact .inr (by omega))
          simpa using this
        · rcases hown b hb with h | h
          · exact .inr (.inl h)
          · exact .inl h
      have HSEQ := Lib.hid hseq
      have HCB := Lib.hid hcb
      have HST := Lib.hid hstart
      clear hseq hcb hstart bx hB1 hz1 hown hW1 hBp
      gi_wp2
      refine (wpT (L := rvR z) (encs := fun x : Nat => #[.int .i64 (x : Int), .int .i64 (ol lv x : Int)]) (C := CapN Bp oa z) (gf := 26) (lb := #[.pointer (some ⟨Bp, 0, none⟩)]) rfl (enters_of Tryd.func26 (by kernel_rfl) rfl) HSEQ.out HCB.out ?hps
        (IuP J lv Y W.heap.size l W1.heap.size Bp oa z) (IuX Jx W1.heap.size) (IuP.abid HJ.out) (IuX.abid HJX.out) ?start ?round ?fin ?stop)
      case hps => intro x; rfl
      case start => exact HST.out
      case round =>
        rintro pre x rest T1 Wr hLx ⟨To, h1, h2, h3, h4, h5, h6, h7, h8, h9⟩ hTb hWz hrec hdef t1 t2
        gi_wp2
        refine ⟨trivial, trivial, KpT.refl _ _ _, fun rr => ?_⟩
        obtain ⟨W3, hW3⟩ : ∃ X, Wr.putObj (W1.heap.size + 1) (.loop rr) = X := ⟨_, rfl⟩
        have z3 : W3.heap.size = Wr.heap.size := by rw [← hW3]; simp
        have hF3 : Frm (fun b => b = W1.heap.size + 1) Wr W3 := by
          rw [← hW3]
          exact frm_put (p := fun b => b = W1.heap.size + 1) Wr _ rfl
        rw [hW3]
        have j3 := HJ.out _ To Wr W3 (fun b => To b ∧ b < W3.heap.size) h1 (hF3.mono (fun b _ hb => hb ▸ h6)) (fun b hb => .inl hb.1)
        have y3 := h2.frm hF3 (by omega)
        have hLy : ups nv k = (Y ++ pre.map (ol lv)) ++ ol lv x :: rest.map (ol lv) := by
          rw [← HZ.out] at hLx
          rw [HUPS.out, rvR_olat hLx, List.append_assoc]
        obtain ⟨fn9, tmps9, assign9, body9, hy9, hR9⟩ := YieldAt.any (m := m - 1 - 1 - 1) (HY.out _ (ol lv x) _ (fun b => To b ∧ b < W3.heap.size) W3 hLy j3 (fun b hb => hb.2))
        have cy3 := y3.cell 0
        simp only [List.getElem?_toArray, List.getElem?_cons_zero] at cy3
        have HKP := Lib.hid (show ∀ X e, KpT (CapN Bx ao k) (fun b => To b ∧ b < W3.heap.size) W3 X → J (Y ++ pre.map (ol lv) ++ [ol lv x]) (fun b => To b ∧ b < W3.heap.size) X → X.heap[W1.heap.size + 1]? = W3.heap[W1.heap.size + 1]? ∧ X.heap[W1.heap.size]? = W3.heap[W1.heap.size]? ∧ KpT (CapN Bp oa z) T1 W3 X ∧ (e = 0 → IuP J lv Y W.heap.size l W1.heap.size Bp oa z (pre ++ [x]) T1 X) from fun X e hk hj => by
          refine ⟨hk.same _ (by omega) (.inl ⟨h6, by omega⟩), hk.same _ (by omega) (.inl ⟨h5, by omega⟩), ⟨hk.size, fun b hb hh => ?_⟩, fun _ => ?_⟩
          · rcases hh with hh | hh
            · exact hk.same b hb (.inl ⟨(h3 b hh).1, hb⟩)
            · exact hk.same b hb (.inl ⟨h7 b hh, hb⟩)
          · have hs := hk.size
            refine ⟨fun b => To b ∧ b < W3.heap.size, by rw [List.map_append, ← List.append_assoc]; exact hj, (hk.same _ (by omega) (.inl ⟨h4, by omega⟩)).trans y3, fun b hb => ⟨⟨(h3 b hb).1, by have := hTb b hb; omega⟩, (h3 b hb).2⟩, ⟨h4, by omega⟩, ⟨h5, by omega⟩, ⟨h6, by omega⟩, fun b hb => ⟨h7 b hb, by have := HCB.out b hb; omega⟩, by omega, h9⟩)
        have HKX := Lib.hid (show ∀ X, KpT (CapN Bx ao k) (fun b => To b ∧ b < W3.heap.size) W3 X → Jx (Y ++ pre.map (ol lv) ++ [ol lv x]) (fun b => To b ∧ b < W3.heap.size) X → X.heap[W1.heap.size + 1]? = W3.heap[W1.heap.size + 1]? ∧ X.heap[W1.heap.size]? = W3.heap[W1.heap.size]? ∧ KpT (CapN Bp oa z) T1 W3 X ∧ IuX Jx W1.heap.size .ret (pre ++ [x]) T1 X from fun X hk hj => by
          have hs := hk.size
          refine ⟨hk.same _ (by omega) (.inl ⟨h6, by omega⟩), hk.same _ (by omega) (.inl ⟨h5, by omega⟩), ⟨hk.size, fun b hb hh => ?_⟩, rfl, _, fun b => To b ∧ b < W3.heap.size, hj, fun b hb => ⟨⟨(h3 b hb).1, by have := hTb b hb; omega⟩, (h3 b hb).2⟩, ⟨h5, by omega⟩, ⟨h6, by omega⟩, by omega⟩
          rcases hh with hh | hh
          · exact hk.same b hb (.inl ⟨(h3 b hh).1, hb⟩)
          · exact hk.same b hb (.inl ⟨h7 b hh, hb⟩))
        clear hW3 hrec hdef j3 y3 hLy hLx h1 h2
        gi_wp2_with fail
        refine ⟨fun _ => by omega, RoundIn.mono (F := Fence.wide) hR9 ?_⟩
        rintro e9 WA ⟨hkA, hrA⟩
        rcases hrA with ⟨rfl, hjA⟩ | ⟨rfl, hjA⟩
        · have HG := Lib.hid (HKP.out WA (0 : Nat) hkA hjA)
          clear hkA hjA
          gi_wp2
          exact ⟨HG.out.1, HG.out.2.1, HG.out.2.2.1, HG.out.2.2.2 (by first | rfl | trivial)⟩
        · have HG := Lib.hid (HKX.out WA hkA hjA)
          clear hkA hjA
          gi_wp2
          exact HG.out
      case fin =>
        rintro T1 Wr ⟨To, h1, h2, h3, h4, h5, h6, h7, h8, h9⟩ hWz hWd
        have HFIN := Lib.hid (HJ.out _ To Wr (Wr.putObj W1.heap.size (.deferred none)) To h1 (frm_put (p := To) Wr _ h5) (fun b hb => .inl hb))
        dsimp only
        gi_wp2
        refine ⟨by simp, .inl ⟨_, _, rfl, run_takeDeferred hWd, ?_⟩⟩
        exact ⟨_, results_none rfl _ _ _, ⟨⟨_, rfl⟩, .inl ⟨_, by rw [HUPS.out, ← rvR_ol, HZ.out]; exact HFIN.out⟩⟩⟩
      case stop =>
        rintro cc pre T1 Wr ⟨rfl, s, To, h1, h3, h5, h6, h8⟩ hWz hWd
        have HFIN := Lib.hid (HJX.out _ To Wr (Wr.putObj W1.heap.size (.deferred none)) To h1 (frm_put (p := To) Wr _ h5) (fun b hb => .inl hb))
        gi_wp2
        refine ⟨by simp, .inl ⟨_, _, rfl, run_takeDeferred hWd, ?_⟩⟩
        exact ⟨_, results_none rfl _ _ _, ⟨⟨_, rfl⟩, .inr ⟨_, _, HFIN.out⟩⟩⟩
end Go.Proofs.YtdiolfniaiojfaaDoor

/- What a reader's node of layer 11 (tree) returns. Condition: texts of at most 100,000 bytes, at most a hundred thousand nodes. -/
import Derived.Test.YtdiolfniaiojfaaDoorTrU
namespace Go.Proofs.YtdiolfniaiojfaaDoor
open Go.RowKit
set_option linter.unusedVariables false

/-- What node leaves: another node, or the place that can't be. -/
def NodeR (s : ByteArray) (a : Nat) (up : Int) (L : List Nd) (R base : Nat) (w : World) (e : Ending) (w' : World) : Prop :=
  (∃ (x : Nd) (q : Nat) (oa : Option Addr) (c : Nat), NdOk s a up x q ∧ dg s q = false ∧ e = .returned (.bool true) ∧ Blk w' R (rdC s q (.slice oa (L.length + 1) c)) 49 ∧ w'.ownsRow base 27 4 (.slice oa (L.length + 1) c) (L.length + 1) (cellsN (L ++ [x])) ∧ (∀ g, (Value.slice oa (L.length + 1) c).ownBlock = some g → g ≠ R) ∧ Below base w w') ∨
  (∃ (p : Nat) (v : Value), Fm s true a up L ([], (p : Int)) ∧ e = .returned (.bool false) ∧ Blk w' R (rdC s p v) 49 ∧ Below base w w')
/-- What stands behind the calls that read a node. -/
def NodeC (s : ByteArray) (a : Nat) (up : Int) (L : List Nd) (b : Bool) (x : Nd) (p : Nat) : Prop :=
  (b = true ∧ NdOk s a up x p ∧ dg s p = false) ∨ (b = false ∧ Fm s true a up L ([], (p : Int)))
def cellA (x : Nd) : Array Value := #[.int .i64 x.k, .int .i64 x.f, .int .i64 x.t, .int .i64 x.u]
theorem src_nd {w : World} {b : Nat} {x : Nd} (h : Blk w b (cellA x) 27) : Src w (.slice (some ⟨b, 0, none⟩) 1 1) 1 (cellN x) :=
  .inr ⟨b, 0, 1, rfl, h.lt, fun j u hj => by
    rw [Nat.zero_add, h.cell j]
    simpa [cellA, cellN] using hj⟩
section
variable (w : World)
set_option maxRecDepth 100000 in
set_option maxHeartbeats 8000000 in
theorem node_any (R base : Nat) (s : ByteArray) (a : Nat) (up : Int) (L : List Nd) (oa : Option Addr) (oc : Nat) (hR : Blk w R (rdC s a (.slice oa L.length oc)) 49) (hb : base ≤ R) (hown : w.ownsRow base 27 4 (.slice oa L.length oc) L.length (cellsN L)) (hno : ∀ g, (Value.slice oa L.length oc).ownBlock = some g → g ≠ R) (hs : s.size ≤ 100000) (ha : a ≤ s.size) (hL : L.length ≤ 100000) :
    Calls Tryd.prog 24 #[.pointer (some ⟨R, 0, none⟩), .int .i64 up] w fun e w' => NodeR s a up L R base w e w' := by
  obtain ⟨W1, hW1⟩ : ∃ W1, w.alloc (.cells #[.int .i64 0, .int .i64 0, .int .i64 0, .int .i64 up] 27) = W1 := ⟨_, rfl⟩
  have hRl := hR.lt
  have hne : w.heap.size ≠ R := by omega
  have hR1 : Blk W1 R (rdC s a (.slice oa L.length oc)) 49 := by rw [← hW1]; exact hR.alloc _
  have hN1 : Blk W1 w.heap.size #[.int .i64 0, .int .i64 0, .int .i64 0, .int .i64 up] 27 := by rw [← hW1]; exact Blk.new _ _ _
  have hO1 : W1.ownsRow base 27 4 (.slice oa L.length oc) L.length (cellsN L) := by rw [← hW1]; exact own_below hown ((Below.refl _ _).alloc (Nat.le_refl _) _)
  have hB1 : Below base w W1 := by rw [← hW1]; exact (Below.refl _ _).alloc (by omega) _
  have hS1 : W1.heap.size = w.heap.size + 1 := by rw [← hW1]; exact World.size_alloc _ _
  have hol := own_lt hown
  obtain ⟨N, hN⟩ : ∃ N, w.heap.size = N := ⟨_, rfl⟩
  rw [hN] at hne hN1 hS1 hol
  obtain ⟨n, hn⟩ : ∃ n, L.length = n := ⟨_, rfl⟩
  rw [hn] at hR1 hO1 hL hno hol
  have HNN := Lib.hid hn
  have HNE := Lib.hid hne
  have HR1 := Lib.hid hR1
  have HN1 := Lib.hid hN1
  have HO1 := Lib.hid hO1
  have HB1 := Lib.hid hB1
  have HS1 := Lib.hid hS1
  have HNO := Lib.hid hno
  have HOL := Lib.hid hol
  have HK := Lib.hid (letK_le (bt_256 s a))
  have HRL := Lib.hid hRl
  have HWN := Lib.hid hN
  clear hR hR1 hN1 hO1 hB1 hS1 hown hno hn hol hne hRl
  go_enter Tryd.func24, Tryd.ntmps24
  go_upto_region 2 with fail
  go_cut [6] from 6 to 25 (fun v6 wx => ∃ (b : Bool) (x : Nd) (p : Nat), v6 = .bool b ∧ Blk wx R (rdC s p (.slice oa n oc)) 49 ∧ Blk wx N (cellA x) 27 ∧ Frm (fun j => j = R ∨ j = N) W1 wx ∧ NodeC s a up L b x p)
  case first =>
    by_cases l1 : letK (bt s a).toNat = 0
    · go_wp2_with fail
      refine (letter_no _ R N s a _ _ _ _ HR1.out HN1.out HNE.out hs ha l1).mono ?_
      rintro e w2 ⟨rfl, hR2, hN2, hF2⟩
      have HR2 := Lib.hid hR2
      have HN2 := Lib.hid hN2
      have HF2 := Lib.hid hF2
      have HL := Lib.hid l1
      clear hR2 hN2 hF2 l1 hW1
      go_wp2
      go_meet
      case rel => exact ⟨false, ⟨0, 0, 0, up⟩, a, rfl, HR2.out, HN2.out, HF2.out, .inr ⟨rfl, .bad (.inl ⟨HL.out, rfl⟩)⟩⟩
    · have hlt : a < s.size := by
        rcases Nat.lt_or_ge a s.size with g | g
        · exact g
        · rw [bt_out g] at l1; exact absurd (by decide) l1
      go_wp2_with fail
      refine (letter_yes _ R N s a _ _ _ _ HR1.out HN1.out HNE.out hs l1).mono ?_
      rintro e w2 ⟨rfl, hR2, hN2, hF2⟩
      obtain ⟨b1, hb1⟩ : ∃ b1, b1 = (decide (nlen s (a + 1) ≠ 0) && !dg s (a + 1 + nlen s (a + 1))) := ⟨_, rfl⟩
      have HQ1 := Lib.hid (number_any w2 R N 1 s (a + 1) _ _ (by simp) hR2 (show Blk w2 N (Array.setIfInBounds #[.int .i64 (letK (bt s a).toNat : Int), .int .i64 0, .int .i64 0, .int .i64 up] 1 (.int .i64 0)) 27 from by simpa using hN2) HNE.out hs (by omega) b1 hb1)
      have HF2 := Lib.hid hF2
      have HB1' := Lib.hid hb1
      have HL := Lib.hid l1
      have hz1 := nlen_size s (a + 1)
      have HZ1 := Lib.hid hz1
      clear hR2 hN2 hF2 hb1 l1 hW1 hz1
      go_wp2_with fail
      refine HQ1.out.mono ?_
      rintro e w3 ⟨rfl, hR3, hN3, hF3⟩
      simp only [List.setIfInBounds_toArray, List.set_cons_succ, List.set_cons_zero] at hN3
      have hF3' := HF2.out.trans hF3 (fun _ _ h => h)
      have HR3 := Lib.hid hR3
      have HN3 := Lib.hid hN3
      have HF3 := Lib.hid hF3'
      clear hR3 hN3 hF3 hF3'
      obtain ⟨m, hm⟩ : ∃ m, a + 1 + nlen s (a + 1) = m := ⟨_, rfl⟩
      have HM := Lib.hid hm
      have HR3b : Hid (Blk w3 R (rdC s m (.slice oa n oc)) 49) := Lib.hid (by rw [← hm]; exact HR3.out)
      clear hm
      have hms : m ≤ s.size := by
        have h1 := HM.out
        rcases Nat.eq_zero_or_pos (nlen s (a + 1)) with g | g
        · omega
        · have := HZ1.out (by omega); omega
      cases b1
      · have hbad : NdBad s a m := by
          have h1 := HB1'.out
          refine .inr (.inl ⟨HL.out, ?_, HM.out.symm⟩)
          rw [HM.out] at h1 ⊢
          rcases Nat.eq_zero_or_pos (nlen s (a + 1)) with g | g
          · exact .inl g
          · right
            have h2 : dg s m = true := by
              rcases hd : dg s m with _ | _
              · rw [hd] at h1; simp at h1; omega
              · rfl
            unfold dg at h2
            rw [decide_eq_true_iff] at h2
            omega
        have HBAD := Lib.hid hbad
        clear hbad
        go_wp2
        go_meet
        case rel => exact ⟨false, ⟨_, _, _, up⟩, m, rfl, HR3b.out, HN3.out, HF3.out, .inr ⟨rfl, .bad HBAD.out⟩⟩
      · have h1 := HB1'.out
        rw [HM.out] at h1
        have hn1 : nlen s (a + 1) ≠ 0 := by
          intro g
          rw [g] at h1
          simp at h1
        have HNZ := Lib.hid hn1
        clear hn1 h1
        by_cases h45 : (bt s m).toNat = 45
        · have hlm : m < s.size := bt_lt (by omega)
          have HT := Lib.hid (take_yes w3 R s m _ 45 HR3b.out hs h45 (by decide))
          have H45 := Lib.hid h45
          clear h45
          go_wp2_with fail
          refine HT.out.mono ?_
          rintro e w4 ⟨rfl, hR4, hF4⟩
          have hN4 := HN3.out.frm hF4 HNE.out
          have hF4' := HF3.out.trans hF4 (fun _ _ h => .inl h)
          obtain ⟨b2, hb2⟩ : ∃ b2, b2 = (decide (nlen s (m + 1) ≠ 0) && !dg s (m + 1 + nlen s (m + 1))) := ⟨_, rfl⟩
          have HQ2 := Lib.hid (number_any w4 R N 2 s (m + 1) _ _ (by simp) hR4 (show Blk w4 N (Array.setIfInBounds #[.int .i64 (letK (bt s a).toNat : Int), .int .i64 (nval s (a + 1) (nlen s (a + 1)) : Int), .int .i64 0, .int .i64 up] 2 (.int .i64 0)) 27 from by simpa using hN4) HNE.out hs (by omega) b2 hb2)
          have HB2' := Lib.hid hb2
          have HF4 := Lib.hid hF4'
          clear hR4 hN4 hF4 hF4' hb2
          go_wp2_with fail
          refine HQ2.out.mono ?_
          rintro e w5 ⟨rfl, hR5, hN5, hF5⟩
          simp only [List.setIfInBounds_toArray, List.set_cons_succ, List.set_cons_zero] at hN5
          have HR5 := Lib.hid hR5
          have HN5 := Lib.hid hN5
          have HF5 := Lib.hid (HF4.out.trans hF5 (fun _ _ h => h))
          clear hR5 hN5 hF5
          have hok : nlen s (m + 1) ≠ 0 → NdOk s a up ⟨(letK (bt s a).toNat : Int), (nval s (a + 1) (nlen s (a + 1)) : Int), (nval s (m + 1) (nlen s (m + 1)) : Int), up⟩ (m + 1 + nlen s (m + 1)) := fun g =>
            ⟨HL.out, HNZ.out, by rw [HM.out]; exact H45.out, by rw [HM.out]; exact g, by rw [HM.out], by rw [HM.out]⟩
          have HOK := Lib.hid hok
          clear hok
          cases b2
          · have hfm : Fm s true a up L ([], ((m + 1 + nlen s (m + 1) : Nat) : Int)) := by
              have h1 := HB2'.out
              rcases Nat.eq_zero_or_pos (nlen s (m + 1)) with g | g
              · exact .bad (.inr (.inr ⟨HL.out, HNZ.out, by rw [HM.out]; exact H45.out, by rw [HM.out]; exact g, by rw [HM.out, g]⟩))
              · refine .digit (HOK.out (by omega)) ?_
                rcases hd : dg s (m + 1 + nlen s (m + 1)) with _ | _
                · rw [hd] at h1; simp at h1; omega
                · rfl
            have HFM := Lib.hid hfm
            clear hfm
            go_wp2
            go_meet
            case rel => exact ⟨false, ⟨_, _, _, up⟩, _, rfl, HR5.out, HN5.out, HF5.out, .inr ⟨rfl, HFM.out⟩⟩
          · have hok2 : nlen s (m + 1) ≠ 0 ∧ dg s (m + 1 + nlen s (m + 1)) = false := by
              have h1 := HB2'.out
              constructor
              · intro g
                rw [g] at h1
                simp at h1
              · rcases hd : dg s (m + 1 + nlen s (m + 1)) with _ | _
                · rfl
                · rw [hd] at h1; simp at h1
            have HOK2 := Lib.hid hok2
            clear hok2
            go_wp2
            go_meet
            case rel => exact ⟨true, ⟨_, _, _, up⟩, _, rfl, HR5.out, HN5.out, HF5.out, .inl ⟨rfl, HOK.out HOK2.out.1, HOK2.out.2⟩⟩
        · have HT := Lib.hid (take_no w3 R s m _ 45 HR3b.out hs hms h45)
          have hbad : NdBad s a m := .inr (.inl ⟨HL.out, .inr (by rw [HM.out]; exact h45), HM.out.symm⟩)
          have HBAD := Lib.hid hbad
          clear hbad h45
          go_wp2_with fail
          refine HT.out.mono ?_
          rintro e w4 ⟨rfl, hR4, hF4⟩
          have HN4 := Lib.hid (HN3.out.frm hF4 HNE.out)
          have HF4 := Lib.hid (HF3.out.trans hF4 (fun _ _ h => .inl h))
          have HR4 := Lib.hid hR4
          clear hF4 hR4
          go_wp2
          go_meet
          case rel => exact ⟨false, ⟨_, _, _, up⟩, m, rfl, HR4.out, HN4.out, HF4.out, .inr ⟨rfl, .bad HBAD.out⟩⟩
  case rest =>
    obtain ⟨b, x, p, rfl, hR2, hN2, hF2, hC⟩ := hcut
    have u0 : wc.cell? ⟨N, 0, none⟩ = some (.int .i64 x.k) := hN2.cell 0
    have u1 : wc.cell? ⟨N, 1, none⟩ = some (.int .i64 x.f) := hN2.cell 1
    have u2 : wc.cell? ⟨N, 2, none⟩ = some (.int .i64 x.t) := hN2.cell 2
    have u3 : wc.cell? ⟨N, 3, none⟩ = some (.int .i64 x.u) := hN2.cell 3
    have m2 : wc.cell? ⟨R, 2, none⟩ = some (.slice oa n oc) := hR2.cell 2
    have m2a : ∀ A, (wc.alloc A).cell? ⟨R, 2, none⟩ = some (.slice oa n oc) := fun A => (hR2.alloc A).cell 2
    have hO2 := own_frm hF2 HO1.out (fun g hg h => by
      rcases h with h | h
      · exact HNO.out g hg h
      · have := HOL.out g hg; omega)
    have HR2 := Lib.hid hR2
    have HN2 := Lib.hid hN2
    have HF2 := Lib.hid hF2
    have HC := Lib.hid hC
    have HO2 := Lib.hid hO2
    have hz2 : base ≤ wc.heap.size := by have := hR2.lt; omega
    have HX := Lib.hid (own_ge hO2)
    have HXL := Lib.hid (own_lt hO2)
    have hxN : ∀ g, (Value.slice oa n oc).ownBlock = some g → g ≠ N := fun g hg => by have := HOL.out g hg; omega
    have HXN := Lib.hid hxN
    obtain ⟨xk, xf, xt, xu⟩ := x
    simp only at u0 u1 u2 u3
    clear hR2 hN2 hF2 hC hO2 hxN
    go_upto_region 3 with fail
    go_cut [] from 26 to 35 (fun wx => ∃ (og : Option Addr) (c' : Nat), Blk wx R (rdC s p (.slice og (n + 1) c')) 49 ∧ wx.ownsRow base 27 4 (.slice og (n + 1) c') (n + 1) (cellsN L ++ cellN ⟨xk, xf, xt, xu⟩) ∧ (∀ g, (Value.slice og (n + 1) c').ownBlock = some g → g ≠ R) ∧ Below base w wx)
    case first =>
      go_region_law (refine step_app_gen (by rfl) _ _ 22 27 4 32 _ (by rfl) Tryd.underlying22 infoN rfl (by omega) (by omega) base (.slice oa n oc) n (cellsN L) (by rfl) (own_below HO2.out ((((Below.refl _ _).alloc (Nat.le_refl _) _).drew))) _ 1 (cellN ⟨xk, xf, xt, xu⟩) (by rfl) (src_nd (x := ⟨xk, xf, xt, xu⟩) ((Blk.new wc _ _).drew)) rfl (fun u hu => by simp [cellN] at hu; rcases hu with rfl | rfl | rfl | rfl <;> rfl) (by omega) (by show base ≤ (wc.alloc _).heap.size; rw [World.size_alloc]; omega) (n + 1) rfl ?_; intro oa9 c9 w9 hown9 hgr9 hg9; have kr9 := ((HR2.out.alloc (.cells #[.int .i64 xk, .int .i64 xf, .int .i64 xt, .int .i64 xu] 27)).drew).grown hgr9 (fun e => HNO.out _ e.symm rfl); have q7 : w9.cell? ⟨R, 2, none⟩ = some (.slice oa n oc) := kr9.cell 2; have f7 := kr9.frozen 2)
      all_goals
        go_wp2_with fail
        go_meet
        case rel =>
          have hFz : Frm (fun j => j = R) w9 (w9.setCell ⟨R, 2, none⟩ (.slice oa9 (n + 1) c9)) := Frm.setCell (p := fun j => j = R) (Frm.refl _ w9) 2 (.inl rfl) _
          have hsz9 : (wc.alloc (.cells #[.int .i64 xk, .int .i64 xf, .int .i64 xt, .int .i64 xu] 27)).drew.heap.size = wc.heap.size + 1 := World.size_alloc _ _
          have hRlt := HR2.out.lt
          have hgR : ∀ g, (Value.slice oa9 (n + 1) c9).ownBlock = some g → g ≠ R := fun g hg => by
            rcases hg9 with q | q
            · exact HNO.out g (q.symm.trans hg)
            · rw [q] at hg
              injection hg with hg
              omega
          have hbw : Below base w wc := HB1.out.trans (HF2.out.below (by have h1 := HS1.out; have h2 := HRL.out; have h3 := HWN.out; omega) (fun k hk => by have h2 := HRL.out; have h3 := HWN.out; omega))
          have hb9 : Below base w w9 := (((hbw.alloc (by omega) (.cells #[.int .i64 xk, .int .i64 xf, .int .i64 xt, .int .i64 xu] 27)).drew).grown hgr9 (by rw [hsz9]; omega) (fun k hk => HX.out k hk))
          refine ⟨oa9, c9, ?_, own_frm hFz hown9 hgR, hgR, hb9.setCell (p := ⟨R, 2, none⟩) hb _⟩
          have := kr9.set 2 (.slice oa9 (n + 1) c9)
          simpa [rdC] using this
    case rest =>
      obtain ⟨og, c', hR3, hO3, hno3, hB3⟩ := hcut
      have HR3 := Lib.hid hR3
      have HO3 := Lib.hid hO3
      have HB3 := Lib.hid hB3
      have HN3 := Lib.hid hno3
      clear hR3 hO3 hB3 hno3 u0 u1 u2 u3 m2 m2a
      go_wp2
      go_ret
      rcases HC.out with ⟨rfl, h1, h2⟩ | ⟨rfl, h1⟩
      · refine .inl ⟨_, p, og, c', h1, h2, rfl, ?_, ?_, ?_, HB3.out⟩
        · rw [HNN.out]; exact HR3.out
        · rw [HNN.out, cellsN_append]; simpa [cellsN] using HO3.out
        · rw [HNN.out]; exact HN3.out
      · exact .inr ⟨p, _, h1, rfl, HR3.out, HB3.out⟩
end
end Go.Proofs.YtdiolfniaiojfaaDoor

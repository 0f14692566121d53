/- What a reader's tree, and Read of layer 11 (tree), return: to what a text leads. Condition: texts of at most 100,000 bytes. -/
import Derived.Test.YtdiolfniaiojfaaDoorTrV
namespace Go.Proofs.YtdiolfniaiojfaaDoor
open Go.RowKit
set_option linter.unusedVariables false

/-- Where tree's round stands: a node is to come. -/
def TrRl (s : ByteArray) (R base : Nat) (w : World) (v3 : Value) (wr : World) : Prop :=
  ∃ (a : Nat) (up : Int) (L : List Nd) (oa : Option Addr) (oc : Nat), v3 = .int .i64 up ∧ a ≤ s.size ∧ -1 ≤ up ∧ up < (L.length : Int) ∧ L.length * 4 ≤ a ∧ (∀ (i : Nat) (y : Nd), L[i]? = some y → -1 ≤ y.u ∧ y.u < (i : Int)) ∧ (∀ Q, Fm s true a up L Q → Fm s true 0 (-1) [] Q) ∧
    Blk wr R (rdC s a (.slice oa L.length oc)) 49 ∧ wr.ownsRow base 27 4 (.slice oa L.length oc) L.length (cellsN L) ∧ (∀ g, (Value.slice oa L.length oc).ownBlock = some g → g ≠ R) ∧ Below base w wr
/-- Behind a node: brackets may be shut. -/
def TrRl2 (s : ByteArray) (R base : Nat) (a0 : Nat) (L : List Nd) (oa : Option Addr) (oc : Nat) (w : World) (v3 : Value) (wr : World) : Prop :=
  ∃ (a : Nat) (up : Int), v3 = .int .i64 up ∧ a0 < a ∧ a ≤ s.size ∧ -1 ≤ up ∧ up < (L.length : Int) ∧ L.length * 4 ≤ a ∧ (∀ Q, Fm s false a up L Q → Fm s true 0 (-1) [] Q) ∧
    Blk wr R (rdC s a (.slice oa L.length oc)) 49 ∧ wr.ownsRow base 27 4 (.slice oa L.length oc) L.length (cellsN L) ∧ Below base w wr
/-- What tree leaves. -/
def TreeR (s : ByteArray) (R base : Nat) (w : World) (e : Ending) (w' : World) : Prop :=
  (∃ (L : List Nd) (a : Nat) (oa : Option Addr) (oc : Nat), Fm s true 0 (-1) [] (L, -1) ∧ L ≠ [] ∧ L.length ≤ 100000 ∧ e = .returned (.bool true) ∧ Blk w' R (rdC s a (.slice oa L.length oc)) 49 ∧ w'.ownsRow base 27 4 (.slice oa L.length oc) L.length (cellsN L) ∧ Below base w w') ∨
  (∃ (p : Nat) (v : Value), Fm s true 0 (-1) [] ([], (p : Int)) ∧ e = .returned (.bool false) ∧ Blk w' R (rdC s p v) 49 ∧ Below base w w')
section
variable (w : World)
set_option maxRecDepth 100000 in
set_option maxHeartbeats 8000000 in
theorem tree_any (R base : Nat) (s : ByteArray) (hR : Blk w R (rdC s 0 (.slice none 0 0)) 49) (hb : base ≤ R) (hs : s.size ≤ 100000) :
    Calls Tryd.prog 17 #[.pointer (some ⟨R, 0, none⟩)] w fun e w' => TreeR s R base w e w' := by
  have HR := Lib.hid hR
  have hzw : base ≤ w.heap.size := by have := hR.lt; omega
  clear hR
  go_enter Tryd.func17, Tryd.ntmps17
  go_wp2
  go_step3
  go_wp2
  go_step3
  go_wp2
  go_loopw [3] (fun v3 wr => TrRl s R base w v3 wr) (fun _ wr => s.size + 1 - atW R wr)
  case atStart => exact ⟨0, -1, [], none, 0, rfl, Nat.zero_le _, by omega, by simp, by simp, fun i y h => by simp at h, fun Q h => h, HR.out, World.ownsRow_nil _ _ _ _, fun g hg => by simp [Value.ownBlock] at hg, Below.refl _ _⟩
  case round =>
    obtain ⟨a, up, L, oa, oc, rfl, ha, hu1, hu2, hLa, hLu, hQ, hRr, hO, hno, hB⟩ := hrel
    have hat := atW_of hRr
    have HAT := Lib.hid hat
    have HC := Lib.hid (node_any wr R base s a up L oa oc hRr hb hO hno hs ha (by omega))
    have HQ := Lib.hid hQ
    have HB := Lib.hid hB
    have HLU := Lib.hid hLu
    have HB2 := Lib.hid (And.intro hu1 (And.intro hu2 hLa))
    clear hat hRr hO hno hQ hB hLu hu1 hu2 hLa HR
    go_wp2_with fail
    refine HC.out.mono ?_
    rintro e w2 (⟨x, q, og, c, hok, hdq, rfl, hR2, hO2, hno2, hb2⟩ | ⟨p, v, hfm, rfl, hR2, hb2⟩)
    · -- a node stands there
      have hql := hok.lt
      obtain ⟨n, hn⟩ : ∃ n, L.length + 1 = n := ⟨_, rfl⟩
      obtain ⟨L', hL'⟩ : ∃ L', L ++ [x] = L' := ⟨_, rfl⟩
      have hl' : L'.length = n := by rw [← hL', ← hn]; simp
      rw [hn] at hR2 hO2 hno2
      rw [hL'] at hO2
      have hxu : x.u = up := by rw [hok.xx]
      have hLu' : ∀ (i : Nat) (y : Nd), L'[i]? = some y → -1 ≤ y.u ∧ y.u < (i : Int) := fun i y hy => by
        rw [← hL', List.getElem?_append] at hy
        split at hy
        · exact HLU.out i y hy
        · rename_i hge
          have h1 := HB2.out
          rcases Nat.lt_or_ge (i - L.length) 1 with g | g
          · rw [show i - L.length = 0 from by omega] at hy
            simp at hy
            subst hy
            omega
          · rw [List.getElem?_eq_none (by simpa using g)] at hy; cases hy
      have hB2 := HB.out.trans hb2
      have HL' := Lib.hid hL'
      have Hl' := Lib.hid hl'
      have HOK := Lib.hid hok
      have HR2 := Lib.hid hR2
      have HO2 := Lib.hid hO2
      have HNO := Lib.hid hno2
      have HBB := Lib.hid hB2
      have HLU' := Lib.hid hLu'
      have HN := Lib.hid hn
      have hn1 : 1 ≤ n := by omega
      have hnq : n * 4 ≤ q := by have := HB2.out; omega
      have hqs : q ≤ s.size := hql.2
      have hqa : a < q := by omega
      have HNI := Lib.hid (owns_nrow hO2)
      clear hL' hl' hok hR2 hO2 hno2 hB2 hb2 hLu' hxu hql hn hdq
      by_cases h40 : (bt s q).toNat = 40
      · have HT := Lib.hid (take_yes w2 R s q _ 40 HR2.out hs h40 (by decide))
        have hqs2 : q < s.size := bt_lt (by omega)
        have H40 := Lib.hid h40
        clear h40
        go_wp2_with fail
        refine HT.out.mono ?_
        rintro e w3 ⟨rfl, hR3, hF3⟩
        have m2 : w3.cell? ⟨R, 2, none⟩ = some (.slice og n c) := hR3.cell 2
        have HR3 := Lib.hid hR3
        have HO3 := Lib.hid (own_frm hF3 HO2.out (fun g hg h => HNO.out g hg h))
        have HB3 := Lib.hid (HBB.out.trans (hF3.below (by have := HBB.out.size; omega) (fun k hk => by omega)))
        have hat3 := atW_of hR3
        have HAT3 := Lib.hid hat3
        clear hR3 hF3 hat3
        go_wp2
        go_roundw
        case rel =>
          refine ⟨q + 1, (n : Int) - 1, L', og, c, rfl, by omega, by omega, by rw [Hl'.out]; omega, by rw [Hl'.out]; omega, HLU'.out, fun Q h => HQ.out Q (.opn HOK.out H40.out ?_), by rw [Hl'.out]; exact HR3.out, by rw [Hl'.out]; exact HO3.out, by rw [Hl'.out]; exact HNO.out, HB3.out⟩
          have h1 := HN.out
          rw [HL'.out, show ((L.length : Nat) : Int) = (n : Int) - 1 from by omega]
          exact h
        case measure => rw [HAT3.out, HAT.out]; omega
      · have HT := Lib.hid (take_no w2 R s q _ 40 HR2.out hs hqs h40)
        have H40 := Lib.hid h40
        clear h40
        go_wp2_with fail
        refine HT.out.mono ?_
        rintro e w3 ⟨rfl, hR3, hF3⟩
        have HR3 := Lib.hid hR3
        have HO3 := Lib.hid (own_frm hF3 HO2.out (fun g hg h => HNO.out g hg h))
        have HB3 := Lib.hid (HBB.out.trans (hF3.below (by have := HBB.out.size; omega) (fun k hk => by omega)))
        have HQ2 : Hid (∀ Q, Fm s false q up L' Q → Fm s true 0 (-1) [] Q) := Lib.hid (fun Q h => HQ.out Q (.sht HOK.out H40.out (by rw [HL'.out]; exact h)))
        clear hR3 hF3 HT HC HQ H40 HOK HR2 HO2
        have HQA := Lib.hid (And.intro hnq (And.intro hqs hqa))
        clear hnq hqs hqa
        go_wp2
        go_loopw [3] (fun v3 wr => TrRl2 s R base a L' og c w v3 wr) (fun _ wr => s.size + 1 - atW R wr)
        case atStart => exact ⟨q, up, rfl, HQA.out.2.2, HQA.out.2.1, HB2.out.1, by rw [Hl'.out]; have h1 := HB2.out; have h2 := HN.out; omega, by rw [Hl'.out]; exact HQA.out.1, HQ2.out, by rw [Hl'.out]; exact HR3.out, by rw [Hl'.out]; exact HO3.out, HB3.out⟩
        case round =>
          obtain ⟨b, ub, rfl, hab, hb1, hu1, hu2, hLb, hQb, hRb, hOb, hBb⟩ := hrel
          rw [Hl'.out] at hu2 hLb hRb hOb
          have hatb := atW_of hRb
          have HATB := Lib.hid hatb
          have HQB := Lib.hid hQb
          have HRB := Lib.hid hRb
          have HOB := Lib.hid hOb
          have HBBB := Lib.hid hBb
          have HUB := Lib.hid (And.intro hu1 (And.intro hu2 hLb))
          have HNIB := Lib.hid (owns_nrow hOb)
          have HRBL := Lib.hid hRb.lt
          have hLne : L' ≠ [] := fun h => by have := Hl'.out; rw [h] at this; simp at this; omega
          have HLNE := Lib.hid hLne
          clear hatb hQb hRb hOb hBb hLne
          by_cases hup : ub < 0
          · have h0 : wr.cell? ⟨R, 0, none⟩ = some (.string s) := HRB.out.cell 0
            have h1 : wr.cell? ⟨R, 1, none⟩ = some (.int .i64 (b : Int)) := HRB.out.cell 1
            have t1 : ¬ (0 : Int) ≤ ub := by omega
            have HUP := Lib.hid hup
            clear hup hu1 hu2
            by_cases he : b = s.size
            · have hfm := HQB.out _ (.done HUP.out he)
              have HFM := Lib.hid hfm
              subst he
              clear hfm
              go_wp2
              go_quiet (fail)
              go_wp2
              try rw [Exit.noGoto_ret]
              go_ret
              exact .inl ⟨L', s.size, og, c, HFM.out, HLNE.out, by rw [Hl'.out]; omega, rfl, by rw [Hl'.out]; exact HRB.out.drewN _, by rw [Hl'.out]; exact own_frm ((Frm.refl (fun _ => False) _).drewN _) HOB.out (fun _ _ h => h), belN HBBB.out _⟩
            · have hfm := HQB.out _ (.ovr HUP.out he)
              have HFM := Lib.hid hfm
              have t2 : ((b : Int) == (s.size : Int)) = false := by simp; omega
              clear hfm he
              go_wp2
              go_quiet (fail)
              go_wp2
              try rw [Exit.noGoto_ret]
              go_ret
              exact .inr ⟨b, _, HFM.out, rfl, HRB.out.drewN _, belN HBBB.out _⟩
          · obtain ⟨u, rfl⟩ : ∃ u : Nat, ub = (u : Int) := ⟨ub.toNat, by omega⟩
            have t1 : (0 : Int) ≤ (u : Int) := by omega
            have hun : u < n := by omega
            clear hup hu1 hu2
            by_cases h32 : (bt s b).toNat = 32
            · have HT := Lib.hid (take_yes wr R s b _ 32 HRB.out hs h32 (by decide))
              have hbs : b < s.size := bt_lt (by omega)
              have H32 := Lib.hid h32
              clear h32
              go_wp2_with fail
              refine HT.out.mono ?_
              rintro e w4 ⟨rfl, hR4, hF4⟩
              have hat4 := atW_of hR4
              have HAT4 := Lib.hid hat4
              have HR4 := Lib.hid hR4
              have HO4 := Lib.hid (own_frm hF4 HOB.out (fun g hg h => HNO.out g hg h))
              have HB4 := Lib.hid (HBBB.out.trans (hF4.below (by have := HBBB.out.size; omega) (fun k hk => by omega)))
              clear hR4 hF4 hat4
              go_wp2
              go_roundw
              case rel =>
                have h1 := HUB.out
                exact ⟨b + 1, (u : Int), L', og, c, rfl, by omega, by omega, by rw [Hl'.out]; omega, by rw [Hl'.out]; omega, HLU'.out, fun Q h => HQB.out Q (.nxt (by omega) H32.out h), by rw [Hl'.out]; exact HR4.out, by rw [Hl'.out]; exact HO4.out, by rw [Hl'.out]; exact HNO.out, HB4.out⟩
              case measure => rw [HAT4.out, HAT.out]; omega
            · have HT := Lib.hid (take_no wr R s b _ 32 HRB.out hs hb1 h32)
              have H32 := Lib.hid h32
              clear h32
              go_wp2_with fail
              refine HT.out.mono ?_
              rintro e w4 ⟨rfl, hR4, hF4⟩
              have HR4 := Lib.hid hR4
              have HF4 := Lib.hid hF4
              clear hR4 hF4
              by_cases h41 : (bt s b).toNat = 41
              · have HT2 := Lib.hid (take_yes w4 R s b _ 41 HR4.out hs h41 (by decide))
                have hbs : b < s.size := bt_lt (by omega)
                have H41 := Lib.hid h41
                clear h41
                go_wp2_with fail
                refine HT2.out.mono ?_
                rintro e w5 ⟨rfl, hR5, hF5⟩
                have hF5' := HF4.out.trans hF5 (fun _ _ h => h)
                have hO5 := own_frm hF5' HOB.out (fun g hg h => HNO.out g hg h)
                have hat5 := atW_of hR5
                have m2 : w5.cell? ⟨R, 2, none⟩ = some (.slice og n c) := hR5.cell 2
                obtain ⟨bb, off, rfl, hbb, c0, c1, c2, c3⟩ := (owns_nrow hO5).2 u hun
                obtain ⟨y, hy⟩ : ∃ y, L'[u]? = some y := ⟨L'[u]'(by have := Hl'.out; omega), List.getElem?_eq_getElem _⟩
                rw [nl_at hy] at c0 c1 c2 c3
                have hyu := HLU'.out u y hy
                have hun' : (u : Int) < (n : Int) := by omega
                have HQ5 : Hid (∀ Q, Fm s false (b + 1) y.u L' Q → Fm s true 0 (-1) [] Q) := Lib.hid (fun Q h => HQB.out Q (.pop H41.out hy h))
                obtain ⟨yu, hyy⟩ : ∃ yu, y.u = yu := ⟨_, rfl⟩
                rw [hyy] at c3 hyu
                have HYY := Lib.hid hyy
                have HYU := Lib.hid hyu
                have HR5 := Lib.hid hR5
                have HO5 := Lib.hid hO5
                have HAT5 := Lib.hid hat5
                have HB5 := Lib.hid (HBBB.out.trans (hF5'.below (by have := HBBB.out.size; omega) (fun k hk => by omega)))
                clear hR5 hF5 hF5' hO5 hat5 hy hyu hyy c0 c1 c2
                go_wp2
                go_roundw
                case rel =>
                  have h1 := HUB.out
                  have h2 := HYU.out
                  exact ⟨b + 1, yu, rfl, by omega, by omega, h2.1, by rw [Hl'.out]; omega, by rw [Hl'.out]; omega, by rw [← HYY.out]; exact HQ5.out, by rw [Hl'.out]; exact HR5.out, by rw [Hl'.out]; exact HO5.out, HB5.out⟩
                case measure => rw [HAT5.out, HATB.out]; omega
              · have HT2 := Lib.hid (take_no w4 R s b _ 41 HR4.out hs hb1 h41)
                have hfm := HQB.out _ (.stk t1 h41 H32.out)
                have HFM := Lib.hid hfm
                clear hfm h41
                go_wp2_with fail
                refine HT2.out.mono ?_
                rintro e w5 ⟨rfl, hR5, hF5⟩
                have HR5 := Lib.hid hR5
                have HB5 := Lib.hid (HBBB.out.trans ((HF4.out.trans hF5 (fun _ _ h => h)).below (by have := HBBB.out.size; omega) (fun k hk => by omega)))
                clear hR5 hF5
                go_wp2
                try rw [Exit.noGoto_ret]
                go_ret
                exact .inr ⟨b, _, HFM.out, rfl, HR5.out, HB5.out⟩
    · have HFM := Lib.hid (HQ.out _ hfm)
      have HR2 := Lib.hid hR2
      have HBB := Lib.hid (HB.out.trans hb2)
      clear hfm hR2 hb2
      go_wp2
      try rw [Exit.noGoto_ret]
      go_ret
      exact .inr ⟨p, v, HFM.out, rfl, HR2.out, HBB.out⟩
end
end Go.Proofs.YtdiolfniaiojfaaDoor

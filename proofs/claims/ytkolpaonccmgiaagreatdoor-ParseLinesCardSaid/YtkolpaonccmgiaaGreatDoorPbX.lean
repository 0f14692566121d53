/- The law ParseLines of layer 13 (parse). Condition: the program's table of operators lies as start-up lays it. -/
import Derived.Test.YtkolpaonccmgiaaGreatDoorPbW
import Derived.Test.YtkolpaonccmgiaaGreatDoorPbE
import Derived.Test.YtkolpaonccmgiaaGreatDoorSd
namespace Go.Proofs.YtkolpaonccmgiaaGreatDoor.Q
open Go.RowKit
set_option linter.unusedVariables false

section
variable (w : World)
set_option maxRecDepth 100000 in
set_option maxHeartbeats 8000000 in
theorem lines_law (hT : Tx w) (la : Option Addr) (n1 c1 : Nat) (av : Nat → Lf) (hrow : LfRow w la n1 av) (lb : Option Addr) (n2 c2 : Nat) (bv : Nat → Lf) (hrowb : LfRow w lb n2 bv) :
    Calls Tryz.prog 8 #[.slice la n1 c1, .slice lb n2 c2] w fun e w' => e = .returned (.bool true) ∧ Below w.heap.size w w' := by
  have HA := Lib.hid (awakeP_any w hT)
  have HROW := Lib.hid hrow
  have HROWB := Lib.hid hrowb
  have HT := Lib.hid hT
  have HS := Lib.hid (fun W (h : Below w.heap.size w W) => short_any W la n1 c1 av (hrow.below h) 30 (by omega))
  have HSB := Lib.hid (fun W (h : Below w.heap.size w W) => short_any W lb n2 c2 bv (hrowb.below h) 30 (by omega))
  clear hT hrow hrowb
  go_enter Tryz.func8, Tryz.ntmps8
  go_wp2_with fail
  refine HA.out.mono ?_
  rintro e w1 ⟨rfl, hb1⟩
  have HB1 := Lib.hid hb1
  clear hb1
  go_wp2_with fail
  refine (HS.out _ HB1.out).mono ?_
  rintro e w2 ⟨⟨b, rfl, hb⟩, rfl⟩
  cases b with
  | false =>
    go_wp2
    go_ret
    exact ⟨rfl, HB1.out⟩
  | true =>
  obtain ⟨hn1, hs1⟩ := hb.1 rfl
  have HSA := Lib.hid hs1
  clear hb hs1 HS
  go_wp2_with fail
  refine (HSB.out _ HB1.out).mono ?_
  rintro e w3 ⟨⟨b, rfl, hb⟩, rfl⟩
  cases b with
  | false =>
    go_wp2
    go_ret
    exact ⟨rfl, HB1.out⟩
  | true =>
  obtain ⟨hn2, hs2⟩ := hb.1 rfl
  have HSC := Lib.hid hs2
  clear hb hs2 HSB
  have HP1 := Lib.hid (parse_any (lc := c1) w3 (HROW.out.below HB1.out) (HT.out.b HB1.out) (fun i hi => Nat.le_trans (HSA.out i hi) (by omega)) (by omega))
  go_wp2_with fail
  refine HP1.out.mono ?_
  rintro e w4 ⟨LA, oa, oc, rfl, hTrA, hOA, hb4⟩
  have hlA := hTrA.len
  have hRA := (owns_nrow hOA).2
  have HTA := Lib.hid hTrA
  have HB4 := Lib.hid (HB1.out.trans (hb4.mono HB1.out.size))
  obtain ⟨mA, hmA⟩ : ∃ m, LA.length = m := ⟨_, rfl⟩
  rw [hmA] at hRA hlA ⊢
  have hAl : mA ≤ 1000 := by omega
  have HMA := Lib.hid hmA
  have HRA := Lib.hid hRA
  clear hTrA hOA hb4 hmA hRA hlA HP1
  have HP2 := Lib.hid (parse_any (lc := c2) w4 (HROWB.out.below HB4.out) (HT.out.b HB4.out) (fun i hi => Nat.le_trans (HSC.out i hi) (by omega)) (by omega))
  go_wp2_with fail
  refine HP2.out.mono ?_
  rintro e w5 ⟨LB, ob, cb, rfl, hTrB, hOB, hb5⟩
  have hlB := hTrB.len
  have hRB := (owns_nrow hOB).2
  have HTB := Lib.hid hTrB
  have HB5 := Lib.hid (HB4.out.trans (hb5.mono HB4.out.size))
  have HRA5 := Lib.hid (HRA.out.below hb5)
  obtain ⟨mB, hmB⟩ : ∃ m, LB.length = m := ⟨_, rfl⟩
  rw [hmB] at hRB hlB ⊢
  have hBl : mB ≤ 1000 := by omega
  have HMB := Lib.hid hmB
  have HRB5 := Lib.hid hRB
  clear hTrB hOB hb5 hmB hRB hlB HP2 HRA
  have HC1 := Lib.hid (refclean_any w5 oa mA oc (nl LA) HRA5.out (by omega))
  have HC2 := Lib.hid (refclean_any w5 ob mB cb (nl LB) HRB5.out (by omega))
  go_wp2_with fail
  refine HC1.out.mono ?_
  rintro e w6 ⟨⟨b, rfl, hb⟩, rfl⟩
  cases b with
  | false =>
    go_wp2
    go_ret
    exact ⟨rfl, HB5.out⟩
  | true =>
  have HKA := Lib.hid (hb.1 rfl)
  clear hb HC1
  go_wp2_with fail
  refine HC2.out.mono ?_
  rintro e w7 ⟨⟨b, rfl, hb⟩, rfl⟩
  cases b with
  | false =>
    go_wp2
    go_ret
    exact ⟨rfl, HB5.out⟩
  | true =>
  have HKB := Lib.hid (hb.1 rfl)
  clear hb HC2
  have HSZ := Lib.hid HB5.out.size
  go_wp2_with (at_builtin; first
    | (refine wpl_app_lf rfl _ _ rfl w7.heap.size (.slice (some ⟨w7.heap.size, 0, none⟩) 0 0) 0 [] rfl (own_new0 w7 (Nat.le_refl _)) la n1 c1 av rfl ((HROW.out.below HB5.out).below ((Below.refl _ _).alloc (Nat.le_refl _) _)) (by omega) (by rw [World.size_alloc]; omega) n1 (Nat.zero_add _) ?_; rintro oz cz W1 how1 hgr1 hob1
       have hF1 := (Frm.of_below (p := fun b => (Value.slice (some ⟨w7.heap.size, 0, none⟩) 0 0).ownBlock = some b) ((Below.refl _ w7).alloc (Nat.le_refl _) (.cells #[] 37))).grown hgr1 (fun b hb => .inl hb)
       have HBW := Lib.hid (hF1.below (Nat.le_refl _) (fun b hb => by cases hb; exact Nat.le_refl _))
       have HOW := Lib.hid how1
       clear hF1 how1 hgr1 hob1)
    | (refine wpl_app_gq rfl _ _ 22 37 4 40 _ rfl Tryz.underlying22 infoLf rfl (by omega) (by omega) w7.heap.size (.slice oz n1 cz) n1 ([] ++ cellsLq (lvL av n1)) rfl (own_allocI HOW.out _) _ 1 [.int .i64 2, .string ⟨#[10]⟩, .int .i64 0, .int .i64 0] rfl (src_four _ _ _ _ _ _) rfl (by simp [Value.oneCell']) (by omega) (by rw [World.size_alloc]; have := HBW.out.size; omega) (n1 + 1) rfl ?_; rintro oy cy W2 how2 hgr2 hob2
       have hF2 := (Frm.of_below (p := fun b => (Value.slice oz n1 cz).ownBlock = some b) ((Below.refl _ W1).alloc (Nat.le_refl _) (.cells #[.int .i64 2, .string ⟨#[10]⟩, .int .i64 0, .int .i64 0] 37))).grown hgr2 (fun b hb => .inl hb)
       have HBV := Lib.hid (HBW.out.trans (hF2.below HBW.out.size (fun b hb => own_ge HOW.out b hb)))
       have HOV := Lib.hid how2
       clear hF2 how2 hgr2 hob2)
    | (go_must (refine wpl_app_lf rfl _ _ rfl w7.heap.size (.slice oy (n1 + 1) cy) (n1 + 1) ([] ++ cellsLq (lvL av n1) ++ [.int .i64 2, .string ⟨#[10]⟩, .int .i64 0, .int .i64 0]) rfl HOV.out lb n2 c2 bv rfl (HROWB.out.below (HB5.out.trans (HBV.out.mono HB5.out.size))) (by omega) HBV.out.size (n1 + 1 + n2) rfl ?_); rintro ox cx W3 how3 hgr3 hob3
       have hF3 := (Frm.of_below (p := fun b => (Value.slice oy (n1 + 1) cy).ownBlock = some b) (Below.refl W2.heap.size W2)).grown hgr3 (fun b hb => .inl hb)
       have HBX := Lib.hid (HBV.out.trans (hF3.below HBV.out.size (fun b hb => own_ge HOV.out b hb)))
       have HOX := Lib.hid how3
       clear hF3 how3 hgr3 hob3))
  have hox := HOX.out
  rw [show [] ++ cellsLq (lvL av n1) ++ [.int .i64 2, .string ⟨#[10]⟩, .int .i64 0, .int .i64 0] ++ cellsLq (lvL bv n2) = cellsLq (linesL n1 av n2 bv) by unfold linesL; rw [cellsLq_append, cellsLq_append, List.nil_append]; rfl] at hox
  have HROWZ := Lib.hid (owns_lfq hox).2
  clear hox HOX HOV HOW
  obtain ⟨mz, hmz⟩ : ∃ m, n1 + 1 + n2 = m := ⟨_, rfl⟩
  have HE := Lib.hid (hmz ▸ emb_a (n1 := n1) (av := av) (n2 := n2) (bv := bv))
  have HF := Lib.hid (hmz ▸ emb_b (n1 := n1) (av := av) (n2 := n2) (bv := bv))
  have HSZZ := Lib.hid (fun i (hi : i < mz) => lines_sml (n1 := n1) (av := av) (n2 := n2) (bv := bv) (b := 60) (by omega) HSA.out HSC.out i (by omega))
  rw [hmz] at HROWZ ⊢
  have hmzl : mz ≤ 61 := by omega
  have HMZ := Lib.hid hmz
  clear hmz
  have HP3 := Lib.hid (parse_any (lc := cx) W3 HROWZ.out (HT.out.b (HB5.out.trans (HBX.out.mono HB5.out.size))) (fun i hi => Nat.le_trans (HSZZ.out i hi) (by omega)) (by omega))
  go_wp2_with fail
  refine HP3.out.mono ?_
  rintro e w8 ⟨LZ, od, cd, rfl, hTrZ, hOZ, hb8⟩
  have hlZ := hTrZ.len
  have hRZ := (owns_nrow hOZ).2
  have hb78 := HBX.out.trans (hb8.mono HBX.out.size)
  have HB8 := Lib.hid (HB5.out.trans (hb78.mono HB5.out.size))
  have HPA := Lib.hid (pipes_any w8 oa mA oc (nl LA) (HRA5.out.below hb78) (by omega))
  have HPB := Lib.hid (pipes_any w8 ob mB cb (nl LB) (HRB5.out.below hb78) (by omega))
  have hres := tree_lines HE.out HF.out HMZ.out.symm HTA.out HTB.out hTrZ ((okK_iff _).2 (fun i hi => HKA.out i (by rw [← HMA.out]; exact hi))) ((okK_iff _).2 (fun i hi => HKB.out i (by rw [← HMB.out]; exact hi)))
  rw [← cnt4_all, ← cnt4_all, ← cnt4_all, HMA.out, HMB.out, okK_iff] at hres
  obtain ⟨mZ, hmZ⟩ : ∃ m, LZ.length = m := ⟨_, rfl⟩
  rw [hmZ] at hRZ hlZ hres ⊢
  have hZl : mZ ≤ 10000 := by omega
  have HPZ := Lib.hid (pipes_any w8 od mZ cd (nl LZ) hRZ (by omega))
  have HCZ := Lib.hid (refclean_any w8 od mZ cd (nl LZ) hRZ (by omega))
  have HRES := Lib.hid hres
  have hca := cnt4_le (nl LA) mA
  have hcb := cnt4_le (nl LB) mB
  obtain ⟨xa, hxa⟩ : ∃ x, cnt4 (nl LA) mA = x := ⟨_, rfl⟩
  obtain ⟨xb, hxb⟩ : ∃ x, cnt4 (nl LB) mB = x := ⟨_, rfl⟩
  rw [hxa] at HPA HRES hca
  rw [hxb] at HPB HRES hcb
  have hz : cnt4 (nl LZ) mZ = xa + xb := HRES.out.2
  rw [hz] at HPZ
  have e1 : IntKind.i64.wrap ((xa : Int) + (xb : Int)) = ((xa + xb : Nat) : Int) := by rw [IntWalk.i64_in _ (by omega)]; rfl
  clear hTrZ hOZ hb8 hRZ hb78 hres hmZ hxa hxb hz hlZ hca hcb HP3
  go_wp2_with fail
  refine HCZ.out.mono ?_
  rintro e w9 ⟨⟨b, rfl, hb⟩, rfl⟩
  obtain rfl : b = true := hb.2 HRES.out.1
  clear hb HCZ
  go_wp2_with fail
  refine HPZ.out.mono ?_
  rintro e w10 ⟨rfl, rfl⟩
  go_wp2_with fail
  refine HPA.out.mono ?_
  rintro e w11 ⟨rfl, rfl⟩
  go_wp2_with fail
  refine HPB.out.mono ?_
  rintro e w12 ⟨rfl, rfl⟩
  go_wp2
  go_ret
  exact ⟨by simp, HB8.out⟩
end
end Go.Proofs.YtkolpaonccmgiaaGreatDoor.Q

/- What compound, function, command, pipe, andOr and  -/
import Derived.Test.YtkolpaonccmgiaaGreatDoorSy
set_option linter.unusedVariables false
namespace Go.Proofs.YtkolpaonccmgiaaGreatDoor.Q
set_option linter.unusedSectionVars false
set_option linter.unusedVariables false
open Go.RowKit
section
variable {n:Nat} {lv:Nat→Lf} {la:Option Addr} {lc g:Nat} {w0:World} {P:Nat→Prop}
set_option maxRecDepth 100000 in
set_option maxHeartbeats 2000000 in
theorem compound_any {a0:Nat} (HL:LstOK n lv la lc g a0):Does (kP n lv la lc g) w0 P 118 #[.pointer (some ⟨g,0,none⟩)] (cmpP n lv) (fun s=>cmpT n lv s=true∧a0≤s.a∧pot s≤20):=by
 intro w s hM ⟨hc,ha,hp⟩
 have hn:s.a<n:=by
  refine sg_le (lv:=lv) (fun e=>?_)
  unfold cmpT at hc
  rw [e]at hc
  simp at hc
 have hb1:Below w.heap.size w (w.alloc (.cells #[.pointer (some ⟨g,0,none⟩)] 46)):=(Below.refl _ w).alloc (Nat.le_refl _) _
 have hbx:=Blk.new w #[.pointer (some ⟨g,0,none⟩)] 46
 obtain⟨W,hW⟩:∃W,w.alloc (.cells #[.pointer (some ⟨g,0,none⟩)] 46)=W:=⟨_,rfl⟩
 rw [hW]at hb1 hbx
 have hWs:W.heap.size=w.heap.size+1:=by rw [←hW,World.size_alloc]
 have b0:W.cell? ⟨w.heap.size,0,none⟩=some (.pointer (some ⟨g,0,none⟩)):=hbx.cell 0
 have HF:=Lib.hid (form_any HL (hM.below hb1) hc)
 have HX:=Lib.hid (And.intro hb1 (And.intro hbx hWs))
 have HM:=Lib.hid hM
 have HC:=Lib.hid hc
 have hmf:=mkfun
 clear hM hc hb1 hbx hWs HL
 go_enter Tryz.func118,Tryz.ntmps118
 go_wp2_with fail
 refine HF.out.mono ?_
 rintro e w2 ⟨v,rfl,kd,F,first,cap,wb,rfl,hb2,hE,hcp,hcw,how,hD⟩
 obtain⟨hb1,hbx,hWs⟩:=HX.out
 have hB2:=hbx.below hb2
 have b2:w2.cell? ⟨w.heap.size,0,none⟩=some (.pointer (some ⟨g,0,none⟩)):=hB2.cell 0
 have h2s:=hb2.size
 have hnw:Blk (w2.alloc (.cells #[.func (.func F) first cap] 1)) w2.heap.size #[.func (.func F) first cap] 1:=Blk.new w2 _ _
 obtain⟨w3,hw3⟩:∃w3,w2.alloc (.cells #[.func (.func F) first cap] 1)=w3:=⟨_,rfl⟩
 have hf3:Frm (fun _=>False) w2 w3:=by
  rw [←hw3]
  exact(Frm.refl _ w2).alloc _
 have hC3:Blk w3 w2.heap.size #[.func (.func F) first cap] 1:=by rw [←hw3];exact hnw
 have hB3:Blk w3 w.heap.size #[.pointer (some ⟨g,0,none⟩)] 46:=hB2.frm hf3 (fun h=>h)
 have hbl:Below w.heap.size w w3:=(hb1.trans (hb2.mono (by omega))).trans (hf3.below (by omega) (fun k hk=>hk.elim))
 obtain⟨P',hM',hPP,hPn,hback⟩:=HM.out.base hbl
 have hD':=hD w3 P' (fun k h1 h2=>⟨hPn k (by omega) (Nat.lt_of_lt_of_le h2 hf3.size),hf3.block k h2 (fun h=>h)⟩)
 have hl:=pot_len HM.out (by omega)
 have hd:s.d≤1000:=by
  have h:=HC.out
  unfold cmpT at h
  rw [Bool.and_eq_true]at h
  have:=of_decide_eq_true h.2
  omega
 have hpb:=pot_bgn kd true s
 have HCC:=Lib.hid (deeper_any kd 145 #[] #[.pointer (some ⟨w.heap.size,0,none⟩),.pointer (some ⟨w2.heap.size,0,none⟩)] (enter_of _ _ _ Tryz.func145 (by kernel_rfl) rfl) (.seq .adv (.seq wb (redsP n lv))) _ (compound1_any w.heap.size w2.heap.size F first cap wb hE hcw how hD' hB3 (hPn _ (Nat.le_refl _) hB3.lt) hC3 (hPn _ (by omega) hC3.lt)) w3 s hM' ⟨⟨ha,hn,by omega⟩,hl,hd⟩)
 have HBK:=Lib.hid hback
 have HCP:=Lib.hid (hcp s)
 have b3:w3.cell? ⟨w.heap.size,0,none⟩=some (.pointer (some ⟨g,0,none⟩)):=hB3.cell 0
 clear hb2 hE hcp hcw how hD hb1 hbx hWs hB2 h2s hnw hf3 hC3 hB3 hbl hM' hPP hPn hback hD' hl hd HF
 go_wp2_with fail
 refine HCC.out.mono ?_
 rintro e w5 ⟨rfl,s5,he5,hM5⟩
 have HM5:=Lib.hid (HBK.out _ _ hM5)
 have HE5:=Lib.hid (HCP.out _ (by trivial) he5)
 clear hM5 he5
 go_wp2
 go_end0
 exact⟨rfl,_,HE5.out,HM5.out⟩
set_option maxRecDepth 100000 in
set_option maxHeartbeats 2000000 in
theorem function_any {a0:Nat} (HL:LstOK n lv la lc g a0):Does (kP n lv la lc g) w0 P 121 #[.pointer (some ⟨g,0,none⟩)] (fnbP n lv) (fun s=>sgA n lv s.a=120∧sgA n lv (s.a+1)=40∧a0≤s.a∧pot s≤40):=by
 intro w s hM ⟨h1,h2,ha,hp⟩
 have hn1:=sg_le (lv:=lv) (n:=n) (i:=s.a) (by omega)
 have hn2:=sg_le (lv:=lv) (n:=n) (i:=s.a+1) (by omega)
 have HCO:=Lib.hid (compound_any (w0:=w0) (P:=P) HL)
 have HCT:=Lib.hid (fun w s (h:Mk (kP n lv la lc g) w0 P s w)=>compound_tells (n:=n) (lv:=lv) (la:=la) (lc:=lc) (g:=g) w0 P w s h)
 have HON:=Lib.hid (one_any (n:=n) (lv:=lv) (la:=la) (lc:=lc) (g:=g) (w0:=w0) (P:=P))
 clear h1 h2 HL
 have HWO:=Lib.hid (word_any (n:=n) (lv:=lv) (la:=la) (lc:=lc) (g:=g) (w0:=w0) (P:=P))
 have HNL:=Lib.hid (fun w s (h:Mk (kP n lv la lc g) w0 P s w)=>nls_any h)
 have HMI:=Lib.hid (missing_any (n:=n) (lv:=lv) (la:=la) (lc:=lc) (g:=g) (w0:=w0) (P:=P))
 have HWp:=Lib.hid (want_any (n:=n) (lv:=lv) (la:=la) (lc:=lc) (g:=g) (w0:=w0) (P:=P) ⟨#[41]⟩ 41 (by decide+kernel))
 have HM:=Lib.hid hM
 clear hM
 go_enter Tryz.func121,Tryz.ntmps121
 go_wp2_with fail
 refine(HWO.out _ _ HM.out ⟨hn1,pot_len HM.out (by omega)⟩).mono ?_
 rintro e w1 ⟨rfl,s1,he1,hM1⟩
 have hp1:=potle he1 (by rfl) (c:= -29) (of_decide_eq_true (by rfl))
 have ha1:s1.a=s.a+1:=by cases he1 with|node h=>cases h;rfl
 have HM1:=Lib.hid hM1
 have HE1:=Lib.hid he1
 clear hM1 he1
 go_wp2_with fail
 refine(HON.out _ _ HM1.out (by omega)).mono ?_
 rintro e w2 ⟨rfl,s2,he2,hM2⟩
 have HM2:=Lib.hid hM2
 have HE2:=Lib.hid he2
 have ha2:=he2.kp.a
 have hp2:=potle he2 (by rfl) (c:= -30) (of_decide_eq_true (by rfl))
 clear hM2 he2
 go_wp2_with fail
 refine(HWp.out _ _ HM2.out (pot_len HM2.out (by omega))).mono ?_
 rintro e w3 ⟨rfl,s3,he3,hM3⟩
 have HM3:=Lib.hid hM3
 have HE3:=Lib.hid he3
 have ha3:=he3.kp.a
 have hp3:=potle he3 (by rfl) (c:=1) (of_decide_eq_true (by rfl))
 clear hM3 he3
 obtain⟨z4,hz4⟩:∃z,isS n lv [110] s3=z:=⟨_,rfl⟩
 have HZ4:=Lib.hid (HNL.out _ _ HM3.out z4 hz4)
 clear hz4
 go_wp2_with fail
 refine(HZ4.out).mono ?_
 rintro e w4 ⟨rfl,s4,he4,hM4⟩
 have HM4:=Lib.hid hM4
 have HE4:=Lib.hid he4
 have ha4:=he4.kp.a
 have hp4:=potle he4 (by rfl) (c:=0) (of_decide_eq_true (by rfl))
 clear hM4 he4
 obtain⟨b,hb⟩:∃b,cmpT n lv s4=b:=⟨_,rfl⟩
 have hc:=HCT.out _ _ HM4.out
 rw [hb]at hc
 have HC:=Lib.hid hc
 have HB:=Lib.hid hb
 clear hb hc
 cases b with
 |true=>
  go_wp2_with fail
  refine(HC.out).mono ?_
  rintro e w5 ⟨rfl,hb5⟩
  have HM5:=Lib.hid (HM4.out.below hb5)
  clear hb5
  go_wp2_with fail
  refine(HCO.out _ _ HM5.out ⟨HB.out,by omega,by omega⟩).mono ?_
  rintro e w6 ⟨rfl,s6,he6,hM6⟩
  have HM6:=Lib.hid hM6
  have HE6:=Lib.hid he6
  have ha6:=he6.kp.a
  clear hM6 he6
  go_wp2
  go_end0
  exact⟨rfl,_,.seq HE1.out (.seq HE2.out (.seq HE3.out (.seq HE4.out (.yes HB.out HE6.out)))),HM6.out⟩
 |false=>
  go_wp2_with fail
  refine(HC.out).mono ?_
  rintro e w5 ⟨rfl,hb5⟩
  have HM5:=Lib.hid (HM4.out.below hb5)
  clear hb5
  go_wp2_with fail
  refine(HMI.out _ _ HM5.out (pot_len HM5.out (by omega))).mono ?_
  rintro e w6 ⟨rfl,s6,he6,hM6⟩
  have HM6:=Lib.hid hM6
  have HE6:=Lib.hid he6
  have ha6:=he6.kp.a
  have hp6:=potle he6 (by rfl) (c:=1) (of_decide_eq_true (by rfl))
  clear hM6 he6
  go_wp2
  go_end0
  exact⟨rfl,_,.seq HE1.out (.seq HE2.out (.seq HE3.out (.seq HE4.out (.no HB.out HE6.out)))),HM6.out⟩
set_option maxRecDepth 100000 in
set_option maxHeartbeats 2000000 in
theorem commandM_any {a0:Nat} (HL:LstOK n lv la lc g a0):Does (kP n lv la lc g) w0 P 101 #[.pointer (some ⟨g,0,none⟩)] (comP n lv) (fun s=>a0≤s.a∧pot s≤15):=by
 intro w s hM ⟨ha,hp⟩
 have HCO:=Lib.hid (compound_any (w0:=w0) (P:=P) HL)
 have HFN:=Lib.hid (deeper_any 16 121 #[.pointer (some ⟨g,0,none⟩)] #[] (enter_of _ _ _ Tryz.func121 (by kernel_rfl) rfl) (fnbP n lv) _ (function_any (w0:=w0) (P:=P) HL))
 have HSM:=Lib.hid (node_any 5 122 #[.pointer (some ⟨g,0,none⟩)] #[] (enter_of _ _ _ Tryz.func122 (by kernel_rfl) rfl) (simbP n lv) _ (simple_any (n:=n) (lv:=lv) (la:=la) (lc:=lc) (g:=g) (w0:=w0) (P:=P)))
 have hmf:=mkfun
 have hpb:=pot_bgn 5 false s
 have hpb2:=pot_bgn 16 true s
 obtain⟨x,hx⟩:∃x,cmpT n lv s=x:=⟨_,rfl⟩
 obtain⟨y,hy⟩:∃y,fnT n lv s=y:=⟨_,rfl⟩
 obtain⟨z,hz⟩:∃z,cmdT n lv s=z:=⟨_,rfl⟩
 have hcx:=fun W (h:Mk (kP n lv la lc g) w0 P s W)=>compound_tells (n:=n) (lv:=lv) (la:=la) (lc:=lc) (g:=g) w0 P W s h
 have hcy:=fun W (h:Mk (kP n lv la lc g) w0 P s W)=>function_tells (n:=n) (lv:=lv) (la:=la) (lc:=lc) (g:=g) w0 P W s h
 have hcz:=fun W (h:Mk (kP n lv la lc g) w0 P s W)=>command_tells (n:=n) (lv:=lv) (la:=la) (lc:=lc) (g:=g) w0 P W s h
 rw [hx]at hcx
 rw [hy]at hcy
 rw [hz]at hcz
 have HCX:=Lib.hid hcx
 have HCY:=Lib.hid hcy
 have HCZ:=Lib.hid hcz
 have HX:=Lib.hid hx
 have HY:=Lib.hid hy
 have HZ:=Lib.hid hz
 clear hcx hcy hcz hx hy hz HL
 have HMI:=Lib.hid (missing_any (n:=n) (lv:=lv) (la:=la) (lc:=lc) (g:=g) (w0:=w0) (P:=P))
 have HM:=Lib.hid hM
 clear hM
 cases x with
 |true=>
  go_enter Tryz.func101,Tryz.ntmps101
  go_wp2_with fail
  refine(HCX.out _ HM.out).mono ?_
  rintro e w1 ⟨rfl,hb1⟩
  have HM1:=Lib.hid (HM.out.below hb1)
  clear hb1
  go_wp2_with fail
  refine(HCO.out _ _ HM1.out ⟨HX.out,ha,by omega⟩).mono ?_
  rintro e w2 ⟨rfl,s2,he2,hM2⟩
  have HM2:=Lib.hid hM2
  have HE2:=Lib.hid he2
  have ha2:=he2.kp.a
  clear hM2 he2
  go_wp2
  go_end0
  exact⟨rfl,_,.yes HX.out HE2.out,HM2.out⟩
 |false=>
  cases y with
  |true=>
   have hf:sgA n lv s.a=120∧sgA n lv (s.a+1)=40∧s.d≤1000:=by
    have h:=HY.out
    unfold fnT at h
    simp only [Bool.and_eq_true,beq_iff_eq,decide_eq_true_eq]at h
    exact⟨h.1.1.1,h.1.2,by omega⟩
   have HF:=Lib.hid hf
   clear hf
   go_enter Tryz.func101,Tryz.ntmps101
   go_wp2_with fail
   refine(HCX.out _ HM.out).mono ?_
   rintro e w1 ⟨rfl,hb1⟩
   have HM1:=Lib.hid (HM.out.below hb1)
   clear hb1
   go_wp2_with fail
   refine(HCY.out _ HM1.out).mono ?_
   rintro e w2 ⟨rfl,hb2⟩
   have HM2:=Lib.hid (HM1.out.below hb2)
   clear hb2
   go_wp2_with fail
   refine(HFN.out _ _ HM2.out ⟨⟨HF.out.1,HF.out.2.1,ha,by omega⟩,pot_len HM2.out (by omega),HF.out.2.2⟩).mono ?_
   rintro e w3 ⟨rfl,s3,he3,hM3⟩
   have HM3:=Lib.hid hM3
   have HE3:=Lib.hid he3
   have ha3:=he3.kp.a
   clear hM3 he3
   go_wp2
   go_end0
   exact⟨rfl,_,.no HX.out (.yes HY.out HE3.out),HM3.out⟩
  |false=>
   cases z with
   |true=>
    go_enter Tryz.func101,Tryz.ntmps101
    go_wp2_with fail
    refine(HCX.out _ HM.out).mono ?_
    rintro e w1 ⟨rfl,hb1⟩
    have HM1:=Lib.hid (HM.out.below hb1)
    clear hb1
    go_wp2_with fail
    refine(HCY.out _ HM1.out).mono ?_
    rintro e w2 ⟨rfl,hb2⟩
    have HM2:=Lib.hid (HM1.out.below hb2)
    clear hb2
    go_wp2_with fail
    refine(HCZ.out _ HM2.out).mono ?_
    rintro e w3 ⟨rfl,hb3⟩
    have HM3:=Lib.hid (HM2.out.below hb3)
    clear hb3
    go_wp2_with fail
    refine(HSM.out _ _ HM3.out ⟨by omega,pot_len HM3.out (by omega)⟩).mono ?_
    rintro e w4 ⟨rfl,s4,he4,hM4⟩
    have HM4:=Lib.hid hM4
    have HE4:=Lib.hid he4
    have ha4:=he4.kp.a
    clear hM4 he4
    go_wp2
    go_end0
    exact⟨rfl,_,.no HX.out (.no HY.out (.yes HZ.out HE4.out)),HM4.out⟩
   |false=>
    go_enter Tryz.func101,Tryz.ntmps101
    go_wp2_with fail
    refine(HCX.out _ HM.out).mono ?_
    rintro e w1 ⟨rfl,hb1⟩
    have HM1:=Lib.hid (HM.out.below hb1)
    clear hb1
    go_wp2_with fail
    refine(HCY.out _ HM1.out).mono ?_
    rintro e w2 ⟨rfl,hb2⟩
    have HM2:=Lib.hid (HM1.out.below hb2)
    clear hb2
    go_wp2_with fail
    refine(HCZ.out _ HM2.out).mono ?_
    rintro e w3 ⟨rfl,hb3⟩
    have HM3:=Lib.hid (HM2.out.below hb3)
    clear hb3
    go_wp2_with fail
    refine(HMI.out _ _ HM3.out (pot_len HM3.out (by omega))).mono ?_
    rintro e w4 ⟨rfl,s4,he4,hM4⟩
    have HM4:=Lib.hid hM4
    have HE4:=Lib.hid he4
    have ha4:=he4.kp.a
    have hp4:=potle he4 (by rfl) (c:=1) (of_decide_eq_true (by rfl))
    clear hM4 he4
    go_wp2
    go_end0
    exact⟨rfl,_,.no HX.out (.no HY.out (.no HZ.out HE4.out)),HM4.out⟩
end
section
variable {n:Nat} {lv:Nat→Lf} {la:Option Addr} {lc g:Nat} {w0:World} {P:Nat→Prop}
set_option maxRecDepth 100000 in
set_option maxHeartbeats 2000000 in
theorem pipeM_any {a0:Nat} (HL:LstOK n lv la lc g a0):Does (kP n lv la lc g) w0 P 71 #[.pointer (some ⟨g,0,none⟩)] (pipbP n lv) (fun s=>a0≤s.a∧pot s≤13):=by
 intro w s hM ⟨ha,hp⟩
 have HCM:=Lib.hid (commandM_any (w0:=w0) (P:=P) HL)
 clear HL
 have HTK:=Lib.hid (fun t l (hl:Sg t l) w s (h:Mk (kP n lv la lc g) w0 P s w)=>take_any t l hl h)
 have HNL:=Lib.hid (fun w s (h:Mk (kP n lv la lc g) w0 P s w)=>nls_any h)
 have HM:=Lib.hid hM
 clear hM
 obtain⟨b0,hb0⟩:∃b,isS n lv [33] s=b:=⟨_,rfl⟩
 have HC0:=Lib.hid (HTK.out ⟨#[33]⟩ [33] (by decide+kernel) _ _ HM.out b0 hb0)
 have HB0:=Lib.hid hb0
 clear hb0
 cases b0 with
 |true=>
  go_enter Tryz.func71,Tryz.ntmps71
  go_wp2_with fail
  refine HC0.out.mono ?_
  rintro e w1 ⟨rfl,hM1⟩
  have HM1:=Lib.hid (show Mk (kP n lv la lc g) w0 P (nxt s) w1 from hM1)
  have hp1:=pot_nxt s
  have ha1:(nxt s).a=s.a+1:=rfl
  clear hM1
  go_wp2_with fail
  refine(HCM.out _ _ HM1.out ⟨by omega,by omega⟩).mono ?_
  rintro e w2 ⟨rfl,s2,he2,hM2⟩
  have HM2:=Lib.hid hM2
  have HE2:=Lib.hid he2
  have ha2:=he2.kp.a
  have hp2:=potle he2 (by rfl) (c:=1) (of_decide_eq_true (by rfl))
  clear hM2 he2
  go_wp2
  go_loopw [] (fun wr=>Rl (kP n lv la lc g) w0 P (.rep (isS n lv [124]) (.seq .adv (.seq (nlsP n lv) (comP n lv))) yesT .skip) s2 15 wr) (fun wr=>n+1 - atM g wr)
  case atStart=>exact⟨s2,HM2.out,by omega,Nat.le_refl _,fun _ h=>h⟩
  case round=>
   obtain⟨r,hMr,hpr,har,hk⟩:=hrel
   have HK:=Lib.hid hk
   have HMR:=Lib.hid hMr
   obtain⟨b3,hb3⟩:∃b,isS n lv [124] r=b:=⟨_,rfl⟩
   have HC3:=Lib.hid (HTK.out ⟨#[124]⟩ [124] (by decide+kernel) _ _ hMr b3 hb3)
   have HB3:=Lib.hid hb3
   clear hb3
   clear hMr hk
   cases b3 with
   |true=>
    go_wp2_with fail
    refine HC3.out.mono ?_
    rintro e w3 ⟨rfl,hM3⟩
    have HM3:=Lib.hid (show Mk (kP n lv la lc g) w0 P (nxt r) w3 from hM3)
    have hp3:=pot_nxt r
    have ha3:(nxt r).a=r.a+1:=rfl
    clear hM3
    obtain⟨z4,hz4⟩:∃z,isS n lv [110] (nxt r)=z:=⟨_,rfl⟩
    have HZ4:=Lib.hid (HNL.out _ _ HM3.out z4 hz4)
    clear hz4
    go_wp2_with fail
    refine(HZ4.out).mono ?_
    rintro e w4 ⟨rfl,s4,he4,hM4⟩
    have HM4:=Lib.hid hM4
    have HE4:=Lib.hid he4
    have ha4:=he4.kp.a
    have hp4:=potle he4 (by rfl) (c:=0) (of_decide_eq_true (by rfl))
    clear hM4 he4
    go_wp2_with fail
    refine(HCM.out _ _ HM4.out ⟨by omega,by omega⟩).mono ?_
    rintro e w5 ⟨rfl,s5,he5,hM5⟩
    have HM5:=Lib.hid hM5
    have HE5:=Lib.hid he5
    have ha5:=he5.kp.a
    have hp5:=potle he5 (by rfl) (c:=1) (of_decide_eq_true (by rfl))
    clear hM5 he5
    go_wp2
    go_roundw
    case rel=>exact⟨_,HM5.out,by omega,by omega,fun s' he=>HK.out s' (.go HB3.out (.seq .adv (.seq HE4.out HE5.out)) rfl .skip he)⟩
    case measure=>
     have e1:=atM_of HM5.out
     have e2:=atM_of HMR.out
     have:=isS_le (lv:=lv) HB3.out (by decide)
     rw [e1,e2]
     omega
   |false=>
    go_wp2_with fail
    refine HC3.out.mono ?_
    rintro e w3 ⟨rfl,hM3⟩
    have HM3:=Lib.hid (show Mk (kP n lv la lc g) w0 P r w3 from hM3)
    clear hM3
    have HE3:=Lib.hid (HK.out _ (.stop HB3.out))
    go_wp2
    go_end0
    exact⟨rfl,_,.seq (.yes HB0.out .adv) (.seq HE2.out HE3.out),HM3.out⟩
 |false=>
  go_enter Tryz.func71,Tryz.ntmps71
  go_wp2_with fail
  refine HC0.out.mono ?_
  rintro e w1 ⟨rfl,hM1⟩
  have HM1:=Lib.hid (show Mk (kP n lv la lc g) w0 P s w1 from hM1)
  clear hM1
  go_wp2_with fail
  refine(HCM.out _ _ HM1.out ⟨by omega,by omega⟩).mono ?_
  rintro e w2 ⟨rfl,s2,he2,hM2⟩
  have HM2:=Lib.hid hM2
  have HE2:=Lib.hid he2
  have ha2:=he2.kp.a
  have hp2:=potle he2 (by rfl) (c:=1) (of_decide_eq_true (by rfl))
  clear hM2 he2
  go_wp2
  go_loopw [] (fun wr=>Rl (kP n lv la lc g) w0 P (.rep (isS n lv [124]) (.seq .adv (.seq (nlsP n lv) (comP n lv))) yesT .skip) s2 15 wr) (fun wr=>n+1 - atM g wr)
  case atStart=>exact⟨s2,HM2.out,by omega,Nat.le_refl _,fun _ h=>h⟩
  case round=>
   obtain⟨r,hMr,hpr,har,hk⟩:=hrel
   have HK:=Lib.hid hk
   have HMR:=Lib.hid hMr
   obtain⟨b3,hb3⟩:∃b,isS n lv [124] r=b:=⟨_,rfl⟩
   have HC3:=Lib.hid (HTK.out ⟨#[124]⟩ [124] (by decide+kernel) _ _ hMr b3 hb3)
   have HB3:=Lib.hid hb3
   clear hb3
   clear hMr hk
   cases b3 with
   |true=>
    go_wp2_with fail
    refine HC3.out.mono ?_
    rintro e w3 ⟨rfl,hM3⟩
    have HM3:=Lib.hid (show Mk (kP n lv la lc g) w0 P (nxt r) w3 from hM3)
    have hp3:=pot_nxt r
    have ha3:(nxt r).a=r.a+1:=rfl
    clear hM3
    obtain⟨z4,hz4⟩:∃z,isS n lv [110] (nxt r)=z:=⟨_,rfl⟩
    have HZ4:=Lib.hid (HNL.out _ _ HM3.out z4 hz4)
    clear hz4
    go_wp2_with fail
    refine(HZ4.out).mono ?_
    rintro e w4 ⟨rfl,s4,he4,hM4⟩
    have HM4:=Lib.hid hM4
    have HE4:=Lib.hid he4
    have ha4:=he4.kp.a
    have hp4:=potle he4 (by rfl) (c:=0) (of_decide_eq_true (by rfl))
    clear hM4 he4
    go_wp2_with fail
    refine(HCM.out _ _ HM4.out ⟨by omega,by omega⟩).mono ?_
    rintro e w5 ⟨rfl,s5,he5,hM5⟩
    have HM5:=Lib.hid hM5
    have HE5:=Lib.hid he5
    have ha5:=he5.kp.a
    have hp5:=potle he5 (by rfl) (c:=1) (of_decide_eq_true (by rfl))
    clear hM5 he5
    go_wp2
    go_roundw
    case rel=>exact⟨_,HM5.out,by omega,by omega,fun s' he=>HK.out s' (.go HB3.out (.seq .adv (.seq HE4.out HE5.out)) rfl .skip he)⟩
    case measure=>
     have e1:=atM_of HM5.out
     have e2:=atM_of HMR.out
     have:=isS_le (lv:=lv) HB3.out (by decide)
     rw [e1,e2]
     omega
   |false=>
    go_wp2_with fail
    refine HC3.out.mono ?_
    rintro e w3 ⟨rfl,hM3⟩
    have HM3:=Lib.hid (show Mk (kP n lv la lc g) w0 P r w3 from hM3)
    clear hM3
    have HE3:=Lib.hid (HK.out _ (.stop HB3.out))
    go_wp2
    go_end0
    exact⟨rfl,_,.seq (.no HB0.out .skip) (.seq HE2.out HE3.out),HM3.out⟩
set_option maxRecDepth 100000 in
set_option maxHeartbeats 2000000 in
theorem andor_any {a0:Nat} (HL:LstOK n lv la lc g a0):Does (kP n lv la lc g) w0 P 45 #[.pointer (some ⟨g,0,none⟩)] (andbP n lv) (fun s=>a0≤s.a∧pot s≤12):=by
 intro w s hM ⟨ha,hp⟩
 have HPI:=Lib.hid (node_any 4 71 #[.pointer (some ⟨g,0,none⟩)] #[] (enter_of _ _ _ Tryz.func71 (by kernel_rfl) rfl) (pipbP n lv) _ (pipeM_any (w0:=w0) (P:=P) HL))
 have hmf:=mkfun
 have hpb:=pot_bgn 4 false s
 have hab:(bgn 4 false s).a=s.a:=rfl
 clear HL
 have HTK:=Lib.hid (fun t l (hl:Sg t l) w s (h:Mk (kP n lv la lc g) w0 P s w)=>take_any t l hl h)
 have HNL:=Lib.hid (fun w s (h:Mk (kP n lv la lc g) w0 P s w)=>nls_any h)
 have HMI:=Lib.hid (missing_any (n:=n) (lv:=lv) (la:=la) (lc:=lc) (g:=g) (w0:=w0) (P:=P))
 have HPT:=Lib.hid (fun w s (h:Mk (kP n lv la lc g) w0 P s w)=>pipe_tells (n:=n) (lv:=lv) (la:=la) (lc:=lc) (g:=g) w0 P w s h)
 have HM:=Lib.hid hM
 clear hM
 go_enter Tryz.func45,Tryz.ntmps45
 go_wp2_with fail
 refine(HPI.out _ _ HM.out ⟨⟨by omega,by omega⟩,pot_len HM.out (by omega)⟩).mono ?_
 rintro e w1 ⟨rfl,s1,he1,hM1⟩
 have HM1:=Lib.hid hM1
 have HE1:=Lib.hid he1
 have ha1:=he1.kp.a
 have hp1:=potle he1 (by rfl) (c:=2) (of_decide_eq_true (by rfl))
 clear hM1 he1
 go_wp2
 go_loopw [] (fun wr=>Rl (kP n lv la lc g) w0 P (.rep (isS n lv [97,111]) (.seq .adv (.seq (nlsP n lv) (.ite (pipT n lv) (pipP n lv) missP))) yesT .skip) s1 14 wr) (fun wr=>n+1 - atM g wr)
 case atStart=>exact⟨s1,HM1.out,by omega,Nat.le_refl _,fun _ h=>h⟩
 case round=>
  obtain⟨r,hMr,hpr,har,hk⟩:=hrel
  have HK:=Lib.hid hk
  have HMR:=Lib.hid hMr
  obtain⟨b3,hb3⟩:∃b,isS n lv [97,111] r=b:=⟨_,rfl⟩
  have HC3:=Lib.hid (HTK.out ⟨#[97,111]⟩ [97,111] (by decide+kernel) _ _ hMr b3 hb3)
  have HB3:=Lib.hid hb3
  clear hb3
  clear hMr hk
  cases b3 with
  |true=>
   go_wp2_with fail
   refine HC3.out.mono ?_
   rintro e w3 ⟨rfl,hM3⟩
   have HM3:=Lib.hid (show Mk (kP n lv la lc g) w0 P (nxt r) w3 from hM3)
   have hp3:=pot_nxt r
   have ha3:(nxt r).a=r.a+1:=rfl
   clear hM3
   obtain⟨z4,hz4⟩:∃z,isS n lv [110] (nxt r)=z:=⟨_,rfl⟩
   have HZ4:=Lib.hid (HNL.out _ _ HM3.out z4 hz4)
   clear hz4
   go_wp2_with fail
   refine(HZ4.out).mono ?_
   rintro e w4 ⟨rfl,s4,he4,hM4⟩
   have HM4:=Lib.hid hM4
   have HE4:=Lib.hid he4
   have ha4:=he4.kp.a
   have hp4:=potle he4 (by rfl) (c:=0) (of_decide_eq_true (by rfl))
   clear hM4 he4
   obtain⟨b,hb⟩:∃b,pipT n lv s4=b:=⟨_,rfl⟩
   have hc:=HPT.out _ _ HM4.out
   rw [hb]at hc
   have HC:=Lib.hid hc
   have HB:=Lib.hid hb
   have hpb4:=pot_bgn 4 false s4
   have hab4:(bgn 4 false s4).a=s4.a:=rfl
   clear hb hc
   cases b with
   |true=>
    go_wp2_with fail
    refine(HC.out).mono ?_
    rintro e w5 ⟨rfl,hb5⟩
    have HM5:=Lib.hid (HM4.out.below hb5)
    clear hb5
    go_wp2_with fail
    refine(HPI.out _ _ HM5.out ⟨⟨by omega,by omega⟩,pot_len HM5.out (by omega)⟩).mono ?_
    rintro e w6 ⟨rfl,s6,he6,hM6⟩
    have HM6:=Lib.hid hM6
    have HE6:=Lib.hid he6
    have ha6:=he6.kp.a
    have hp6:=potle he6 (by rfl) (c:=2) (of_decide_eq_true (by rfl))
    clear hM6 he6
    go_wp2
    go_roundw
    case rel=>exact⟨_,HM6.out,by omega,by omega,fun s' he=>HK.out s' (.go HB3.out (.seq .adv (.seq HE4.out (.yes HB.out HE6.out))) rfl .skip he)⟩
    case measure=>
     have e1:=atM_of HM6.out
     have e2:=atM_of HMR.out
     have:=isS_le (lv:=lv) HB3.out (by decide)
     rw [e1,e2]
     omega
   |false=>
    go_wp2_with fail
    refine(HC.out).mono ?_
    rintro e w5 ⟨rfl,hb5⟩
    have HM5:=Lib.hid (HM4.out.below hb5)
    clear hb5
    go_wp2_with fail
    refine(HMI.out _ _ HM5.out (pot_len HM5.out (by omega))).mono ?_
    rintro e w6 ⟨rfl,s6,he6,hM6⟩
    have HM6:=Lib.hid hM6
    have HE6:=Lib.hid he6
    have ha6:=he6.kp.a
    have hp6:=potle he6 (by rfl) (c:=1) (of_decide_eq_true (by rfl))
    clear hM6 he6
    go_wp2
    go_roundw
    case rel=>exact⟨_,HM6.out,by omega,by omega,fun s' he=>HK.out s' (.go HB3.out (.seq .adv (.seq HE4.out (.no HB.out HE6.out))) rfl .skip he)⟩
    case measure=>
     have e1:=atM_of HM6.out
     have e2:=atM_of HMR.out
     have:=isS_le (lv:=lv) HB3.out (by decide)
     rw [e1,e2]
     omega
  |false=>
   go_wp2_with fail
   refine HC3.out.mono ?_
   rintro e w3 ⟨rfl,hM3⟩
   have HM3:=Lib.hid (show Mk (kP n lv la lc g) w0 P r w3 from hM3)
   clear hM3
   have HE3:=Lib.hid (HK.out _ (.stop HB3.out))
   go_wp2
   go_end0
   exact⟨rfl,_,.seq HE1.out HE3.out,HM3.out⟩
set_option maxRecDepth 100000 in
set_option maxHeartbeats 2000000 in
theorem list_any {a0:Nat} (HL:LstOK n lv la lc g a0):Does (kP n lv la lc g) w0 P 79 #[.pointer (some ⟨g,0,none⟩)] (lsbP n lv) (fun s=>a0≤s.a∧pot s≤11):=by
 intro w s hM ⟨ha,hp⟩
 have HAN:=Lib.hid (node_any 3 45 #[.pointer (some ⟨g,0,none⟩)] #[] (enter_of _ _ _ Tryz.func45 (by kernel_rfl) rfl) (andbP n lv) _ (andor_any (w0:=w0) (P:=P) HL))
 have hmf:=mkfun
 have hpb:=pot_bgn 3 false s
 have hab:(bgn 3 false s).a=s.a:=rfl
 clear HL
 have HSP:=Lib.hid (fun w s (h:Mk (kP n lv la lc g) w0 P s w)=>separator_any ⟨#[59,38]⟩ [59,38] [59,38,110] (by decide+kernel) (fun c=>by simp only [List.contains_cons,List.contains_nil,Bool.or_false,Bool.or_assoc]) h)
 have HPT:=Lib.hid (fun w s (h:Mk (kP n lv la lc g) w0 P s w)=>pipe_tells (n:=n) (lv:=lv) (la:=la) (lc:=lc) (g:=g) w0 P w s h)
 have HM:=Lib.hid hM
 clear hM
 go_enter Tryz.func79,Tryz.ntmps79
 go_step3
 go_wp2_with fail
 refine(HAN.out _ _ HM.out ⟨⟨by omega,by omega⟩,pot_len HM.out (by omega)⟩).mono ?_
 rintro e w1 ⟨rfl,s1,he1,hM1⟩
 have HM1:=Lib.hid hM1
 have HE1:=Lib.hid he1
 have ha1:=he1.kp.a
 have hp1:=potle he1 (by rfl) (c:=3) (of_decide_eq_true (by rfl))
 clear hM1 he1
 go_wp2
 try go_step3
 try go_wp2
 go_loopw [] (fun wr=>Rl (kP n lv la lc g) w0 P (.rep (isS n lv [59,38,110]) (.seq .adv (nlsP n lv)) (pipT n lv) (andP n lv)) s1 14 wr) (fun wr=>n+1 - atM g wr)
 case atStart=>exact⟨s1,HM1.out,by omega,Nat.le_refl _,fun _ h=>h⟩
 case round=>
  obtain⟨r,hMr,hpr,har,hk⟩:=hrel
  have HK:=Lib.hid hk
  have HMR:=Lib.hid hMr
  obtain⟨b3,hb3⟩:∃b,isS n lv [59,38,110] r=b:=⟨_,rfl⟩
  have HS:=Lib.hid (HSP.out _ _ hMr b3 hb3)
  have HB3:=Lib.hid hb3
  clear hMr hk hb3
  cases b3 with
  |false=>
   go_wp2_with fail
   refine HS.out.mono ?_
   rintro e w3 ⟨rfl,s3,he3,hM3⟩
   cases he3 with
   |yes h _=>rw [HB3.out]at h;cases h
   |no _ h=>
   cases h
   have HM3:=Lib.hid hM3
   have HE3:=Lib.hid (HK.out _ (.stop HB3.out))
   clear hM3
   go_wp2
   rw [Exit.noGoto_normal]
   go_end0
   exact⟨rfl,_,.seq HE1.out HE3.out,HM3.out⟩
  |true=>
   go_wp2_with fail
   refine HS.out.mono ?_
   rintro e w3 ⟨rfl,s3,he3,hM3⟩
   cases he3 with
   |no h _=>rw [HB3.out]at h;cases h
   |yes _ h=>
   have hp3:=potle h (by rfl) (c:= -30) (of_decide_eq_true (by rfl))
   have ha3:r.a+1≤s3.a:=by
    cases h with|seq h1 h2=>
    cases h1
    exact h2.kp.a
   have HM3:=Lib.hid hM3
   have HE3:=Lib.hid h
   clear hM3 h
   obtain⟨b,hb⟩:∃b,pipT n lv s3=b:=⟨_,rfl⟩
   have hc:=HPT.out _ _ HM3.out
   rw [hb]at hc
   have HC:=Lib.hid hc
   have HB:=Lib.hid hb
   have hpb4:=pot_bgn 3 false s3
   have hab4:(bgn 3 false s3).a=s3.a:=rfl
   clear hb hc
   cases b with
   |false=>
    go_wp2_with fail
    refine(HC.out).mono ?_
    rintro e w5 ⟨rfl,hb5⟩
    have HM5:=Lib.hid (HM3.out.below hb5)
    clear hb5
    have HE5:=Lib.hid (HK.out _ (.out HB3.out HE3.out HB.out))
    go_wp2
    rw [Exit.noGoto_normal]
    go_end0
    exact⟨rfl,_,.seq HE1.out HE5.out,HM5.out⟩
   |true=>
    go_wp2_with fail
    refine(HC.out).mono ?_
    rintro e w5 ⟨rfl,hb5⟩
    have HM5:=Lib.hid (HM3.out.below hb5)
    clear hb5
    go_wp2_with fail
    refine(HAN.out _ _ HM5.out ⟨⟨by omega,by omega⟩,pot_len HM5.out (by omega)⟩).mono ?_
    rintro e w6 ⟨rfl,s6,he6,hM6⟩
    have HM6:=Lib.hid hM6
    have HE6:=Lib.hid he6
    have ha6:=he6.kp.a
    have hp6:=potle he6 (by rfl) (c:=3) (of_decide_eq_true (by rfl))
    clear hM6 he6
    go_wp2
    go_roundw
    case rel=>exact⟨_,HM6.out,by omega,by omega,fun s' he=>HK.out s' (.go HB3.out HE3.out HB.out HE6.out he)⟩
    case measure=>
     have e1:=atM_of HM6.out
     have e2:=atM_of HMR.out
     have:=isS_le (lv:=lv) HB3.out (by decide)
     rw [e1,e2]
     omega
theorem lst_ok (a0:Nat):LstOK n lv la lc g a0:=by
 obtain⟨m,hm⟩:∃m,n - a0=m:=⟨_,rfl⟩
 induction m using Nat.strongRecOn generalizing a0 with
 |_ m ih=>
  intro w0 P w s hM ⟨ha,hp,hq⟩
  have hn:=pip_le hp
  have hs:LstOK n lv la lc g s.a:=ih (n - s.a) (by omega) s.a rfl
  exact list_any hs w s hM ⟨Nat.le_refl _,hq⟩
end
end Go.Proofs.YtkolpaonccmgiaaGreatDoor.Q

/- What compound, function, command, pipe, andOr and  -/
import Derived.Test.YtkolpaonccmgiaaGreatDoorSy
namespace Go.Proofs.YtkolpaonccmgiaaGreatDoor.Q
set_option linter.unusedSectionVars false
set_option linter.unusedVariables false
open Go.Proofs.Tryz
open Lib(hid)
set_option maxHeartbeats 8000000
set_option maxRecDepth 100000
open Go.RowKit
section
variable{n:Nat}{lv:Nat->Lf}{la:Option Addr}{lc g:Nat}{w0:World}{P:Nat->Prop}
theorem zau{a0:Nat}(HL:ZU n lv la lc g a0):yT (kP n lv la lc g) w0 P 118 #[.pointer (some ⟨g,0,none⟩)] (Jg n lv) (λs=>kZ n lv s=true/\a0<=s.a/\zC s<=20):=by
 intro w s hM ⟨hc,ha,hp⟩;have hn:s.a<n:=by
  refine Xd (lv:=lv) (λe=>?_);unfold kZ at hc;rw[e]at hc;simp at hc
 have hb1:Below w.heap.size w (w.alloc (.cells #[.pointer (some ⟨g,0,none⟩)] 46)):=(Below.refl _ w).alloc (Nat.le_refl _) _;have hbx:=zf.new w #[.pointer (some ⟨g,0,none⟩)] 46;obtain⟨W,hW⟩:∃W,w.alloc (.cells #[.pointer (some ⟨g,0,none⟩)] 46)=W:=⟨_,rfl⟩;rw[hW]at hb1 hbx;have hWs:W.heap.size=w.heap.size+1:=by rw[←hW,World.size_alloc]
 have b0:W.cell? ⟨w.heap.size,0,none⟩=some (.pointer (some ⟨g,0,none⟩)):=hbx.cell 0;have HF:=hid (ziB HL (hM.below hb1) hc);have HX:=hid (And.intro hb1 (And.intro hbx hWs));have HM:=hid hM;have HC:=hid hc;have hmf:=Ji;clear hM hc hb1 hbx hWs HL;go_enter func118,ntmps118
 go_wp2_with fail
 refine HF.out.mono ?_;rintro e w2 ⟨v,rfl,kd,F,first,cap,wb,rfl,hb2,hE,hcp,hcw,how,hD⟩;obtain⟨hb1,hbx,hWs⟩:=HX.out;have hB2:=hbx.below hb2;have b2:w2.cell? ⟨w.heap.size,0,none⟩=some (.pointer (some ⟨g,0,none⟩)):=hB2.cell 0;have h2s:=hb2.size;have hnw:zf (w2.alloc (.cells #[.func (.func F) first cap] 1)) w2.heap.size #[.func (.func F) first cap] 1:=zf.new w2 _ _;obtain⟨w3,hw3⟩:∃w3,w2.alloc (.cells #[.func (.func F) first cap] 1)=w3:=⟨_,rfl⟩;have hf3:zg (λ_=>False) w2 w3:=by
  rw[←hw3];exact(zg.refl _ w2).alloc _
 have dG:zf w3 w2.heap.size #[.func (.func F) first cap] 1:=by rw[←hw3];exact hnw
 have hB3:zf w3 w.heap.size #[.pointer (some ⟨g,0,none⟩)] 46:=hB2.zh hf3 (λh=>h);have hbl:Below w.heap.size w w3:=(hb1.trans (hb2.mono (by omega))).trans (hf3.below (by omega) (λk hk=>hk.elim));obtain⟨P',hM',eG,Ls,hback⟩:=HM.out.base hbl;have hD':=hD w3 P' (λk h1 h2=>⟨Ls k (by omega) (Nat.lt_of_lt_of_le h2 hf3.size),hf3.block k h2 (λh=>h)⟩);have hl:=xG HM.out (by omega);have hd:s.d<=1000:=by
  have h:=HC.out;unfold kZ at h;rw[Bool.and_eq_true]at h;have:=of_decide_eq_true h.2;omega
 have hpb:=qC kd true s;have uw:=hid (zae kd 145 #[] #[.pointer (some ⟨w.heap.size,0,none⟩),.pointer (some ⟨w2.heap.size,0,none⟩)] (Zy _ _ _ func145 (by kernel_rfl) rfl) (.seq .zu (.seq wb (Yf n lv))) _ (ziC w.heap.size w2.heap.size F first cap wb hE hcw how hD' hB3 (Ls _ (Nat.le_refl _) hB3.lt) dG (Ls _ (by omega) dG.lt)) w3 s hM' ⟨⟨ha,hn,by omega⟩,hl,hd⟩);have eH:=hid hback;have HCP:=hid (hcp s);have b3:w3.cell? ⟨w.heap.size,0,none⟩=some (.pointer (some ⟨g,0,none⟩)):=hB3.cell 0;clear hb2 hE hcp hcw how hD hb1 hbx hWs hB2 h2s hnw hf3 dG hB3 hbl hM' eG Ls hback hD' hl hd HF
 go_wp2_with fail
 refine uw.out.mono ?_;rintro e w5 ⟨rfl,s5,zW,yD⟩;have zX:=hid (eH.out _ _ yD);have vX:=hid (HCP.out _ (by trivial) zW);clear yD zW;go_wp2
 go_end0
 exact⟨rfl,_,vX.out,zX.out⟩
theorem ziD{a0:Nat}(HL:ZU n lv la lc g a0):yT (kP n lv la lc g) w0 P 121 #[.pointer (some ⟨g,0,none⟩)] (Nj n lv) (λs=>zJ n lv s.a=120/\zJ n lv (s.a+1)=40/\a0<=s.a/\zC s<=40):=by
 intro w s hM ⟨h1,h2,ha,hp⟩;have hn1:=Xd (lv:=lv) (n:=n) (i:=s.a) (by omega);have hn2:=Xd (lv:=lv) (n:=n) (i:=s.a+1) (by omega);have VK:=hid (zau (w0:=w0) (P:=P) HL);have PN:=hid (λw s (h:Mk (kP n lv la lc g) w0 P s w)=>CY (n:=n) (lv:=lv) (la:=la) (lc:=lc) (g:=g) w0 P w s h);have qg:=hid (dU (n:=n) (lv:=lv) (la:=la) (lc:=lc) (g:=g) (w0:=w0) (P:=P));clear h1 h2 HL;have Q5:=hid (Nl (n:=n) (lv:=lv) (la:=la) (lc:=lc) (g:=g) (w0:=w0) (P:=P));have Zi:=hid (λw s (h:Mk (kP n lv la lc g) w0 P s w)=>Lt h);have uP:=hid (wS (n:=n) (lv:=lv) (la:=la) (lc:=lc) (g:=g) (w0:=w0) (P:=P));have Xf:=hid (gZ (n:=n) (lv:=lv) (la:=la) (lc:=lc) (g:=g) (w0:=w0) (P:=P) ⟨#[41]⟩ 41 (by decide+kernel));have HM:=hid hM;clear hM;go_enter func121,ntmps121
 go_wp2_with fail
 refine(Q5.out _ _ HM.out ⟨hn1,xG HM.out (by omega)⟩).mono ?_;rintro e w1 ⟨rfl,s1,he1,hM1⟩;have hp1:=zl he1 (by rfl) (c:= -29) (of_decide_eq_true (by rfl));have ha1:s1.a=s.a+1:=by cases he1 with|node h=>cases h;rfl
 have zt:=hid hM1;have yU:=hid he1;clear hM1 he1
 go_wp2_with fail
 refine(qg.out _ _ zt.out (by omega)).mono ?_;rintro e w2 ⟨rfl,s2,he2,hM2⟩;have zo:=hid hM2;have HE2:=hid he2;have ha2:=he2.kp.a;have hp2:=zl he2 (by rfl) (c:= -30) (of_decide_eq_true (by rfl));clear hM2 he2
 go_wp2_with fail
 refine(Xf.out _ _ zo.out (xG zo.out (by omega))).mono ?_;rintro e w3 ⟨rfl,s3,he3,zx⟩;have zn:=hid zx;have yN:=hid he3;have ji:=he3.kp.a;have hp3:=zl he3 (by rfl) (c:=1) (of_decide_eq_true (by rfl));clear zx he3;obtain⟨z4,ZW⟩:∃z,isS n lv [110] s3=z:=⟨_,rfl⟩;have JX:=hid (Zi.out _ _ zn.out z4 ZW);clear ZW
 go_wp2_with fail
 refine(JX.out).mono ?_;rintro e w4 ⟨rfl,s4,he4,zH⟩;have zK:=hid zH;have xA:=hid he4;have jM:=he4.kp.a;have qf:=zl he4 (by rfl) (c:=0) (of_decide_eq_true (by rfl));clear zH he4;obtain⟨b,hb⟩:∃b,kZ n lv s4=b:=⟨_,rfl⟩;have hc:=PN.out _ _ zK.out;rw[hb]at hc;have HC:=hid hc;have HB:=hid hb;clear hb hc
 cases b with
 |true=>
  go_wp2_with fail
  refine(HC.out).mono ?_;rintro e w5 ⟨rfl,hb5⟩;have zX:=hid (zK.out.below hb5);clear hb5
  go_wp2_with fail
  refine(VK.out _ _ zX.out ⟨HB.out,by omega,by omega⟩).mono ?_;rintro e w6 ⟨rfl,s6,zD,zG⟩;have zL:=hid zG;have y8:=hid zD;have ha6:=zD.kp.a;clear zG zD;go_wp2
  go_end0
  exact⟨rfl,_,.seq yU.out (.seq HE2.out (.seq yN.out (.seq xA.out (.yes HB.out y8.out)))),zL.out⟩
 |false=>
  go_wp2_with fail
  refine(HC.out).mono ?_;rintro e w5 ⟨rfl,hb5⟩;have zX:=hid (zK.out.below hb5);clear hb5
  go_wp2_with fail
  refine(uP.out _ _ zX.out (xG zX.out (by omega))).mono ?_;rintro e w6 ⟨rfl,s6,zD,zG⟩;have zL:=hid zG;have y8:=hid zD;have ha6:=zD.kp.a;have ku:=zl zD (by rfl) (c:=1) (of_decide_eq_true (by rfl));clear zG zD;go_wp2
  go_end0
  exact⟨rfl,_,.seq yU.out (.seq HE2.out (.seq yN.out (.seq xA.out (.no HB.out y8.out)))),zL.out⟩
theorem ziE{a0:Nat}(HL:ZU n lv la lc g a0):yT (kP n lv la lc g) w0 P 101 #[.pointer (some ⟨g,0,none⟩)] (gX n lv) (λs=>a0<=s.a/\zC s<=15):=by
 intro w s hM ⟨ha,hp⟩;have VK:=hid (zau (w0:=w0) (P:=P) HL);have LG:=hid (zae 16 121 #[.pointer (some ⟨g,0,none⟩)] #[] (Zy _ _ _ func121 (by kernel_rfl) rfl) (Nj n lv) _ (ziD (w0:=w0) (P:=P) HL));have Xg:=hid (VG 5 122 #[.pointer (some ⟨g,0,none⟩)] #[] (Zy _ _ _ func122 (by kernel_rfl) rfl) (Yg n lv) _ (zix (n:=n) (lv:=lv) (la:=la) (lc:=lc) (g:=g) (w0:=w0) (P:=P)));have hmf:=Ji;have hpb:=qC 5 false s;have zon:=qC 16 true s;obtain⟨x,hx⟩:∃x,kZ n lv s=x:=⟨_,rfl⟩;obtain⟨y,hy⟩:∃y,JR n lv s=y:=⟨_,rfl⟩;obtain⟨z,hz⟩:∃z,XL n lv s=z:=⟨_,rfl⟩;have hcx:=λW (h:Mk (kP n lv la lc g) w0 P s W)=>CY (n:=n) (lv:=lv) (la:=la) (lc:=lc) (g:=g) w0 P W s h;have hcy:=λW (h:Mk (kP n lv la lc g) w0 P s W)=>ziy (n:=n) (lv:=lv) (la:=la) (lc:=lc) (g:=g) w0 P W s h;have hcz:=λW (h:Mk (kP n lv la lc g) w0 P s W)=>zai (n:=n) (lv:=lv) (la:=la) (lc:=lc) (g:=g) w0 P W s h;rw[hx]at hcx;rw[hy]at hcy;rw[hz]at hcz;have Vm:=hid hcx;have Ef:=hid hcy;have HCZ:=hid hcz;have HX:=hid hx;have HY:=hid hy;have HZ:=hid hz;clear hcx hcy hcz hx hy hz HL;have uP:=hid (wS (n:=n) (lv:=lv) (la:=la) (lc:=lc) (g:=g) (w0:=w0) (P:=P));have HM:=hid hM;clear hM
 cases x with
 |true=>
  go_enter func101,ntmps101
  go_wp2_with fail
  refine(Vm.out _ HM.out).mono ?_;rintro e w1 ⟨rfl,hb1⟩;have zt:=hid (HM.out.below hb1);clear hb1
  go_wp2_with fail
  refine(VK.out _ _ zt.out ⟨HX.out,ha,by omega⟩).mono ?_;rintro e w2 ⟨rfl,s2,he2,hM2⟩;have zo:=hid hM2;have HE2:=hid he2;have ha2:=he2.kp.a;clear hM2 he2;go_wp2
  go_end0
  exact⟨rfl,_,.yes HX.out HE2.out,zo.out⟩
 |false=>
  cases y with
  |true=>
   have hf:zJ n lv s.a=120/\zJ n lv (s.a+1)=40/\s.d<=1000:=by
    have h:=HY.out;unfold JR at h;simp only[Bool.and_eq_true,beq_iff_eq,decide_eq_true_eq]at h;exact⟨h.1.1.1,h.1.2,by omega⟩
   have HF:=hid hf;clear hf;go_enter func101,ntmps101
   go_wp2_with fail
   refine(Vm.out _ HM.out).mono ?_;rintro e w1 ⟨rfl,hb1⟩;have zt:=hid (HM.out.below hb1);clear hb1
   go_wp2_with fail
   refine(Ef.out _ zt.out).mono ?_;rintro e w2 ⟨rfl,hb2⟩;have zo:=hid (zt.out.below hb2);clear hb2
   go_wp2_with fail
   refine(LG.out _ _ zo.out ⟨⟨HF.out.1,HF.out.2.1,ha,by omega⟩,xG zo.out (by omega),HF.out.2.2⟩).mono ?_;rintro e w3 ⟨rfl,s3,he3,zx⟩;have zn:=hid zx;have yN:=hid he3;have ji:=he3.kp.a;clear zx he3;go_wp2
   go_end0
   exact⟨rfl,_,.no HX.out (.yes HY.out yN.out),zn.out⟩
  |false=>
   cases z with
   |true=>
    go_enter func101,ntmps101
    go_wp2_with fail
    refine(Vm.out _ HM.out).mono ?_;rintro e w1 ⟨rfl,hb1⟩;have zt:=hid (HM.out.below hb1);clear hb1
    go_wp2_with fail
    refine(Ef.out _ zt.out).mono ?_;rintro e w2 ⟨rfl,hb2⟩;have zo:=hid (zt.out.below hb2);clear hb2
    go_wp2_with fail
    refine(HCZ.out _ zo.out).mono ?_;rintro e w3 ⟨rfl,hb3⟩;have zn:=hid (zo.out.below hb3);clear hb3
    go_wp2_with fail
    refine(Xg.out _ _ zn.out ⟨by omega,xG zn.out (by omega)⟩).mono ?_;rintro e w4 ⟨rfl,s4,he4,zH⟩;have zK:=hid zH;have xA:=hid he4;have jM:=he4.kp.a;clear zH he4;go_wp2
    go_end0
    exact⟨rfl,_,.no HX.out (.no HY.out (.yes HZ.out xA.out)),zK.out⟩
   |false=>
    go_enter func101,ntmps101
    go_wp2_with fail
    refine(Vm.out _ HM.out).mono ?_;rintro e w1 ⟨rfl,hb1⟩;have zt:=hid (HM.out.below hb1);clear hb1
    go_wp2_with fail
    refine(Ef.out _ zt.out).mono ?_;rintro e w2 ⟨rfl,hb2⟩;have zo:=hid (zt.out.below hb2);clear hb2
    go_wp2_with fail
    refine(HCZ.out _ zo.out).mono ?_;rintro e w3 ⟨rfl,hb3⟩;have zn:=hid (zo.out.below hb3);clear hb3
    go_wp2_with fail
    refine(uP.out _ _ zn.out (xG zn.out (by omega))).mono ?_;rintro e w4 ⟨rfl,s4,he4,zH⟩;have zK:=hid zH;have xA:=hid he4;have jM:=he4.kp.a;have qf:=zl he4 (by rfl) (c:=1) (of_decide_eq_true (by rfl));clear zH he4;go_wp2
    go_end0
    exact⟨rfl,_,.no HX.out (.no HY.out (.no HZ.out xA.out)),zK.out⟩
end
section
variable{n:Nat}{lv:Nat->Lf}{la:Option Addr}{lc g:Nat}{w0:World}{P:Nat->Prop}
theorem ziF{a0:Nat}(HL:ZU n lv la lc g a0):yT (kP n lv la lc g) w0 P 71 #[.pointer (some ⟨g,0,none⟩)] (Nk n lv) (λs=>a0<=s.a/\zC s<=13):=by
 intro w s hM ⟨ha,hp⟩;have HCM:=hid (ziE (w0:=w0) (P:=P) HL);clear HL;have jk:=hid (λt l (hl:Sg t l) w s (h:Mk (kP n lv la lc g) w0 P s w)=>ZP t l hl h);have Zi:=hid (λw s (h:Mk (kP n lv la lc g) w0 P s w)=>Lt h);have HM:=hid hM;clear hM;obtain⟨b0,hb0⟩:∃b,isS n lv [33] s=b:=⟨_,rfl⟩;have wX:=hid (jk.out ⟨#[33]⟩ [33] (by decide+kernel) _ _ HM.out b0 hb0);have HB0:=hid hb0;clear hb0
 cases b0 with
 |true=>
  go_enter func71,ntmps71
  go_wp2_with fail
  refine wX.out.mono ?_;rintro e w1 ⟨rfl,hM1⟩;have zt:=hid (show Mk (kP n lv la lc g) w0 P (zA s) w1 from hM1);have hp1:=xk s;have ha1:(zA s).a=s.a+1:=rfl;clear hM1
  go_wp2_with fail
  refine(HCM.out _ _ zt.out ⟨by omega,by omega⟩).mono ?_;rintro e w2 ⟨rfl,s2,he2,hM2⟩;have zo:=hid hM2;have HE2:=hid he2;have ha2:=he2.kp.a;have hp2:=zl he2 (by rfl) (c:=1) (of_decide_eq_true (by rfl));clear hM2 he2;go_wp2
  go_loopw [] (λwr=>Rl (kP n lv la lc g) w0 P (.rep (isS n lv [124]) (.seq .zu (.seq (um n lv) (gX n lv))) qA .skip) s2 15 wr) (λwr=>n+1-XM g wr)
  case atStart=>exact⟨s2,zo.out,by omega,Nat.le_refl _,λ_ h=>h⟩
  case round=>
   obtain⟨r,hMr,hpr,har,hk⟩:=hrel;have HK:=hid hk;have zq:=hid hMr;obtain⟨b3,hb3⟩:∃b,isS n lv [124] r=b:=⟨_,rfl⟩;have jH:=hid (jk.out ⟨#[124]⟩ [124] (by decide+kernel) _ _ hMr b3 hb3);have HB3:=hid hb3;clear hb3;clear hMr hk
   cases b3 with
   |true=>
    go_wp2_with fail
    refine jH.out.mono ?_;rintro e w3 ⟨rfl,zx⟩;have zn:=hid (show Mk (kP n lv la lc g) w0 P (zA r) w3 from zx);have hp3:=xk r;have ji:(zA r).a=r.a+1:=rfl;clear zx;obtain⟨z4,ZW⟩:∃z,isS n lv [110] (zA r)=z:=⟨_,rfl⟩;have JX:=hid (Zi.out _ _ zn.out z4 ZW);clear ZW
    go_wp2_with fail
    refine(JX.out).mono ?_;rintro e w4 ⟨rfl,s4,he4,zH⟩;have zK:=hid zH;have xA:=hid he4;have jM:=he4.kp.a;have qf:=zl he4 (by rfl) (c:=0) (of_decide_eq_true (by rfl));clear zH he4
    go_wp2_with fail
    refine(HCM.out _ _ zK.out ⟨by omega,by omega⟩).mono ?_;rintro e w5 ⟨rfl,s5,zW,yD⟩;have zX:=hid yD;have vX:=hid zW;have YJ:=zW.kp.a;have jU:=zl zW (by rfl) (c:=1) (of_decide_eq_true (by rfl));clear yD zW;go_wp2
    go_roundw
    case rel=>exact⟨_,zX.out,by omega,by omega,λs' he=>HK.out s' (.go HB3.out (.seq .zu (.seq xA.out vX.out)) rfl .skip he)⟩
    case measure=>
     have e1:=xJ zX.out;have e2:=xJ zq.out;have:=yV (lv:=lv) HB3.out (by decide);rw[e1,e2];omega
   |false=>
    go_wp2_with fail
    refine jH.out.mono ?_;rintro e w3 ⟨rfl,zx⟩;have zn:=hid (show Mk (kP n lv la lc g) w0 P r w3 from zx);clear zx;have yN:=hid (HK.out _ (.stop HB3.out));go_wp2
    go_end0
    exact⟨rfl,_,.seq (.yes HB0.out .zu) (.seq HE2.out yN.out),zn.out⟩
 |false=>
  go_enter func71,ntmps71
  go_wp2_with fail
  refine wX.out.mono ?_;rintro e w1 ⟨rfl,hM1⟩;have zt:=hid (show Mk (kP n lv la lc g) w0 P s w1 from hM1);clear hM1
  go_wp2_with fail
  refine(HCM.out _ _ zt.out ⟨by omega,by omega⟩).mono ?_;rintro e w2 ⟨rfl,s2,he2,hM2⟩;have zo:=hid hM2;have HE2:=hid he2;have ha2:=he2.kp.a;have hp2:=zl he2 (by rfl) (c:=1) (of_decide_eq_true (by rfl));clear hM2 he2;go_wp2
  go_loopw [] (λwr=>Rl (kP n lv la lc g) w0 P (.rep (isS n lv [124]) (.seq .zu (.seq (um n lv) (gX n lv))) qA .skip) s2 15 wr) (λwr=>n+1-XM g wr)
  case atStart=>exact⟨s2,zo.out,by omega,Nat.le_refl _,λ_ h=>h⟩
  case round=>
   obtain⟨r,hMr,hpr,har,hk⟩:=hrel;have HK:=hid hk;have zq:=hid hMr;obtain⟨b3,hb3⟩:∃b,isS n lv [124] r=b:=⟨_,rfl⟩;have jH:=hid (jk.out ⟨#[124]⟩ [124] (by decide+kernel) _ _ hMr b3 hb3);have HB3:=hid hb3;clear hb3;clear hMr hk
   cases b3 with
   |true=>
    go_wp2_with fail
    refine jH.out.mono ?_;rintro e w3 ⟨rfl,zx⟩;have zn:=hid (show Mk (kP n lv la lc g) w0 P (zA r) w3 from zx);have hp3:=xk r;have ji:(zA r).a=r.a+1:=rfl;clear zx;obtain⟨z4,ZW⟩:∃z,isS n lv [110] (zA r)=z:=⟨_,rfl⟩;have JX:=hid (Zi.out _ _ zn.out z4 ZW);clear ZW
    go_wp2_with fail
    refine(JX.out).mono ?_;rintro e w4 ⟨rfl,s4,he4,zH⟩;have zK:=hid zH;have xA:=hid he4;have jM:=he4.kp.a;have qf:=zl he4 (by rfl) (c:=0) (of_decide_eq_true (by rfl));clear zH he4
    go_wp2_with fail
    refine(HCM.out _ _ zK.out ⟨by omega,by omega⟩).mono ?_;rintro e w5 ⟨rfl,s5,zW,yD⟩;have zX:=hid yD;have vX:=hid zW;have YJ:=zW.kp.a;have jU:=zl zW (by rfl) (c:=1) (of_decide_eq_true (by rfl));clear yD zW;go_wp2
    go_roundw
    case rel=>exact⟨_,zX.out,by omega,by omega,λs' he=>HK.out s' (.go HB3.out (.seq .zu (.seq xA.out vX.out)) rfl .skip he)⟩
    case measure=>
     have e1:=xJ zX.out;have e2:=xJ zq.out;have:=yV (lv:=lv) HB3.out (by decide);rw[e1,e2];omega
   |false=>
    go_wp2_with fail
    refine jH.out.mono ?_;rintro e w3 ⟨rfl,zx⟩;have zn:=hid (show Mk (kP n lv la lc g) w0 P r w3 from zx);clear zx;have yN:=hid (HK.out _ (.stop HB3.out));go_wp2
    go_end0
    exact⟨rfl,_,.seq (.no HB0.out .skip) (.seq HE2.out yN.out),zn.out⟩
theorem ziG{a0:Nat}(HL:ZU n lv la lc g a0):yT (kP n lv la lc g) w0 P 45 #[.pointer (some ⟨g,0,none⟩)] (Pm n lv) (λs=>a0<=s.a/\zC s<=12):=by
 intro w s hM ⟨ha,hp⟩;have SY:=hid (VG 4 71 #[.pointer (some ⟨g,0,none⟩)] #[] (Zy _ _ _ func71 (by kernel_rfl) rfl) (Nk n lv) _ (ziF (w0:=w0) (P:=P) HL));have hmf:=Ji;have hpb:=qC 4 false s;have hab:(zk 4 false s).a=s.a:=rfl;clear HL;have jk:=hid (λt l (hl:Sg t l) w s (h:Mk (kP n lv la lc g) w0 P s w)=>ZP t l hl h);have Zi:=hid (λw s (h:Mk (kP n lv la lc g) w0 P s w)=>Lt h);have uP:=hid (wS (n:=n) (lv:=lv) (la:=la) (lc:=lc) (g:=g) (w0:=w0) (P:=P));have YK:=hid (λw s (h:Mk (kP n lv la lc g) w0 P s w)=>PD (n:=n) (lv:=lv) (la:=la) (lc:=lc) (g:=g) w0 P w s h);have HM:=hid hM;clear hM;go_enter func45,ntmps45
 go_wp2_with fail
 refine(SY.out _ _ HM.out ⟨⟨by omega,by omega⟩,xG HM.out (by omega)⟩).mono ?_;rintro e w1 ⟨rfl,s1,he1,hM1⟩;have zt:=hid hM1;have yU:=hid he1;have ha1:=he1.kp.a;have hp1:=zl he1 (by rfl) (c:=2) (of_decide_eq_true (by rfl));clear hM1 he1;go_wp2
 go_loopw [] (λwr=>Rl (kP n lv la lc g) w0 P (.rep (isS n lv [97,111]) (.seq .zu (.seq (um n lv) (.ite (xI n lv) (dQ n lv) Vj))) qA .skip) s1 14 wr) (λwr=>n+1-XM g wr)
 case atStart=>exact⟨s1,zt.out,by omega,Nat.le_refl _,λ_ h=>h⟩
 case round=>
  obtain⟨r,hMr,hpr,har,hk⟩:=hrel;have HK:=hid hk;have zq:=hid hMr;obtain⟨b3,hb3⟩:∃b,isS n lv [97,111] r=b:=⟨_,rfl⟩;have jH:=hid (jk.out ⟨#[97,111]⟩ [97,111] (by decide+kernel) _ _ hMr b3 hb3);have HB3:=hid hb3;clear hb3;clear hMr hk
  cases b3 with
  |true=>
   go_wp2_with fail
   refine jH.out.mono ?_;rintro e w3 ⟨rfl,zx⟩;have zn:=hid (show Mk (kP n lv la lc g) w0 P (zA r) w3 from zx);have hp3:=xk r;have ji:(zA r).a=r.a+1:=rfl;clear zx;obtain⟨z4,ZW⟩:∃z,isS n lv [110] (zA r)=z:=⟨_,rfl⟩;have JX:=hid (Zi.out _ _ zn.out z4 ZW);clear ZW
   go_wp2_with fail
   refine(JX.out).mono ?_;rintro e w4 ⟨rfl,s4,he4,zH⟩;have zK:=hid zH;have xA:=hid he4;have jM:=he4.kp.a;have qf:=zl he4 (by rfl) (c:=0) (of_decide_eq_true (by rfl));clear zH he4;obtain⟨b,hb⟩:∃b,xI n lv s4=b:=⟨_,rfl⟩;have hc:=YK.out _ _ zK.out;rw[hb]at hc;have HC:=hid hc;have HB:=hid hb;have ziH:=qC 4 false s4;have ziI:(zk 4 false s4).a=s4.a:=rfl;clear hb hc
   cases b with
   |true=>
    go_wp2_with fail
    refine(HC.out).mono ?_;rintro e w5 ⟨rfl,hb5⟩;have zX:=hid (zK.out.below hb5);clear hb5
    go_wp2_with fail
    refine(SY.out _ _ zX.out ⟨⟨by omega,by omega⟩,xG zX.out (by omega)⟩).mono ?_;rintro e w6 ⟨rfl,s6,zD,zG⟩;have zL:=hid zG;have y8:=hid zD;have ha6:=zD.kp.a;have ku:=zl zD (by rfl) (c:=2) (of_decide_eq_true (by rfl));clear zG zD;go_wp2
    go_roundw
    case rel=>exact⟨_,zL.out,by omega,by omega,λs' he=>HK.out s' (.go HB3.out (.seq .zu (.seq xA.out (.yes HB.out y8.out))) rfl .skip he)⟩
    case measure=>
     have e1:=xJ zL.out;have e2:=xJ zq.out;have:=yV (lv:=lv) HB3.out (by decide);rw[e1,e2];omega
   |false=>
    go_wp2_with fail
    refine(HC.out).mono ?_;rintro e w5 ⟨rfl,hb5⟩;have zX:=hid (zK.out.below hb5);clear hb5
    go_wp2_with fail
    refine(uP.out _ _ zX.out (xG zX.out (by omega))).mono ?_;rintro e w6 ⟨rfl,s6,zD,zG⟩;have zL:=hid zG;have y8:=hid zD;have ha6:=zD.kp.a;have ku:=zl zD (by rfl) (c:=1) (of_decide_eq_true (by rfl));clear zG zD;go_wp2
    go_roundw
    case rel=>exact⟨_,zL.out,by omega,by omega,λs' he=>HK.out s' (.go HB3.out (.seq .zu (.seq xA.out (.no HB.out y8.out))) rfl .skip he)⟩
    case measure=>
     have e1:=xJ zL.out;have e2:=xJ zq.out;have:=yV (lv:=lv) HB3.out (by decide);rw[e1,e2];omega
  |false=>
   go_wp2_with fail
   refine jH.out.mono ?_;rintro e w3 ⟨rfl,zx⟩;have zn:=hid (show Mk (kP n lv la lc g) w0 P r w3 from zx);clear zx;have yN:=hid (HK.out _ (.stop HB3.out));go_wp2
   go_end0
   exact⟨rfl,_,.seq yU.out yN.out,zn.out⟩
theorem zav{a0:Nat}(HL:ZU n lv la lc g a0):yT (kP n lv la lc g) w0 P 79 #[.pointer (some ⟨g,0,none⟩)] (wR n lv) (λs=>a0<=s.a/\zC s<=11):=by
 intro w s hM ⟨ha,hp⟩;have Dc:=hid (VG 3 45 #[.pointer (some ⟨g,0,none⟩)] #[] (Zy _ _ _ func45 (by kernel_rfl) rfl) (Pm n lv) _ (ziG (w0:=w0) (P:=P) HL));have hmf:=Ji;have hpb:=qC 3 false s;have hab:(zk 3 false s).a=s.a:=rfl;clear HL;have eX:=hid (λw s (h:Mk (kP n lv la lc g) w0 P s w)=>zah ⟨#[59,38]⟩ [59,38] [59,38,110] (by decide+kernel) (λc=>by simp only[List.contains_cons,List.contains_nil,Bool.or_false,Bool.or_assoc]) h);have YK:=hid (λw s (h:Mk (kP n lv la lc g) w0 P s w)=>PD (n:=n) (lv:=lv) (la:=la) (lc:=lc) (g:=g) w0 P w s h);have HM:=hid hM;clear hM;go_enter func79,ntmps79
 go_step3
 go_wp2_with fail
 refine(Dc.out _ _ HM.out ⟨⟨by omega,by omega⟩,xG HM.out (by omega)⟩).mono ?_;rintro e w1 ⟨rfl,s1,he1,hM1⟩;have zt:=hid hM1;have yU:=hid he1;have ha1:=he1.kp.a;have hp1:=zl he1 (by rfl) (c:=3) (of_decide_eq_true (by rfl));clear hM1 he1;go_wp2;try go_step3
 try go_wp2
 go_loopw [] (λwr=>Rl (kP n lv la lc g) w0 P (.rep (isS n lv [59,38,110]) (.seq .zu (um n lv)) (xI n lv) (dR n lv)) s1 14 wr) (λwr=>n+1-XM g wr)
 case atStart=>exact⟨s1,zt.out,by omega,Nat.le_refl _,λ_ h=>h⟩
 case round=>
  obtain⟨r,hMr,hpr,har,hk⟩:=hrel;have HK:=hid hk;have zq:=hid hMr;obtain⟨b3,hb3⟩:∃b,isS n lv [59,38,110] r=b:=⟨_,rfl⟩;have HS:=hid (eX.out _ _ hMr b3 hb3);have HB3:=hid hb3;clear hMr hk hb3
  cases b3 with
  |false=>
   go_wp2_with fail
   refine HS.out.mono ?_;rintro e w3 ⟨rfl,s3,he3,zx⟩
   cases he3 with
   |yes h _=>rw[HB3.out]at h;cases h
   |no _ h=>
   cases h;have zn:=hid zx;have yN:=hid (HK.out _ (.stop HB3.out));clear zx;go_wp2;rw[Exit.noGoto_normal]
   go_end0
   exact⟨rfl,_,.seq yU.out yN.out,zn.out⟩
  |true=>
   go_wp2_with fail
   refine HS.out.mono ?_;rintro e w3 ⟨rfl,s3,he3,zx⟩
   cases he3 with
   |no h _=>rw[HB3.out]at h;cases h
   |yes _ h=>
   have hp3:=zl h (by rfl) (c:= -30) (of_decide_eq_true (by rfl));have ji:r.a+1<=s3.a:=by
    cases h with|seq h1 h2=>
    cases h1;exact h2.kp.a
   have zn:=hid zx;have yN:=hid h;clear zx h;obtain⟨b,hb⟩:∃b,xI n lv s3=b:=⟨_,rfl⟩;have hc:=YK.out _ _ zn.out;rw[hb]at hc;have HC:=hid hc;have HB:=hid hb;have ziH:=qC 3 false s3;have ziI:(zk 3 false s3).a=s3.a:=rfl;clear hb hc
   cases b with
   |false=>
    go_wp2_with fail
    refine(HC.out).mono ?_;rintro e w5 ⟨rfl,hb5⟩;have zX:=hid (zn.out.below hb5);clear hb5;have vX:=hid (HK.out _ (.out HB3.out yN.out HB.out));go_wp2;rw[Exit.noGoto_normal]
    go_end0
    exact⟨rfl,_,.seq yU.out vX.out,zX.out⟩
   |true=>
    go_wp2_with fail
    refine(HC.out).mono ?_;rintro e w5 ⟨rfl,hb5⟩;have zX:=hid (zn.out.below hb5);clear hb5
    go_wp2_with fail
    refine(Dc.out _ _ zX.out ⟨⟨by omega,by omega⟩,xG zX.out (by omega)⟩).mono ?_;rintro e w6 ⟨rfl,s6,zD,zG⟩;have zL:=hid zG;have y8:=hid zD;have ha6:=zD.kp.a;have ku:=zl zD (by rfl) (c:=3) (of_decide_eq_true (by rfl));clear zG zD;go_wp2
    go_roundw
    case rel=>exact⟨_,zL.out,by omega,by omega,λs' he=>HK.out s' (.go HB3.out yN.out HB.out y8.out he)⟩
    case measure=>
     have e1:=xJ zL.out;have e2:=xJ zq.out;have:=yV (lv:=lv) HB3.out (by decide);rw[e1,e2];omega
theorem ziJ(a0:Nat):ZU n lv la lc g a0:=by
 obtain⟨m,hm⟩:∃m,n-a0=m:=⟨_,rfl⟩
 induction m using Nat.strongRecOn generalizing a0 with
 |_ m ih=>
  intro w0 P w s hM ⟨ha,hp,hq⟩;have hn:=Pn hp;have hs:ZU n lv la lc g s.a:=ih (n-s.a) (by omega) s.a rfl;exact zav hs w s hM ⟨Nat.le_refl _,hq⟩
end
end Go.Proofs.YtkolpaonccmgiaaGreatDoor.Q

/- What the document's own compound of layer 13 (pars -/
import Derived.Test.YtkolpaonccmgiaaGreatDoorPbM
import Derived.Test.YtkolpaonccmgiaaGreatDoorSy
namespace Go.Proofs.YtkolpaonccmgiaaGreatDoor.Q
set_option linter.unusedSectionVars false
set_option linter.unusedVariables false
open Go.Proofs.Tryz
open _root_.Nat renaming le_refl->waa
open Lib(hid)
set_option maxHeartbeats 8000000
set_option maxRecDepth 100000
open Go.RowKit
section
variable{n:Nat}{lv:Nat->Lf}{la:Option Addr}{lc g:Nat}{S:ByteArray}{w0:World}{P:Nat->Prop}
def xO(j k:Nat):Int:=if j<k then 9+(j:Int)else 9
def Dv(j:Nat)(W:World)(v3 v4:Value)(wr:World):Prop:=∃k:Nat,k<=6/\v4=.int .i64 (k:Int)/\v3=.int .i64 (xO j k)/\wr=W
theorem zjG(hS:Hid (qi n lv S)){a0:Nat}(HL:YL n lv la lc S g a0):yT (kN n lv la lc S g) w0 P 123 #[.pointer (some ⟨g,0,none⟩)] (Jg n lv) (λs=>zJ n lv s.a=123/\s.d<200/\a0<=s.a/\zC s<=20):=by
 intro w s hM ⟨hx,hd,ha,hp⟩;have hlt:=Xd (lv:=lv) (n:=n) (i:=s.a) (by omega);obtain⟨nv,hB,_⟩:=hM.own;have hz:=hS.out.1;have hbt:=hS.out.2 s.a hlt;rw[hx]at hbt;obtain⟨a,jC⟩:∃a,s.a=a:=⟨_,rfl⟩;have c1:w.cell? ⟨g,1,none⟩=some (.string S):=hB.cell 1;have c3:w.cell? ⟨g,3,none⟩=some (.int .i64 (s.a:Int)):=hB.cell 3;rw[jC]at c3 hbt;have hlt2:a<n:=by omega
 have q1':a<S.size:=by omega
 have q1:(a:Int)<(S.size:Int):=by omega
 have q0:(0:Int)<=(a:Int):=by omega
 have hbb:S[a].toNat=123:=by rw[←zT q1',hbt]
 have HX:=hid hx;have HD:=hid hd;have qF:=hid (LW (n:=n) (lv:=lv) (la:=la) (lc:=lc) (S:=S) (g:=g) (w0:=w0) (P:=P) hS);have Yi:=hid (λw s (h:Mk (kN n lv la lc S g) w0 P s w)=>We hS.out w0 P w s h);have jk:=hid (fun(t:ByteArray) (l:List Nat) (hl:XP t l) w s (h:Mk (kN n lv la lc S g) w0 P s w) b (hb:isS n lv l s=b)=>vH hS.out t l hl h b hb);have ja:=hid (LX (w0:=w0) (P:=P) hS HL);have uA:=hid (LY (w0:=w0) (P:=P) hS HL);have Dw:=hid (Dp (w0:=w0) (P:=P) hS HL);have XW:=hid (Du (w0:=w0) (P:=P) hS HL);have Dx:=hid (jo (n:=n) (lv:=lv) (la:=la) (lc:=lc) (S:=S) (g:=g) (w0:=w0) (P:=P) hS ⟨#[125]⟩ 125 (by decide+kernel));have Xf:=hid (jo (n:=n) (lv:=lv) (la:=la) (lc:=lc) (S:=S) (g:=g) (w0:=w0) (P:=P) hS ⟨#[41]⟩ 41 (by decide+kernel));have Gg:=hid (jo (n:=n) (lv:=lv) (la:=la) (lc:=lc) (S:=S) (g:=g) (w0:=w0) (P:=P) hS ⟨#[116]⟩ 116 (by decide+kernel));have Q7:=hid (jo (n:=n) (lv:=lv) (la:=la) (lc:=lc) (S:=S) (g:=g) (w0:=w0) (P:=P) hS ⟨#[102]⟩ 102 (by decide+kernel));have HM:=hid hM;clear hM hB hbt hz hx jC hd;go_enter func123,ntmps123;go_wp2
 go_quiet (fail)
 have kG:=hid (zB HM.out nq);obtain⟨wq,hwq⟩:∃W,w.drewN nq=W:=⟨_,rfl⟩;rw[hwq]at kG ⊢;clear hwq c1 c3 hbb;go_wp2
 go_loopw [3,4] (λv3 v4 wr=>Dv 0 wq v3 v4 wr) (λ_ v4 _=>7-(intOf v4).toNat)
 case atStart=>exact⟨0,by omega,rfl,rfl,rfl⟩
 case round=>
  obtain⟨k,hk,rfl,rfl,rfl⟩:=hrel;have Ql:k=0\/k=1\/k=2\/k=3\/k=4\/k=5\/k=6:=by omega
  rcases Ql with rfl|rfl|rfl|rfl|rfl|rfl|rfl
  ·rw[show xO 0 0=9 from rfl]
   go_wp2
   go_roundw
   case rel=>exact⟨1,by omega,rfl,rfl,rfl⟩
   case measure=>simp[intOf]
  ·rw[show xO 0 1=9 from rfl]
   go_wp2
   go_roundw
   case rel=>exact⟨2,by omega,rfl,rfl,rfl⟩
   case measure=>simp[intOf]
  ·rw[show xO 0 2=9 from rfl]
   go_wp2
   go_roundw
   case rel=>exact⟨3,by omega,rfl,rfl,rfl⟩
   case measure=>simp[intOf]
  ·rw[show xO 0 3=9 from rfl]
   go_wp2
   go_roundw
   case rel=>exact⟨4,by omega,rfl,rfl,rfl⟩
   case measure=>simp[intOf]
  ·rw[show xO 0 4=9 from rfl]
   go_wp2
   go_roundw
   case rel=>exact⟨5,by omega,rfl,rfl,rfl⟩
   case measure=>simp[intOf]
  ·rw[show xO 0 5=9 from rfl]
   go_wp2
   go_roundw
   case rel=>exact⟨6,by omega,rfl,rfl,rfl⟩
   case measure=>simp[intOf]
  ·rw[show xO 0 6=9 from rfl]
   go_wp2_with fail
   refine(Xh 9 kG.out (xH kG.out (by omega)) (λ_=>by have:=HD.out;omega)).mono ?_;rintro e w3 ⟨rfl,zx⟩;have zn:Hid (Mk (kN n lv la lc S g) w0 P (zk 9 true s) w3):=hid zx;have hp3:=qC 9 true s;have ji:(zk 9 true s).a=s.a:=rfl;clear zx;obtain⟨Wj,Gs,Wl,Wn,hw4,zH⟩:=uM zn.out (hlt);have zK:=hid zH;clear zH;have qf:=xk (zk 9 true s);have jM:(zA (zk 9 true s)).a=(zk 9 true s).a+1:=rfl
   go_wp2_with fail
   refine(ja.out _ _ zK.out ⟨by omega,by omega⟩).mono ?_;rintro e w5 ⟨rfl,s5,zW,yD⟩;have zX:=hid yD;have vX:=hid zW;have YJ:=zW.kp.a;have jU:=zl zW (by rfl) (c:=4) (of_decide_eq_true (by rfl));clear yD zW
   go_wp2_with fail
   refine(Dx.out _ _ zX.out (xH zX.out (by omega))).mono ?_;rintro e w6 ⟨rfl,s6,zD,zG⟩;have zL:=hid zG;have y8:=hid zD;have ha6:=zD.kp.a;have ku:=zl zD (by rfl) (c:=1) (of_decide_eq_true (by rfl));clear zG zD;go_wp2
   go_loopw [] (λwr=>Rl (kN n lv la lc S g) w0 P (Yf n lv) s6 20 wr) (λwr=>n+1-Zb g wr)
   case atStart=>exact⟨s6,zL.out,by omega,waa _,λ_ h=>h⟩
   case round=>
    obtain⟨r,hMr,hpr,har,hk⟩:=hrel;obtain⟨b,hb⟩:∃b,vG n lv r=b:=⟨_,rfl⟩;have hc:=Yi.out _ _ hMr;rw[hb]at hc;have HC:=hid hc;have zq:=hid hMr;have HB:=hid hb;have HK:=hid hk;clear hMr hb hk hc
    cases b with
    |false=>
     go_wp2_with fail
     refine(HC.out).mono ?_;rintro e jX ⟨rfl,x9⟩;have jY:Hid (Mk (kN n lv la lc S g) w0 P r jX):=hid (by obtain⟨m,rfl⟩:=x9;exact zB zq.out m);clear x9;have VQ:=hid (HK.out _ (.stop HB.out));have ZC:Hid (Ev n lv (.seq .zu (.seq (Lh n lv 125) (Yf n lv))) (zk 9 true s) r):=hid (.seq .zu (.seq (.seq vX.out y8.out) VQ.out))
     go_wp2_with fail
     refine(jO (k:=9) (s:=s) ZC.out jY.out (λ_=>by have:=HD.out;omega)).mono ?_;rintro e VR ⟨rfl,ve⟩;have vg:=hid ve;clear ve;go_wp2
     go_end0
     exact⟨rfl,_,.yes (by rw[xu HX.out];rfl) (.node ZC.out),vg.out⟩
    |true=>
     go_wp2_with fail
     refine(HC.out).mono ?_;rintro e jX ⟨rfl,x9⟩;have jY:Hid (Mk (kN n lv la lc S g) w0 P r jX):=hid (by obtain⟨m,rfl⟩:=x9;exact zB zq.out m);clear x9
     go_wp2_with fail
     refine(qF.out _ _ jY.out ⟨HB.out,by omega⟩).mono ?_;rintro e VR ⟨rfl,VS,uC,ve⟩;have vg:=hid ve;have ZE:=hid uC;have Dy:=uC.kp.a;have Dz:=zl uC (by rfl) (c:= -28) (of_decide_eq_true (by rfl));clear ve uC;go_wp2
     go_roundw
     case rel=>exact⟨_,vg.out,by omega,by omega,λs' he=>HK.out s' (.go HB.out ZE.out rfl .skip he)⟩
     case measure=>
      have e1:=zZ vg.out;have e2:=zZ zq.out;have:=ZE.out.Vk;have hmm:=vg.out.yM;change VS.a<=n at hmm;rw[e1,e2];omega
theorem zjH(hS:Hid (qi n lv S)){a0:Nat}(HL:YL n lv la lc S g a0):yT (kN n lv la lc S g) w0 P 123 #[.pointer (some ⟨g,0,none⟩)] (Jg n lv) (λs=>zJ n lv s.a=40/\s.d<200/\a0<=s.a/\zC s<=20):=by
 intro w s hM ⟨hx,hd,ha,hp⟩;have hlt:=Xd (lv:=lv) (n:=n) (i:=s.a) (by omega);obtain⟨nv,hB,_⟩:=hM.own;have hz:=hS.out.1;have hbt:=hS.out.2 s.a hlt;rw[hx]at hbt;obtain⟨a,jC⟩:∃a,s.a=a:=⟨_,rfl⟩;have c1:w.cell? ⟨g,1,none⟩=some (.string S):=hB.cell 1;have c3:w.cell? ⟨g,3,none⟩=some (.int .i64 (s.a:Int)):=hB.cell 3;rw[jC]at c3 hbt;have hlt2:a<n:=by omega
 have q1':a<S.size:=by omega
 have q1:(a:Int)<(S.size:Int):=by omega
 have q0:(0:Int)<=(a:Int):=by omega
 have hbb:S[a].toNat=40:=by rw[←zT q1',hbt]
 have HX:=hid hx;have HD:=hid hd;have qF:=hid (LW (n:=n) (lv:=lv) (la:=la) (lc:=lc) (S:=S) (g:=g) (w0:=w0) (P:=P) hS);have Yi:=hid (λw s (h:Mk (kN n lv la lc S g) w0 P s w)=>We hS.out w0 P w s h);have jk:=hid (fun(t:ByteArray) (l:List Nat) (hl:XP t l) w s (h:Mk (kN n lv la lc S g) w0 P s w) b (hb:isS n lv l s=b)=>vH hS.out t l hl h b hb);have ja:=hid (LX (w0:=w0) (P:=P) hS HL);have uA:=hid (LY (w0:=w0) (P:=P) hS HL);have Dw:=hid (Dp (w0:=w0) (P:=P) hS HL);have XW:=hid (Du (w0:=w0) (P:=P) hS HL);have Dx:=hid (jo (n:=n) (lv:=lv) (la:=la) (lc:=lc) (S:=S) (g:=g) (w0:=w0) (P:=P) hS ⟨#[125]⟩ 125 (by decide+kernel));have Xf:=hid (jo (n:=n) (lv:=lv) (la:=la) (lc:=lc) (S:=S) (g:=g) (w0:=w0) (P:=P) hS ⟨#[41]⟩ 41 (by decide+kernel));have Gg:=hid (jo (n:=n) (lv:=lv) (la:=la) (lc:=lc) (S:=S) (g:=g) (w0:=w0) (P:=P) hS ⟨#[116]⟩ 116 (by decide+kernel));have Q7:=hid (jo (n:=n) (lv:=lv) (la:=la) (lc:=lc) (S:=S) (g:=g) (w0:=w0) (P:=P) hS ⟨#[102]⟩ 102 (by decide+kernel));have HM:=hid hM;clear hM hB hbt hz hx jC hd;go_enter func123,ntmps123;go_wp2
 go_quiet (fail)
 have kG:=hid (zB HM.out nq);obtain⟨wq,hwq⟩:∃W,w.drewN nq=W:=⟨_,rfl⟩;rw[hwq]at kG ⊢;clear hwq c1 c3 hbb;go_wp2
 go_loopw [3,4] (λv3 v4 wr=>Dv 1 wq v3 v4 wr) (λ_ v4 _=>7-(intOf v4).toNat)
 case atStart=>exact⟨0,by omega,rfl,rfl,rfl⟩
 case round=>
  obtain⟨k,hk,rfl,rfl,rfl⟩:=hrel;have Ql:k=0\/k=1\/k=2\/k=3\/k=4\/k=5\/k=6:=by omega
  rcases Ql with rfl|rfl|rfl|rfl|rfl|rfl|rfl
  ·rw[show xO 1 0=9 from rfl]
   go_wp2
   go_roundw
   case rel=>exact⟨1,by omega,rfl,rfl,rfl⟩
   case measure=>simp[intOf]
  ·rw[show xO 1 1=9 from rfl]
   go_wp2
   go_roundw
   case rel=>exact⟨2,by omega,rfl,rfl,rfl⟩
   case measure=>simp[intOf]
  ·rw[show xO 1 2=10 from rfl]
   go_wp2
   go_roundw
   case rel=>exact⟨3,by omega,rfl,rfl,rfl⟩
   case measure=>simp[intOf]
  ·rw[show xO 1 3=10 from rfl]
   go_wp2
   go_roundw
   case rel=>exact⟨4,by omega,rfl,rfl,rfl⟩
   case measure=>simp[intOf]
  ·rw[show xO 1 4=10 from rfl]
   go_wp2
   go_roundw
   case rel=>exact⟨5,by omega,rfl,rfl,rfl⟩
   case measure=>simp[intOf]
  ·rw[show xO 1 5=10 from rfl]
   go_wp2
   go_roundw
   case rel=>exact⟨6,by omega,rfl,rfl,rfl⟩
   case measure=>simp[intOf]
  ·rw[show xO 1 6=10 from rfl]
   go_wp2_with fail
   refine(Xh 10 kG.out (xH kG.out (by omega)) (λ_=>by have:=HD.out;omega)).mono ?_;rintro e w3 ⟨rfl,zx⟩;have zn:Hid (Mk (kN n lv la lc S g) w0 P (zk 10 true s) w3):=hid zx;have hp3:=qC 10 true s;have ji:(zk 10 true s).a=s.a:=rfl;clear zx;obtain⟨Wj,Gs,Wl,Wn,hw4,zH⟩:=uM zn.out (hlt);have zK:=hid zH;clear zH;have qf:=xk (zk 10 true s);have jM:(zA (zk 10 true s)).a=(zk 10 true s).a+1:=rfl
   go_wp2_with fail
   refine(ja.out _ _ zK.out ⟨by omega,by omega⟩).mono ?_;rintro e w5 ⟨rfl,s5,zW,yD⟩;have zX:=hid yD;have vX:=hid zW;have YJ:=zW.kp.a;have jU:=zl zW (by rfl) (c:=4) (of_decide_eq_true (by rfl));clear yD zW
   go_wp2_with fail
   refine(Xf.out _ _ zX.out (xH zX.out (by omega))).mono ?_;rintro e w6 ⟨rfl,s6,zD,zG⟩;have zL:=hid zG;have y8:=hid zD;have ha6:=zD.kp.a;have ku:=zl zD (by rfl) (c:=1) (of_decide_eq_true (by rfl));clear zG zD;go_wp2
   go_loopw [] (λwr=>Rl (kN n lv la lc S g) w0 P (Yf n lv) s6 20 wr) (λwr=>n+1-Zb g wr)
   case atStart=>exact⟨s6,zL.out,by omega,waa _,λ_ h=>h⟩
   case round=>
    obtain⟨r,hMr,hpr,har,hk⟩:=hrel;obtain⟨b,hb⟩:∃b,vG n lv r=b:=⟨_,rfl⟩;have hc:=Yi.out _ _ hMr;rw[hb]at hc;have HC:=hid hc;have zq:=hid hMr;have HB:=hid hb;have HK:=hid hk;clear hMr hb hk hc
    cases b with
    |false=>
     go_wp2_with fail
     refine(HC.out).mono ?_;rintro e jX ⟨rfl,x9⟩;have jY:Hid (Mk (kN n lv la lc S g) w0 P r jX):=hid (by obtain⟨m,rfl⟩:=x9;exact zB zq.out m);clear x9;have VQ:=hid (HK.out _ (.stop HB.out));have ZC:Hid (Ev n lv (.seq .zu (.seq (Lh n lv 41) (Yf n lv))) (zk 10 true s) r):=hid (.seq .zu (.seq (.seq vX.out y8.out) VQ.out))
     go_wp2_with fail
     refine(jO (k:=10) (s:=s) ZC.out jY.out (λ_=>by have:=HD.out;omega)).mono ?_;rintro e VR ⟨rfl,ve⟩;have vg:=hid ve;clear ve;go_wp2
     go_end0
     exact⟨rfl,_,.no (by rw[xu HX.out];rfl) (.yes (by rw[xu HX.out];rfl) (.node ZC.out)),vg.out⟩
    |true=>
     go_wp2_with fail
     refine(HC.out).mono ?_;rintro e jX ⟨rfl,x9⟩;have jY:Hid (Mk (kN n lv la lc S g) w0 P r jX):=hid (by obtain⟨m,rfl⟩:=x9;exact zB zq.out m);clear x9
     go_wp2_with fail
     refine(qF.out _ _ jY.out ⟨HB.out,by omega⟩).mono ?_;rintro e VR ⟨rfl,VS,uC,ve⟩;have vg:=hid ve;have ZE:=hid uC;have Dy:=uC.kp.a;have Dz:=zl uC (by rfl) (c:= -28) (of_decide_eq_true (by rfl));clear ve uC;go_wp2
     go_roundw
     case rel=>exact⟨_,vg.out,by omega,by omega,λs' he=>HK.out s' (.go HB.out ZE.out rfl .skip he)⟩
     case measure=>
      have e1:=zZ vg.out;have e2:=zZ zq.out;have:=ZE.out.Vk;have hmm:=vg.out.yM;change VS.a<=n at hmm;rw[e1,e2];omega
theorem zjI(hS:Hid (qi n lv S)){a0:Nat}(HL:YL n lv la lc S g a0):yT (kN n lv la lc S g) w0 P 123 #[.pointer (some ⟨g,0,none⟩)] (Jg n lv) (λs=>zJ n lv s.a=105/\s.d<200/\a0<=s.a/\zC s<=20):=by
 intro w s hM ⟨hx,hd,ha,hp⟩;have hlt:=Xd (lv:=lv) (n:=n) (i:=s.a) (by omega);obtain⟨nv,hB,_⟩:=hM.own;have hz:=hS.out.1;have hbt:=hS.out.2 s.a hlt;rw[hx]at hbt;obtain⟨a,jC⟩:∃a,s.a=a:=⟨_,rfl⟩;have c1:w.cell? ⟨g,1,none⟩=some (.string S):=hB.cell 1;have c3:w.cell? ⟨g,3,none⟩=some (.int .i64 (s.a:Int)):=hB.cell 3;rw[jC]at c3 hbt;have hlt2:a<n:=by omega
 have q1':a<S.size:=by omega
 have q1:(a:Int)<(S.size:Int):=by omega
 have q0:(0:Int)<=(a:Int):=by omega
 have hbb:S[a].toNat=105:=by rw[←zT q1',hbt]
 have HX:=hid hx;have HD:=hid hd;have qF:=hid (LW (n:=n) (lv:=lv) (la:=la) (lc:=lc) (S:=S) (g:=g) (w0:=w0) (P:=P) hS);have Yi:=hid (λw s (h:Mk (kN n lv la lc S g) w0 P s w)=>We hS.out w0 P w s h);have jk:=hid (fun(t:ByteArray) (l:List Nat) (hl:XP t l) w s (h:Mk (kN n lv la lc S g) w0 P s w) b (hb:isS n lv l s=b)=>vH hS.out t l hl h b hb);have ja:=hid (LX (w0:=w0) (P:=P) hS HL);have uA:=hid (LY (w0:=w0) (P:=P) hS HL);have Dw:=hid (Dp (w0:=w0) (P:=P) hS HL);have XW:=hid (Du (w0:=w0) (P:=P) hS HL);have Dx:=hid (jo (n:=n) (lv:=lv) (la:=la) (lc:=lc) (S:=S) (g:=g) (w0:=w0) (P:=P) hS ⟨#[125]⟩ 125 (by decide+kernel));have Xf:=hid (jo (n:=n) (lv:=lv) (la:=la) (lc:=lc) (S:=S) (g:=g) (w0:=w0) (P:=P) hS ⟨#[41]⟩ 41 (by decide+kernel));have Gg:=hid (jo (n:=n) (lv:=lv) (la:=la) (lc:=lc) (S:=S) (g:=g) (w0:=w0) (P:=P) hS ⟨#[116]⟩ 116 (by decide+kernel));have Q7:=hid (jo (n:=n) (lv:=lv) (la:=la) (lc:=lc) (S:=S) (g:=g) (w0:=w0) (P:=P) hS ⟨#[102]⟩ 102 (by decide+kernel));have HM:=hid hM;clear hM hB hbt hz hx jC hd;go_enter func123,ntmps123;go_wp2
 go_quiet (fail)
 have kG:=hid (zB HM.out nq);obtain⟨wq,hwq⟩:∃W,w.drewN nq=W:=⟨_,rfl⟩;rw[hwq]at kG ⊢;clear hwq c1 c3 hbb;go_wp2
 go_loopw [3,4] (λv3 v4 wr=>Dv 2 wq v3 v4 wr) (λ_ v4 _=>7-(intOf v4).toNat)
 case atStart=>exact⟨0,by omega,rfl,rfl,rfl⟩
 case round=>
  obtain⟨k,hk,rfl,rfl,rfl⟩:=hrel;have Ql:k=0\/k=1\/k=2\/k=3\/k=4\/k=5\/k=6:=by omega
  rcases Ql with rfl|rfl|rfl|rfl|rfl|rfl|rfl
  ·rw[show xO 2 0=9 from rfl]
   go_wp2
   go_roundw
   case rel=>exact⟨1,by omega,rfl,rfl,rfl⟩
   case measure=>simp[intOf]
  ·rw[show xO 2 1=9 from rfl]
   go_wp2
   go_roundw
   case rel=>exact⟨2,by omega,rfl,rfl,rfl⟩
   case measure=>simp[intOf]
  ·rw[show xO 2 2=9 from rfl]
   go_wp2
   go_roundw
   case rel=>exact⟨3,by omega,rfl,rfl,rfl⟩
   case measure=>simp[intOf]
  ·rw[show xO 2 3=11 from rfl]
   go_wp2
   go_roundw
   case rel=>exact⟨4,by omega,rfl,rfl,rfl⟩
   case measure=>simp[intOf]
  ·rw[show xO 2 4=11 from rfl]
   go_wp2
   go_roundw
   case rel=>exact⟨5,by omega,rfl,rfl,rfl⟩
   case measure=>simp[intOf]
  ·rw[show xO 2 5=11 from rfl]
   go_wp2
   go_roundw
   case rel=>exact⟨6,by omega,rfl,rfl,rfl⟩
   case measure=>simp[intOf]
  ·rw[show xO 2 6=11 from rfl]
   go_wp2_with fail
   refine(Xh 11 kG.out (xH kG.out (by omega)) (λ_=>by have:=HD.out;omega)).mono ?_;rintro e w3 ⟨rfl,zx⟩;have zn:Hid (Mk (kN n lv la lc S g) w0 P (zk 11 true s) w3):=hid zx;have hp3:=qC 11 true s;have ji:(zk 11 true s).a=s.a:=rfl;clear zx;obtain⟨Wj,Gs,Wl,Wn,hw4,zH⟩:=uM zn.out (hlt);have zK:=hid zH;clear zH;have qf:=xk (zk 11 true s);have jM:(zA (zk 11 true s)).a=(zk 11 true s).a+1:=rfl
   go_wp2_with fail
   refine(ja.out _ _ zK.out ⟨by omega,by omega⟩).mono ?_;rintro e w5 ⟨rfl,s5,zW,yD⟩;have zX:=hid yD;have vX:=hid zW;have YJ:=zW.kp.a;have jU:=zl zW (by rfl) (c:=4) (of_decide_eq_true (by rfl));clear yD zW
   go_wp2_with fail
   refine(Gg.out _ _ zX.out (xH zX.out (by omega))).mono ?_;rintro e w6 ⟨rfl,s6,zD,zG⟩;have zL:=hid zG;have y8:=hid zD;have ha6:=zD.kp.a;have ku:=zl zD (by rfl) (c:=1) (of_decide_eq_true (by rfl));clear zG zD
   go_wp2_with fail
   refine(ja.out _ _ zL.out ⟨by omega,by omega⟩).mono ?_;rintro e w7 ⟨rfl,s7,xK,yX⟩;have yJ:=hid yX;have jl:=hid xK;have VI:=xK.kp.a;have VJ:=zl xK (by rfl) (c:=4) (of_decide_eq_true (by rfl));clear yX xK;have zoC:zC s7<=0:=by omega
   go_wp2
   go_loopw [] (λwr=>Rl (kN n lv la lc S g) w0 P (.rep (isS n lv [101]) (.seq .zu (Na n lv)) qA .skip) s7 9 wr) (λwr=>n+1-Zb g wr)
   case atStart=>exact⟨s7,yJ.out,by omega,waa _,λ_ h=>h⟩
   case round=>
    obtain⟨q,WC,hpq,haq,hkq⟩:=hrel;have Ky:=hid hkq;have zq:=hid WC;clear hkq WC;obtain⟨b8,hb8⟩:∃b,isS n lv [101] q=b:=⟨_,rfl⟩;have Wp:=hid (vH hS.out ⟨#[101]⟩ [101] (by decide+kernel) zq.out b8 hb8);have Yl:=hid hb8;clear hb8
    cases b8 with
    |true=>
     go_wp2_with fail
     refine(Wp.out).mono ?_;rintro e w8 ⟨rfl,Wq⟩;have yQ:Hid (Mk (kN n lv la lc S g) w0 P q w8):=hid (by obtain⟨m,rfl⟩:=Wq;exact zB zq.out m);clear Wq;obtain⟨ap9,ax9,zba,zbb,hw9,xY⟩:=uM yQ.out (yV (lv:=lv) Yl.out (by decide));have yl:=hid xY;clear xY;have NP:=xk q;have Q8:(zA q).a=q.a+1:=rfl
     go_wp2_with fail
     refine(ja.out _ _ yl.out ⟨by omega,by omega⟩).mono ?_;rintro e w10 ⟨rfl,s10,uf,vZ⟩;have uB:=hid vZ;have jq:=hid uf;have Kw:=uf.kp.a;have WE:=zl uf (by rfl) (c:=4) (of_decide_eq_true (by rfl));clear vZ uf
     go_wp2_with fail
     refine(Gg.out _ _ uB.out (xH uB.out (by omega))).mono ?_;rintro e LZ ⟨rfl,s11,vM,jD⟩;have jV:=hid jD;have ZA:=hid vM;have L6:=vM.kp.a;have L8:=zl vM (by rfl) (c:=1) (of_decide_eq_true (by rfl));clear jD vM
     go_wp2_with fail
     refine(ja.out _ _ jV.out ⟨by omega,by omega⟩).mono ?_;rintro e w12 ⟨rfl,s12,ZZ,Yp⟩;have uK:=hid Yp;have XX:=hid ZZ;have fM:=ZZ.kp.a;have fO:=zl ZZ (by rfl) (c:=4) (of_decide_eq_true (by rfl));clear Yp ZZ;go_wp2
     go_roundw
     case rel=>exact⟨_,uK.out,by omega,by omega,λs' he=>Ky.out s' (.go Yl.out (.seq .zu (.seq jq.out (.seq ZA.out XX.out))) rfl .skip he)⟩
     case measure=>
      have e1:=zZ uK.out;have e2:=zZ zq.out;have:=yV (lv:=lv) Yl.out (by decide);have hmm:=uK.out.yM;change s12.a<=n at hmm;rw[e1,e2];omega
    |false=>
     go_wp2_with fail
     refine(Wp.out).mono ?_;rintro e w12 ⟨rfl,Vs⟩;have uK:Hid (Mk (kN n lv la lc S g) w0 P q w12):=hid (by obtain⟨m,rfl⟩:=Vs;exact zB zq.out m);clear Vs;have XX:=hid (Ky.out _ (.stop Yl.out));obtain⟨b13,fP⟩:∃b,isS n lv [108] q=b:=⟨_,rfl⟩;have zbw:=hid (vH hS.out ⟨#[108]⟩ [108] (by decide+kernel) uK.out b13 fP);have fQ:=hid fP;clear fP
     cases b13 with
     |true=>
      go_wp2_with fail
      refine(zbw.out).mono ?_;rintro e YP ⟨rfl,kE⟩;have qJ:Hid (Mk (kN n lv la lc S g) w0 P q YP):=hid (by obtain⟨m,rfl⟩:=kE;exact zB uK.out m);clear kE;obtain⟨zbf,zbg,zbh,zbi,zbj,uQ⟩:=uM qJ.out (yV (lv:=lv) fQ.out (by decide));have uN:=hid uQ;clear uQ;have NV:=xk q;have Dq:(zA q).a=q.a+1:=rfl
      go_wp2_with fail
      refine(ja.out _ _ uN.out ⟨by omega,by omega⟩).mono ?_;rintro e WB ⟨rfl,s15,uS,qj⟩;have Yn:=hid qj;have VP:=hid uS;have Dt:=uS.kp.a;have P7:=zl uS (by rfl) (c:=4) (of_decide_eq_true (by rfl));clear qj uS
      go_wp2_with fail
      refine(Q7.out _ _ Yn.out (xH Yn.out (by omega))).mono ?_;rintro e w17 ⟨rfl,tN,Gx,YT⟩;have Qh:=hid YT;have fU:=hid Gx;have tK:=Gx.kp.a;have tJ:=zl Gx (by rfl) (c:=1) (of_decide_eq_true (by rfl));clear YT Gx;go_wp2
      go_loopw [] (λwr=>Rl (kN n lv la lc S g) w0 P (Yf n lv) tN 20 wr) (λwr=>n+1-Zb g wr)
      case atStart=>exact⟨tN,Qh.out,by omega,waa _,λ_ h=>h⟩
      case round=>
       obtain⟨r,hMr,hpr,har,hk⟩:=hrel;obtain⟨b,hb⟩:∃b,vG n lv r=b:=⟨_,rfl⟩;have hc:=Yi.out _ _ hMr;rw[hb]at hc;have HC:=hid hc;have zq:=hid hMr;have HB:=hid hb;have HK:=hid hk;clear hMr hb hk hc
       cases b with
       |false=>
        go_wp2_with fail
        refine(HC.out).mono ?_;rintro e jX ⟨rfl,x9⟩;have jY:Hid (Mk (kN n lv la lc S g) w0 P r jX):=hid (by obtain⟨m,rfl⟩:=x9;exact zB zq.out m);clear x9;have VQ:=hid (HK.out _ (.stop HB.out));have ZC:Hid (Ev n lv (.seq .zu (.seq (Nb n lv) (Yf n lv))) (zk 11 true s) r):=hid (.seq .zu (.seq (.seq (.seq vX.out (.seq y8.out jl.out)) (.seq XX.out (.seq (.yes fQ.out (.seq .zu VP.out)) fU.out))) VQ.out))
        go_wp2_with fail
        refine(jO (k:=11) (s:=s) ZC.out jY.out (λ_=>by have:=HD.out;omega)).mono ?_;rintro e VR ⟨rfl,ve⟩;have vg:=hid ve;clear ve;go_wp2
        go_end0
        exact⟨rfl,_,.no (by rw[xu HX.out];rfl) (.no (by rw[xu HX.out];rfl) (.yes (by rw[xu HX.out];rfl) (.node ZC.out))),vg.out⟩
       |true=>
        go_wp2_with fail
        refine(HC.out).mono ?_;rintro e jX ⟨rfl,x9⟩;have jY:Hid (Mk (kN n lv la lc S g) w0 P r jX):=hid (by obtain⟨m,rfl⟩:=x9;exact zB zq.out m);clear x9
        go_wp2_with fail
        refine(qF.out _ _ jY.out ⟨HB.out,by omega⟩).mono ?_;rintro e VR ⟨rfl,VS,uC,ve⟩;have vg:=hid ve;have ZE:=hid uC;have Dy:=uC.kp.a;have Dz:=zl uC (by rfl) (c:= -28) (of_decide_eq_true (by rfl));clear ve uC;go_wp2
        go_roundw
        case rel=>exact⟨_,vg.out,by omega,by omega,λs' he=>HK.out s' (.go HB.out ZE.out rfl .skip he)⟩
        case measure=>
         have e1:=zZ vg.out;have e2:=zZ zq.out;have:=ZE.out.Vk;have hmm:=vg.out.yM;change VS.a<=n at hmm;rw[e1,e2];omega
     |false=>
      go_wp2_with fail
      refine(zbw.out).mono ?_;rintro e YP ⟨rfl,kE⟩;have qJ:Hid (Mk (kN n lv la lc S g) w0 P q YP):=hid (by obtain⟨m,rfl⟩:=kE;exact zB uK.out m);clear kE
      go_wp2_with fail
      refine(Q7.out _ _ qJ.out (xH qJ.out (by omega))).mono ?_;rintro e w17 ⟨rfl,tN,Gx,YT⟩;have Qh:=hid YT;have fU:=hid Gx;have tK:=Gx.kp.a;have tJ:=zl Gx (by rfl) (c:=1) (of_decide_eq_true (by rfl));clear YT Gx;go_wp2
      go_loopw [] (λwr=>Rl (kN n lv la lc S g) w0 P (Yf n lv) tN 20 wr) (λwr=>n+1-Zb g wr)
      case atStart=>exact⟨tN,Qh.out,by omega,waa _,λ_ h=>h⟩
      case round=>
       obtain⟨r,hMr,hpr,har,hk⟩:=hrel;obtain⟨b,hb⟩:∃b,vG n lv r=b:=⟨_,rfl⟩;have hc:=Yi.out _ _ hMr;rw[hb]at hc;have HC:=hid hc;have zq:=hid hMr;have HB:=hid hb;have HK:=hid hk;clear hMr hb hk hc
       cases b with
       |false=>
        go_wp2_with fail
        refine(HC.out).mono ?_;rintro e jX ⟨rfl,x9⟩;have jY:Hid (Mk (kN n lv la lc S g) w0 P r jX):=hid (by obtain⟨m,rfl⟩:=x9;exact zB zq.out m);clear x9;have VQ:=hid (HK.out _ (.stop HB.out));have ZC:Hid (Ev n lv (.seq .zu (.seq (Nb n lv) (Yf n lv))) (zk 11 true s) r):=hid (.seq .zu (.seq (.seq (.seq vX.out (.seq y8.out jl.out)) (.seq XX.out (.seq (.no fQ.out .skip) fU.out))) VQ.out))
        go_wp2_with fail
        refine(jO (k:=11) (s:=s) ZC.out jY.out (λ_=>by have:=HD.out;omega)).mono ?_;rintro e VR ⟨rfl,ve⟩;have vg:=hid ve;clear ve;go_wp2
        go_end0
        exact⟨rfl,_,.no (by rw[xu HX.out];rfl) (.no (by rw[xu HX.out];rfl) (.yes (by rw[xu HX.out];rfl) (.node ZC.out))),vg.out⟩
       |true=>
        go_wp2_with fail
        refine(HC.out).mono ?_;rintro e jX ⟨rfl,x9⟩;have jY:Hid (Mk (kN n lv la lc S g) w0 P r jX):=hid (by obtain⟨m,rfl⟩:=x9;exact zB zq.out m);clear x9
        go_wp2_with fail
        refine(qF.out _ _ jY.out ⟨HB.out,by omega⟩).mono ?_;rintro e VR ⟨rfl,VS,uC,ve⟩;have vg:=hid ve;have ZE:=hid uC;have Dy:=uC.kp.a;have Dz:=zl uC (by rfl) (c:= -28) (of_decide_eq_true (by rfl));clear ve uC;go_wp2
        go_roundw
        case rel=>exact⟨_,vg.out,by omega,by omega,λs' he=>HK.out s' (.go HB.out ZE.out rfl .skip he)⟩
        case measure=>
         have e1:=zZ vg.out;have e2:=zZ zq.out;have:=ZE.out.Vk;have hmm:=vg.out.yM;change VS.a<=n at hmm;rw[e1,e2];omega
theorem zjJ(hS:Hid (qi n lv S)){a0:Nat}(HL:YL n lv la lc S g a0):yT (kN n lv la lc S g) w0 P 123 #[.pointer (some ⟨g,0,none⟩)] (Jg n lv) (λs=>zJ n lv s.a=119/\s.d<200/\a0<=s.a/\zC s<=20):=by
 intro w s hM ⟨hx,hd,ha,hp⟩;have hlt:=Xd (lv:=lv) (n:=n) (i:=s.a) (by omega);obtain⟨nv,hB,_⟩:=hM.own;have hz:=hS.out.1;have hbt:=hS.out.2 s.a hlt;rw[hx]at hbt;obtain⟨a,jC⟩:∃a,s.a=a:=⟨_,rfl⟩;have c1:w.cell? ⟨g,1,none⟩=some (.string S):=hB.cell 1;have c3:w.cell? ⟨g,3,none⟩=some (.int .i64 (s.a:Int)):=hB.cell 3;rw[jC]at c3 hbt;have hlt2:a<n:=by omega
 have q1':a<S.size:=by omega
 have q1:(a:Int)<(S.size:Int):=by omega
 have q0:(0:Int)<=(a:Int):=by omega
 have hbb:S[a].toNat=119:=by rw[←zT q1',hbt]
 have HX:=hid hx;have HD:=hid hd;have qF:=hid (LW (n:=n) (lv:=lv) (la:=la) (lc:=lc) (S:=S) (g:=g) (w0:=w0) (P:=P) hS);have Yi:=hid (λw s (h:Mk (kN n lv la lc S g) w0 P s w)=>We hS.out w0 P w s h);have jk:=hid (fun(t:ByteArray) (l:List Nat) (hl:XP t l) w s (h:Mk (kN n lv la lc S g) w0 P s w) b (hb:isS n lv l s=b)=>vH hS.out t l hl h b hb);have ja:=hid (LX (w0:=w0) (P:=P) hS HL);have uA:=hid (LY (w0:=w0) (P:=P) hS HL);have Dw:=hid (Dp (w0:=w0) (P:=P) hS HL);have XW:=hid (Du (w0:=w0) (P:=P) hS HL);have Dx:=hid (jo (n:=n) (lv:=lv) (la:=la) (lc:=lc) (S:=S) (g:=g) (w0:=w0) (P:=P) hS ⟨#[125]⟩ 125 (by decide+kernel));have Xf:=hid (jo (n:=n) (lv:=lv) (la:=la) (lc:=lc) (S:=S) (g:=g) (w0:=w0) (P:=P) hS ⟨#[41]⟩ 41 (by decide+kernel));have Gg:=hid (jo (n:=n) (lv:=lv) (la:=la) (lc:=lc) (S:=S) (g:=g) (w0:=w0) (P:=P) hS ⟨#[116]⟩ 116 (by decide+kernel));have Q7:=hid (jo (n:=n) (lv:=lv) (la:=la) (lc:=lc) (S:=S) (g:=g) (w0:=w0) (P:=P) hS ⟨#[102]⟩ 102 (by decide+kernel));have HM:=hid hM;clear hM hB hbt hz hx jC hd;go_enter func123,ntmps123;go_wp2
 go_quiet (fail)
 have kG:=hid (zB HM.out nq);obtain⟨wq,hwq⟩:∃W,w.drewN nq=W:=⟨_,rfl⟩;rw[hwq]at kG ⊢;clear hwq c1 c3 hbb;go_wp2
 go_loopw [3,4] (λv3 v4 wr=>Dv 3 wq v3 v4 wr) (λ_ v4 _=>7-(intOf v4).toNat)
 case atStart=>exact⟨0,by omega,rfl,rfl,rfl⟩
 case round=>
  obtain⟨k,hk,rfl,rfl,rfl⟩:=hrel;have Ql:k=0\/k=1\/k=2\/k=3\/k=4\/k=5\/k=6:=by omega
  rcases Ql with rfl|rfl|rfl|rfl|rfl|rfl|rfl
  ·rw[show xO 3 0=9 from rfl]
   go_wp2
   go_roundw
   case rel=>exact⟨1,by omega,rfl,rfl,rfl⟩
   case measure=>simp[intOf]
  ·rw[show xO 3 1=9 from rfl]
   go_wp2
   go_roundw
   case rel=>exact⟨2,by omega,rfl,rfl,rfl⟩
   case measure=>simp[intOf]
  ·rw[show xO 3 2=9 from rfl]
   go_wp2
   go_roundw
   case rel=>exact⟨3,by omega,rfl,rfl,rfl⟩
   case measure=>simp[intOf]
  ·rw[show xO 3 3=9 from rfl]
   go_wp2
   go_roundw
   case rel=>exact⟨4,by omega,rfl,rfl,rfl⟩
   case measure=>simp[intOf]
  ·rw[show xO 3 4=12 from rfl]
   go_wp2
   go_roundw
   case rel=>exact⟨5,by omega,rfl,rfl,rfl⟩
   case measure=>simp[intOf]
  ·rw[show xO 3 5=12 from rfl]
   go_wp2
   go_roundw
   case rel=>exact⟨6,by omega,rfl,rfl,rfl⟩
   case measure=>simp[intOf]
  ·rw[show xO 3 6=12 from rfl]
   go_wp2_with fail
   refine(Xh 12 kG.out (xH kG.out (by omega)) (λ_=>by have:=HD.out;omega)).mono ?_;rintro e w3 ⟨rfl,zx⟩;have zn:Hid (Mk (kN n lv la lc S g) w0 P (zk 12 true s) w3):=hid zx;have hp3:=qC 12 true s;have ji:(zk 12 true s).a=s.a:=rfl;clear zx;obtain⟨Wj,Gs,Wl,Wn,hw4,zH⟩:=uM zn.out (hlt);have zK:=hid zH;clear zH;have qf:=xk (zk 12 true s);have jM:(zA (zk 12 true s)).a=(zk 12 true s).a+1:=rfl
   go_wp2_with fail
   refine(ja.out _ _ zK.out ⟨by omega,by omega⟩).mono ?_;rintro e w5 ⟨rfl,s5,zW,yD⟩;have zX:=hid yD;have vX:=hid zW;have YJ:=zW.kp.a;have jU:=zl zW (by rfl) (c:=4) (of_decide_eq_true (by rfl));clear yD zW
   go_wp2_with fail
   refine(uA.out _ _ zX.out ⟨by omega,by omega⟩).mono ?_;rintro e w6 ⟨rfl,s6,zD,zG⟩;have zL:=hid zG;have y8:=hid zD;have ku:=zl zD (by rfl) (c:=6) (of_decide_eq_true (by rfl));have ha6:=zD.kp.a;clear zG zD;go_wp2
   go_loopw [] (λwr=>Rl (kN n lv la lc S g) w0 P (Yf n lv) s6 20 wr) (λwr=>n+1-Zb g wr)
   case atStart=>exact⟨s6,zL.out,by omega,waa _,λ_ h=>h⟩
   case round=>
    obtain⟨r,hMr,hpr,har,hk⟩:=hrel;obtain⟨b,hb⟩:∃b,vG n lv r=b:=⟨_,rfl⟩;have hc:=Yi.out _ _ hMr;rw[hb]at hc;have HC:=hid hc;have zq:=hid hMr;have HB:=hid hb;have HK:=hid hk;clear hMr hb hk hc
    cases b with
    |false=>
     go_wp2_with fail
     refine(HC.out).mono ?_;rintro e jX ⟨rfl,x9⟩;have jY:Hid (Mk (kN n lv la lc S g) w0 P r jX):=hid (by obtain⟨m,rfl⟩:=x9;exact zB zq.out m);clear x9;have VQ:=hid (HK.out _ (.stop HB.out));have ZC:Hid (Ev n lv (.seq .zu (.seq (Ph n lv) (Yf n lv))) (zk 12 true s) r):=hid (.seq .zu (.seq (.seq vX.out y8.out) VQ.out))
     go_wp2_with fail
     refine(jO (k:=12) (s:=s) ZC.out jY.out (λ_=>by have:=HD.out;omega)).mono ?_;rintro e VR ⟨rfl,ve⟩;have vg:=hid ve;clear ve;go_wp2
     go_end0
     exact⟨rfl,_,.no (by rw[xu HX.out];rfl) (.no (by rw[xu HX.out];rfl) (.no (by rw[xu HX.out];rfl) (.yes (by rw[xu HX.out];rfl) (.node ZC.out)))),vg.out⟩
    |true=>
     go_wp2_with fail
     refine(HC.out).mono ?_;rintro e jX ⟨rfl,x9⟩;have jY:Hid (Mk (kN n lv la lc S g) w0 P r jX):=hid (by obtain⟨m,rfl⟩:=x9;exact zB zq.out m);clear x9
     go_wp2_with fail
     refine(qF.out _ _ jY.out ⟨HB.out,by omega⟩).mono ?_;rintro e VR ⟨rfl,VS,uC,ve⟩;have vg:=hid ve;have ZE:=hid uC;have Dy:=uC.kp.a;have Dz:=zl uC (by rfl) (c:= -28) (of_decide_eq_true (by rfl));clear ve uC;go_wp2
     go_roundw
     case rel=>exact⟨_,vg.out,by omega,by omega,λs' he=>HK.out s' (.go HB.out ZE.out rfl .skip he)⟩
     case measure=>
      have e1:=zZ vg.out;have e2:=zZ zq.out;have:=ZE.out.Vk;have hmm:=vg.out.yM;change VS.a<=n at hmm;rw[e1,e2];omega
theorem zjK(hS:Hid (qi n lv S)){a0:Nat}(HL:YL n lv la lc S g a0):yT (kN n lv la lc S g) w0 P 123 #[.pointer (some ⟨g,0,none⟩)] (Jg n lv) (λs=>zJ n lv s.a=114/\s.d<200/\a0<=s.a/\zC s<=20):=by
 intro w s hM ⟨hx,hd,ha,hp⟩;have hlt:=Xd (lv:=lv) (n:=n) (i:=s.a) (by omega);obtain⟨nv,hB,_⟩:=hM.own;have hz:=hS.out.1;have hbt:=hS.out.2 s.a hlt;rw[hx]at hbt;obtain⟨a,jC⟩:∃a,s.a=a:=⟨_,rfl⟩;have c1:w.cell? ⟨g,1,none⟩=some (.string S):=hB.cell 1;have c3:w.cell? ⟨g,3,none⟩=some (.int .i64 (s.a:Int)):=hB.cell 3;rw[jC]at c3 hbt;have hlt2:a<n:=by omega
 have q1':a<S.size:=by omega
 have q1:(a:Int)<(S.size:Int):=by omega
 have q0:(0:Int)<=(a:Int):=by omega
 have hbb:S[a].toNat=114:=by rw[←zT q1',hbt]
 have HX:=hid hx;have HD:=hid hd;have qF:=hid (LW (n:=n) (lv:=lv) (la:=la) (lc:=lc) (S:=S) (g:=g) (w0:=w0) (P:=P) hS);have Yi:=hid (λw s (h:Mk (kN n lv la lc S g) w0 P s w)=>We hS.out w0 P w s h);have jk:=hid (fun(t:ByteArray) (l:List Nat) (hl:XP t l) w s (h:Mk (kN n lv la lc S g) w0 P s w) b (hb:isS n lv l s=b)=>vH hS.out t l hl h b hb);have ja:=hid (LX (w0:=w0) (P:=P) hS HL);have uA:=hid (LY (w0:=w0) (P:=P) hS HL);have Dw:=hid (Dp (w0:=w0) (P:=P) hS HL);have XW:=hid (Du (w0:=w0) (P:=P) hS HL);have Dx:=hid (jo (n:=n) (lv:=lv) (la:=la) (lc:=lc) (S:=S) (g:=g) (w0:=w0) (P:=P) hS ⟨#[125]⟩ 125 (by decide+kernel));have Xf:=hid (jo (n:=n) (lv:=lv) (la:=la) (lc:=lc) (S:=S) (g:=g) (w0:=w0) (P:=P) hS ⟨#[41]⟩ 41 (by decide+kernel));have Gg:=hid (jo (n:=n) (lv:=lv) (la:=la) (lc:=lc) (S:=S) (g:=g) (w0:=w0) (P:=P) hS ⟨#[116]⟩ 116 (by decide+kernel));have Q7:=hid (jo (n:=n) (lv:=lv) (la:=la) (lc:=lc) (S:=S) (g:=g) (w0:=w0) (P:=P) hS ⟨#[102]⟩ 102 (by decide+kernel));have HM:=hid hM;clear hM hB hbt hz hx jC hd;go_enter func123,ntmps123;go_wp2
 go_quiet (fail)
 have kG:=hid (zB HM.out nq);obtain⟨wq,hwq⟩:∃W,w.drewN nq=W:=⟨_,rfl⟩;rw[hwq]at kG ⊢;clear hwq c1 c3 hbb;go_wp2
 go_loopw [3,4] (λv3 v4 wr=>Dv 4 wq v3 v4 wr) (λ_ v4 _=>7-(intOf v4).toNat)
 case atStart=>exact⟨0,by omega,rfl,rfl,rfl⟩
 case round=>
  obtain⟨k,hk,rfl,rfl,rfl⟩:=hrel;have Ql:k=0\/k=1\/k=2\/k=3\/k=4\/k=5\/k=6:=by omega
  rcases Ql with rfl|rfl|rfl|rfl|rfl|rfl|rfl
  ·rw[show xO 4 0=9 from rfl]
   go_wp2
   go_roundw
   case rel=>exact⟨1,by omega,rfl,rfl,rfl⟩
   case measure=>simp[intOf]
  ·rw[show xO 4 1=9 from rfl]
   go_wp2
   go_roundw
   case rel=>exact⟨2,by omega,rfl,rfl,rfl⟩
   case measure=>simp[intOf]
  ·rw[show xO 4 2=9 from rfl]
   go_wp2
   go_roundw
   case rel=>exact⟨3,by omega,rfl,rfl,rfl⟩
   case measure=>simp[intOf]
  ·rw[show xO 4 3=9 from rfl]
   go_wp2
   go_roundw
   case rel=>exact⟨4,by omega,rfl,rfl,rfl⟩
   case measure=>simp[intOf]
  ·rw[show xO 4 4=9 from rfl]
   go_wp2
   go_roundw
   case rel=>exact⟨5,by omega,rfl,rfl,rfl⟩
   case measure=>simp[intOf]
  ·rw[show xO 4 5=13 from rfl]
   go_wp2
   go_roundw
   case rel=>exact⟨6,by omega,rfl,rfl,rfl⟩
   case measure=>simp[intOf]
  ·rw[show xO 4 6=13 from rfl]
   go_wp2_with fail
   refine(Xh 13 kG.out (xH kG.out (by omega)) (λ_=>by have:=HD.out;omega)).mono ?_;rintro e w3 ⟨rfl,zx⟩;have zn:Hid (Mk (kN n lv la lc S g) w0 P (zk 13 true s) w3):=hid zx;have hp3:=qC 13 true s;have ji:(zk 13 true s).a=s.a:=rfl;clear zx;obtain⟨Wj,Gs,Wl,Wn,hw4,zH⟩:=uM zn.out (hlt);have zK:=hid zH;clear zH;have qf:=xk (zk 13 true s);have jM:(zA (zk 13 true s)).a=(zk 13 true s).a+1:=rfl
   go_wp2_with fail
   refine(Dw.out _ _ zK.out ⟨by omega,by omega⟩).mono ?_;rintro e w6 ⟨rfl,s6,zD,zG⟩;have zL:=hid zG;have y8:=hid zD;have ha6:=zD.kp.a;have ku:=zl zD (by rfl) (c:=10) (of_decide_eq_true (by rfl));clear zG zD;go_wp2
   go_loopw [] (λwr=>Rl (kN n lv la lc S g) w0 P (Yf n lv) s6 20 wr) (λwr=>n+1-Zb g wr)
   case atStart=>exact⟨s6,zL.out,by omega,waa _,λ_ h=>h⟩
   case round=>
    obtain⟨r,hMr,hpr,har,hk⟩:=hrel;obtain⟨b,hb⟩:∃b,vG n lv r=b:=⟨_,rfl⟩;have hc:=Yi.out _ _ hMr;rw[hb]at hc;have HC:=hid hc;have zq:=hid hMr;have HB:=hid hb;have HK:=hid hk;clear hMr hb hk hc
    cases b with
    |false=>
     go_wp2_with fail
     refine(HC.out).mono ?_;rintro e jX ⟨rfl,x9⟩;have jY:Hid (Mk (kN n lv la lc S g) w0 P r jX):=hid (by obtain⟨m,rfl⟩:=x9;exact zB zq.out m);clear x9;have VQ:=hid (HK.out _ (.stop HB.out));have ZC:Hid (Ev n lv (.seq .zu (.seq (Nc n lv) (Yf n lv))) (zk 13 true s) r):=hid (.seq .zu (.seq (y8.out) VQ.out))
     go_wp2_with fail
     refine(jO (k:=13) (s:=s) ZC.out jY.out (λ_=>by have:=HD.out;omega)).mono ?_;rintro e VR ⟨rfl,ve⟩;have vg:=hid ve;clear ve;go_wp2
     go_end0
     exact⟨rfl,_,.no (by rw[xu HX.out];rfl) (.no (by rw[xu HX.out];rfl) (.no (by rw[xu HX.out];rfl) (.no (by rw[xu HX.out];rfl) (.yes (by rw[xu HX.out];rfl) (.node ZC.out))))),vg.out⟩
    |true=>
     go_wp2_with fail
     refine(HC.out).mono ?_;rintro e jX ⟨rfl,x9⟩;have jY:Hid (Mk (kN n lv la lc S g) w0 P r jX):=hid (by obtain⟨m,rfl⟩:=x9;exact zB zq.out m);clear x9
     go_wp2_with fail
     refine(qF.out _ _ jY.out ⟨HB.out,by omega⟩).mono ?_;rintro e VR ⟨rfl,VS,uC,ve⟩;have vg:=hid ve;have ZE:=hid uC;have Dy:=uC.kp.a;have Dz:=zl uC (by rfl) (c:= -28) (of_decide_eq_true (by rfl));clear ve uC;go_wp2
     go_roundw
     case rel=>exact⟨_,vg.out,by omega,by omega,λs' he=>HK.out s' (.go HB.out ZE.out rfl .skip he)⟩
     case measure=>
      have e1:=zZ vg.out;have e2:=zZ zq.out;have:=ZE.out.Vk;have hmm:=vg.out.yM;change VS.a<=n at hmm;rw[e1,e2];omega
theorem zjL(hS:Hid (qi n lv S)){a0:Nat}(HL:YL n lv la lc S g a0):yT (kN n lv la lc S g) w0 P 123 #[.pointer (some ⟨g,0,none⟩)] (Jg n lv) (λs=>zJ n lv s.a=99/\s.d<200/\a0<=s.a/\zC s<=20):=by
 intro w s hM ⟨hx,hd,ha,hp⟩;have hlt:=Xd (lv:=lv) (n:=n) (i:=s.a) (by omega);obtain⟨nv,hB,_⟩:=hM.own;have hz:=hS.out.1;have hbt:=hS.out.2 s.a hlt;rw[hx]at hbt;obtain⟨a,jC⟩:∃a,s.a=a:=⟨_,rfl⟩;have c1:w.cell? ⟨g,1,none⟩=some (.string S):=hB.cell 1;have c3:w.cell? ⟨g,3,none⟩=some (.int .i64 (s.a:Int)):=hB.cell 3;rw[jC]at c3 hbt;have hlt2:a<n:=by omega
 have q1':a<S.size:=by omega
 have q1:(a:Int)<(S.size:Int):=by omega
 have q0:(0:Int)<=(a:Int):=by omega
 have hbb:S[a].toNat=99:=by rw[←zT q1',hbt]
 have HX:=hid hx;have HD:=hid hd;have qF:=hid (LW (n:=n) (lv:=lv) (la:=la) (lc:=lc) (S:=S) (g:=g) (w0:=w0) (P:=P) hS);have Yi:=hid (λw s (h:Mk (kN n lv la lc S g) w0 P s w)=>We hS.out w0 P w s h);have jk:=hid (fun(t:ByteArray) (l:List Nat) (hl:XP t l) w s (h:Mk (kN n lv la lc S g) w0 P s w) b (hb:isS n lv l s=b)=>vH hS.out t l hl h b hb);have ja:=hid (LX (w0:=w0) (P:=P) hS HL);have uA:=hid (LY (w0:=w0) (P:=P) hS HL);have Dw:=hid (Dp (w0:=w0) (P:=P) hS HL);have XW:=hid (Du (w0:=w0) (P:=P) hS HL);have Dx:=hid (jo (n:=n) (lv:=lv) (la:=la) (lc:=lc) (S:=S) (g:=g) (w0:=w0) (P:=P) hS ⟨#[125]⟩ 125 (by decide+kernel));have Xf:=hid (jo (n:=n) (lv:=lv) (la:=la) (lc:=lc) (S:=S) (g:=g) (w0:=w0) (P:=P) hS ⟨#[41]⟩ 41 (by decide+kernel));have Gg:=hid (jo (n:=n) (lv:=lv) (la:=la) (lc:=lc) (S:=S) (g:=g) (w0:=w0) (P:=P) hS ⟨#[116]⟩ 116 (by decide+kernel));have Q7:=hid (jo (n:=n) (lv:=lv) (la:=la) (lc:=lc) (S:=S) (g:=g) (w0:=w0) (P:=P) hS ⟨#[102]⟩ 102 (by decide+kernel));have HM:=hid hM;clear hM hB hbt hz hx jC hd;go_enter func123,ntmps123;go_wp2
 go_quiet (fail)
 have kG:=hid (zB HM.out nq);obtain⟨wq,hwq⟩:∃W,w.drewN nq=W:=⟨_,rfl⟩;rw[hwq]at kG ⊢;clear hwq c1 c3 hbb;go_wp2
 go_loopw [3,4] (λv3 v4 wr=>Dv 5 wq v3 v4 wr) (λ_ v4 _=>7-(intOf v4).toNat)
 case atStart=>exact⟨0,by omega,rfl,rfl,rfl⟩
 case round=>
  obtain⟨k,hk,rfl,rfl,rfl⟩:=hrel;have Ql:k=0\/k=1\/k=2\/k=3\/k=4\/k=5\/k=6:=by omega
  rcases Ql with rfl|rfl|rfl|rfl|rfl|rfl|rfl
  ·rw[show xO 5 0=9 from rfl]
   go_wp2
   go_roundw
   case rel=>exact⟨1,by omega,rfl,rfl,rfl⟩
   case measure=>simp[intOf]
  ·rw[show xO 5 1=9 from rfl]
   go_wp2
   go_roundw
   case rel=>exact⟨2,by omega,rfl,rfl,rfl⟩
   case measure=>simp[intOf]
  ·rw[show xO 5 2=9 from rfl]
   go_wp2
   go_roundw
   case rel=>exact⟨3,by omega,rfl,rfl,rfl⟩
   case measure=>simp[intOf]
  ·rw[show xO 5 3=9 from rfl]
   go_wp2
   go_roundw
   case rel=>exact⟨4,by omega,rfl,rfl,rfl⟩
   case measure=>simp[intOf]
  ·rw[show xO 5 4=9 from rfl]
   go_wp2
   go_roundw
   case rel=>exact⟨5,by omega,rfl,rfl,rfl⟩
   case measure=>simp[intOf]
  ·rw[show xO 5 5=9 from rfl]
   go_wp2
   go_roundw
   case rel=>exact⟨6,by omega,rfl,rfl,rfl⟩
   case measure=>simp[intOf]
  ·rw[show xO 5 6=14 from rfl]
   go_wp2_with fail
   refine(Xh 14 kG.out (xH kG.out (by omega)) (λ_=>by have:=HD.out;omega)).mono ?_;rintro e w3 ⟨rfl,zx⟩;have zn:Hid (Mk (kN n lv la lc S g) w0 P (zk 14 true s) w3):=hid zx;have hp3:=qC 14 true s;have ji:(zk 14 true s).a=s.a:=rfl;clear zx;obtain⟨Wj,Gs,Wl,Wn,hw4,zH⟩:=uM zn.out (hlt);have zK:=hid zH;clear zH;have qf:=xk (zk 14 true s);have jM:(zA (zk 14 true s)).a=(zk 14 true s).a+1:=rfl
   go_wp2_with fail
   refine(XW.out _ _ zK.out ⟨by omega,by omega⟩).mono ?_;rintro e w6 ⟨rfl,s6,zD,zG⟩;have zL:=hid zG;have y8:=hid zD;have ha6:=zD.kp.a;have ku:=zl zD (by rfl) (c:=10) (of_decide_eq_true (by rfl));clear zG zD;go_wp2
   go_loopw [] (λwr=>Rl (kN n lv la lc S g) w0 P (Yf n lv) s6 20 wr) (λwr=>n+1-Zb g wr)
   case atStart=>exact⟨s6,zL.out,by omega,waa _,λ_ h=>h⟩
   case round=>
    obtain⟨r,hMr,hpr,har,hk⟩:=hrel;obtain⟨b,hb⟩:∃b,vG n lv r=b:=⟨_,rfl⟩;have hc:=Yi.out _ _ hMr;rw[hb]at hc;have HC:=hid hc;have zq:=hid hMr;have HB:=hid hb;have HK:=hid hk;clear hMr hb hk hc
    cases b with
    |false=>
     go_wp2_with fail
     refine(HC.out).mono ?_;rintro e jX ⟨rfl,x9⟩;have jY:Hid (Mk (kN n lv la lc S g) w0 P r jX):=hid (by obtain⟨m,rfl⟩:=x9;exact zB zq.out m);clear x9;have VQ:=hid (HK.out _ (.stop HB.out));have ZC:Hid (Ev n lv (.seq .zu (.seq (Nh n lv) (Yf n lv))) (zk 14 true s) r):=hid (.seq .zu (.seq (y8.out) VQ.out))
     go_wp2_with fail
     refine(jO (k:=14) (s:=s) ZC.out jY.out (λ_=>by have:=HD.out;omega)).mono ?_;rintro e VR ⟨rfl,ve⟩;have vg:=hid ve;clear ve;go_wp2
     go_end0
     exact⟨rfl,_,.no (by rw[xu HX.out];rfl) (.no (by rw[xu HX.out];rfl) (.no (by rw[xu HX.out];rfl) (.no (by rw[xu HX.out];rfl) (.no (by rw[xu HX.out];rfl) (.node ZC.out))))),vg.out⟩
    |true=>
     go_wp2_with fail
     refine(HC.out).mono ?_;rintro e jX ⟨rfl,x9⟩;have jY:Hid (Mk (kN n lv la lc S g) w0 P r jX):=hid (by obtain⟨m,rfl⟩:=x9;exact zB zq.out m);clear x9
     go_wp2_with fail
     refine(qF.out _ _ jY.out ⟨HB.out,by omega⟩).mono ?_;rintro e VR ⟨rfl,VS,uC,ve⟩;have vg:=hid ve;have ZE:=hid uC;have Dy:=uC.kp.a;have Dz:=zl uC (by rfl) (c:= -28) (of_decide_eq_true (by rfl));clear ve uC;go_wp2
     go_roundw
     case rel=>exact⟨_,vg.out,by omega,by omega,λs' he=>HK.out s' (.go HB.out ZE.out rfl .skip he)⟩
     case measure=>
      have e1:=zZ vg.out;have e2:=zZ zq.out;have:=ZE.out.Vk;have hmm:=vg.out.yM;change VS.a<=n at hmm;rw[e1,e2];omega
theorem zjM(hS:Hid (qi n lv S)){a0:Nat}(HL:YL n lv la lc S g a0):yT (kN n lv la lc S g) w0 P 123 #[.pointer (some ⟨g,0,none⟩)] (Jg n lv) (λs=>kZ n lv s=true/\a0<=s.a/\zC s<=20):=by
 intro w s hM ⟨hc,ha,hp⟩;unfold kZ at hc;rw[Bool.and_eq_true]at hc;have hd:=of_decide_eq_true hc.2;have h6:zJ n lv s.a=123\/zJ n lv s.a=40\/zJ n lv s.a=105\/zJ n lv s.a=119\/zJ n lv s.a=114\/zJ n lv s.a=99:=by simpa using hc.1
 rcases h6 with h|h|h|h|h|h
 ·exact zjG hS HL w s hM ⟨h,hd,ha,hp⟩
 ·exact zjH hS HL w s hM ⟨h,hd,ha,hp⟩
 ·exact zjI hS HL w s hM ⟨h,hd,ha,hp⟩
 ·exact zjJ hS HL w s hM ⟨h,hd,ha,hp⟩
 ·exact zjK hS HL w s hM ⟨h,hd,ha,hp⟩
 ·exact zjL hS HL w s hM ⟨h,hd,ha,hp⟩
end
end Go.Proofs.YtkolpaonccmgiaaGreatDoor.Q

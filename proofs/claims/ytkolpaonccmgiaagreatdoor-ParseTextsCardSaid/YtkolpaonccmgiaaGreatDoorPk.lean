/- What the document's own command of layer 13 (parse -/
import Derived.Test.YtkolpaonccmgiaaGreatDoorPbN
import Derived.Test.YtkolpaonccmgiaaGreatDoorSz
namespace Go.Proofs.YtkolpaonccmgiaaGreatDoor.Q
set_option linter.unusedSectionVars false
set_option linter.unusedVariables false
open Go.Proofs.Tryz
open Lib(hid)
set_option maxHeartbeats 16000000
set_option maxRecDepth 100000
open Go.RowKit
section
variable{n:Nat}{lv:Nat->Lf}{la:Option Addr}{lc g:Nat}{S:ByteArray}{w0:World}{P:Nat->Prop}
def zjN(n:Nat)(lv:Nat->Lf)(la:Option Addr)(lc:Nat)(S:ByteArray)(g:Nat)(w0:World)(P:Nat->Prop)(s:PS)(c:Int)(v:Value)(wr:World):Prop:=
 ∃(m:Nat) (r:PS),v=.int .i64 (m:Int)/\Mk (kN n lv la lc S g) w0 P r wr/\zC r<=c/\s.a<=r.a/\m<=r.a/\(m=0->∀s',Ev n lv (Yg n lv) r s'->Ev n lv (Yg n lv) s s')/\(0<m->∀s',Ev n lv (QZ n lv) r s'->Ev n lv (Yg n lv) s s')
theorem zjO{s:PS}(h:JR n lv s=true):zJ n lv s.a=120/\ui (yF n lv s.a).s=true/\zJ n lv (s.a+1)=40/\s.d<200:=by
 unfold JR at h;simp only[Bool.and_eq_true,beq_iff_eq,decide_eq_true_eq]at h;exact⟨h.1.1.1,h.1.1.2,h.1.2,h.2⟩
theorem zjP(hS:Hid (qi n lv S)){a0:Nat}(HL:YL n lv la lc S g a0):yT (kN n lv la lc S g) w0 P 103 #[.pointer (some ⟨g,0,none⟩)] (gX n lv) (λs=>a0<=s.a/\zC s<=15):=by
 intro w s hM ⟨ha,hp⟩;have uP:=hid (Dn (n:=n) (lv:=lv) (la:=la) (lc:=lc) (S:=S) (g:=g) (w0:=w0) (P:=P));have qg:=hid (λk hk=>PZ (n:=n) (lv:=lv) (la:=la) (lc:=lc) (S:=S) (g:=g) (w0:=w0) (P:=P) k hk);have qF:=hid (LW (n:=n) (lv:=lv) (la:=la) (lc:=lc) (S:=S) (g:=g) (w0:=w0) (P:=P) hS);have Yi:=hid (λw s (h:Mk (kN n lv la lc S g) w0 P s w)=>We hS.out w0 P w s h);have PN:=hid (λw s (h:Mk (kN n lv la lc S g) w0 P s w)=>zaW hS.out w0 P w s h);have Xf:=hid (jo (n:=n) (lv:=lv) (la:=la) (lc:=lc) (S:=S) (g:=g) (w0:=w0) (P:=P) hS ⟨#[41]⟩ 41 (by decide+kernel));have VK:=hid (zjM (w0:=w0) (P:=P) hS HL);have uw:=hid (λw s (h:Mk (kN n lv la lc S g) w0 P s w)=>zaX hS.out w0 P w s h);have HM:=hid hM;clear hM;obtain⟨z,hz⟩:∃z,XL n lv s=z:=⟨_,rfl⟩;have hc1:=uw.out _ _ HM.out;rw[hz]at hc1;have wZ:=hid hc1;have HCM:=hid hz;clear hc1 hz
 cases z with
 |false=>
  have hcx:kZ n lv s=false/\JR n lv s=false:=by
   have h:=HCM.out;unfold XL at h;simp only[Bool.or_eq_false_iff]at h;refine⟨h.2,?_⟩;unfold JR;rw[h.1.1];rfl
  have HX:=hid hcx;clear hcx;go_enter func103,ntmps103
  go_wp2_with fail
  refine(wZ.out).mono ?_;rintro e w1 ⟨rfl,hm1⟩;have zt:Hid (Mk (kN n lv la lc S g) w0 P s w1):=hid (by obtain⟨m,rfl⟩:=hm1;exact zB HM.out m);clear hm1
  go_wp2_with fail
  refine(uP.out _ _ zt.out (xH zt.out (by omega))).mono ?_;rintro e w2 ⟨rfl,s2,he2,hM2⟩;have zo:=hid hM2;have HE2:=hid he2;have ha2:=he2.kp.a;have hp2:=zl he2 (by rfl) (c:=1) (of_decide_eq_true (by rfl));clear hM2 he2;go_wp2;refine bodyPost_ret (v:=.tuple #[]) (results_none rfl _ _ _) rfl ?_;exact⟨rfl,_,.no HX.out.1 (.no HX.out.2 (.no HCM.out HE2.out)),zo.out⟩
 |true=>
  obtain⟨x,hx⟩:∃x,kZ n lv s=x:=⟨_,rfl⟩;have hc2:=λW (h:Mk (kN n lv la lc S g) w0 P s W)=>PN.out W s h;rw[hx]at hc2;have HC2:=hid hc2;have Vm:=hid hx;clear hc2 hx
  cases x with
  |true=>
   go_enter func103,ntmps103
   go_wp2_with fail
   refine(wZ.out).mono ?_;rintro e w1 ⟨rfl,hm1⟩;have zt:Hid (Mk (kN n lv la lc S g) w0 P s w1):=hid (by obtain⟨m,rfl⟩:=hm1;exact zB HM.out m);clear hm1
   go_wp2_with fail
   refine(HC2.out _ zt.out).mono ?_;rintro e w2 ⟨rfl,hm2⟩;have zo:Hid (Mk (kN n lv la lc S g) w0 P s w2):=hid (by obtain⟨m,rfl⟩:=hm2;exact zB zt.out m);clear hm2
   go_wp2_with fail
   refine(VK.out _ _ zo.out ⟨Vm.out,by omega,by omega⟩).mono ?_;rintro e w3 ⟨rfl,s3,he3,zx⟩;have zn:=hid zx;have yN:=hid he3;have ji:=he3.kp.a;clear zx he3;go_wp2;refine bodyPost_ret (v:=.tuple #[]) (results_none rfl _ _ _) rfl ?_;exact⟨rfl,_,.yes Vm.out yN.out,zn.out⟩
  |false=>
   go_enter func103,ntmps103
   go_wp2_with fail
   refine(wZ.out).mono ?_;rintro e w1 ⟨rfl,hm1⟩;have zt:Hid (Mk (kN n lv la lc S g) w0 P s w1):=hid (by obtain⟨m,rfl⟩:=hm1;exact zB HM.out m);clear hm1
   go_wp2_with fail
   refine(HC2.out _ zt.out).mono ?_;rintro e w3 ⟨rfl,qH⟩;have zn:Hid (Mk (kN n lv la lc S g) w0 P s w3):=hid (by obtain⟨m,rfl⟩:=qH;exact zB zt.out m);clear qH;obtain⟨y4,hy4⟩:∃y,JR n lv s=y:=⟨_,rfl⟩;have P8:=hid hy4;have zbx:=Gn zn.out;have zby:=(VN zn.out).1;go_wp2
   go_cut [62]from 14 to 63 (λv wx=>v=.bool y4/\Mk (kN n lv la lc S g) w0 P s wx)
   case first=>
    have hmk:=zn.out;obtain⟨nv,hB,_⟩:=hmk.own;have c1:w3.cell? ⟨g,1,none⟩=some (.string S):=hB.cell 1;have c5:w3.cell? ⟨g,5,none⟩=some (.int .i64 (s.d:Int)):=hB.cell 5;have kW:=hmk.yM;change s.a<=n at kW;have hnn:=hmk.st.nle;change n<=10000 at hnn;have hz:=hS.out.1;have zjQ:=hS.out.2;unfold JR at hy4;obtain⟨fV,tV⟩:∃b,isS n lv [120] s=b:=⟨_,rfl⟩;have tX:=hid (λm=>vH hS.out _ _ zaT (zB zn.out m) fV tV);rw[show(zJ n lv s.a==120)=fV from by rw[←tV,xu rfl]]at hy4;clear hmk hB
    cases fV with
    |false=>
     obtain rfl:y4=false:=by rw[←hy4];rfl
     clear hy4 tV;go_wp2
     go_quiet (exact Calls.quiet_of (tX.out _))
     have XY:=hid (zB zn.out nq)
     go_wp2_with fail
     go_meet
     case rel=>exact⟨rfl,XY.out⟩
    |true=>
     have hlt:=yV (lv:=lv) tV (by decide);obtain⟨lb,lo,hla,k0,k1⟩:=Wh zn.out hlt;have hsz:=Je zn.out.st.VF s.a;change(yF n lv s.a).s.size<=100 at hsz;obtain⟨t,htt⟩:∃t,(yF n lv s.a).s=t:=⟨_,rfl⟩;obtain⟨v,hv⟩:∃v,ui t=v:=⟨_,rfl⟩;have hin:=λW=>NK t W (by rw[←htt];omega);rw[hv]at hin;have xP:=hid hin;obtain⟨d,hd⟩:∃d,s.d=d:=⟨_,rfl⟩;obtain⟨a,jC⟩:∃a,s.a=a:=⟨_,rfl⟩;obtain⟨a1,ha1⟩:∃a1,a+1=a1:=⟨_,rfl⟩;have hw:IntKind.i64.wrap ((a:Int)+1)=(a1:Int):=by rw[IntWalk.i64_in _ (by omega),←ha1];rfl
     rw[htt]at k1;rw[htt,hv,hd,jC,ha1,Bool.true_and]at hy4;rw[jC]at zby k1 hlt;rw[hla]at zbx;rw[hd]at c5;have q0:(0:Int)<=(a:Int):=by omega
     have q1:(a:Int)<(n:Int):=by omega
     have w0':(0:Int)<=(a1:Int):=by omega
     clear tV hla k0 htt hv hin hd jC hsz;by_cases hlt1:a1<n
     ·have hbt:=zjQ a1 hlt1
      have q1':a1<S.size:=by omega
      have u1:(a1:Int)<(S.size:Int):=by omega
      have u2:decide ((a1:Int)<(S.size:Int))=true:=decide_eq_true u1;have u3:decide (a1<S.size)=true:=decide_eq_true q1';obtain⟨y,Su⟩:∃y,zJ n lv a1=y:=⟨_,rfl⟩;rw[Su]at hbt hy4;have hbb:S[a1].toNat=y:=by rw[←zT q1',hbt]
      clear hbt Su ha1;by_cases yZ:y=40
      ·subst yZ
       by_cases hd2:d<200
       ·have u4:(d:Int)<200:=by omega
        have u5:decide ((d:Int)<200)=true:=decide_eq_true u4;obtain rfl:y4=v:=by rw[←hy4,decide_eq_true hd2];simp
        clear hy4;go_wp2
        go_quiet (first|with_reducible exact Calls.quiet_of (tX.out _)|with_reducible exact Calls.quiet_of_same (xP.out _))
        have XY:=hid (zB zn.out nq)
        go_wp2_with fail
        go_meet;case rel=>exact⟨rfl,XY.out⟩
       ·have u4:¬(d:Int)<200:=by omega
        have u5:decide ((d:Int)<200)=false:=decide_eq_false u4;obtain rfl:y4=false:=by rw[←hy4,decide_eq_false hd2,Bool.and_false]
        clear hy4;go_wp2
        go_quiet (exact Calls.quiet_of (tX.out _))
        have XY:=hid (zB zn.out nq)
        go_wp2_with fail
        go_meet;case rel=>exact⟨rfl,XY.out⟩
      ·have u4:((y:Int)==40)=false:=by simp;omega
       obtain rfl:y4=false:=by
        rw[←hy4,show(y==40)=false from by simpa using yZ];simp
       clear hy4 yZ;go_wp2
       go_quiet (exact Calls.quiet_of (tX.out _))
       have XY:=hid (zB zn.out nq)
       go_wp2_with fail
       go_meet;case rel=>exact⟨rfl,XY.out⟩
     ·have u1:¬(a1:Int)<(S.size:Int):=by omega
      have u2:decide ((a1:Int)<(S.size:Int))=false:=decide_eq_false u1;have u3:decide (a1<S.size)=false:=by simp;omega
      have e2:(zJ n lv a1==40)=false:=by
       have:zJ n lv a1≠40:=λe=>by
        have:=Xd (lv:=lv) (n:=n) (i:=a1) (by omega);omega
       simpa using this
      obtain rfl:y4=false:=by rw[←hy4,e2];simp
      clear hy4 e2 ha1;go_wp2
      go_quiet (exact Calls.quiet_of (tX.out _))
      have XY:=hid (zB zn.out nq)
      go_wp2_with fail
      go_meet;case rel=>exact⟨rfl,XY.out⟩
   case rest=>
    obtain⟨rfl,zbz⟩:=hcut;have XY:=hid zbz;clear zbx zby zbz hy4;obtain⟨wq4,zbA⟩:∃W,W=wc:=⟨_,rfl⟩;rw[←zbA]at XY ⊢;clear zbA
    cases y4 with
    |true=>
     have LG:=hid (zjO P8.out)
     go_wp2_with fail
     refine(Xh 16 XY.out (xH XY.out (by omega)) (λ_=>by have:=LG.out.2.2.2;omega)).mono ?_;rintro e w8 ⟨rfl,yj⟩;have yQ:Hid (Mk (kN n lv la lc S g) w0 P (zk 16 true s) w8):=hid yj;have Xe:=qC 16 true s;have ZV:(zk 16 true s).a=s.a:=rfl;clear yj;have hlt1:=Xd (lv:=lv) (n:=n) (i:=s.a) (by have:=LG.out.1;omega);have hlt2:=Xd (lv:=lv) (n:=n) (i:=s.a+1) (by have:=LG.out.2.2.1;omega);have lh:=hid (And.intro hlt1 hlt2);clear hlt1 hlt2
     go_wp2_with fail
     refine(qg.out 7 rfl _ _ yQ.out ⟨lh.out.1,xH yQ.out (by omega)⟩).mono ?_;rintro e w9 ⟨rfl,s9,xX,xY⟩;have NP:=zl xX (by rfl) (c:= -29) (of_decide_eq_true (by rfl));have Q8:s9.a=s.a+1:=by cases xX with|node h=>cases h;rfl
     have yl:=hid xY;have qW:=hid xX;clear xY xX;obtain⟨zbr,zbs,zbt,zbu,zbv,vZ⟩:=uM yl.out (by have:=lh.out.2;omega);have uB:=hid vZ;clear vZ;have WE:=xk s9;have Kw:(zA s9).a=s9.a+1:=rfl
     go_wp2_with fail
     refine(Xf.out _ _ uB.out (xH uB.out (by omega))).mono ?_;rintro e LZ ⟨rfl,s11,vM,jD⟩;have jV:=hid jD;have ZA:=hid vM;have L6:=vM.kp.a;have L8:=zl vM (by rfl) (c:=1) (of_decide_eq_true (by rfl));clear jD vM;obtain⟨z12,fZ⟩:∃z,isS n lv [110] s11=z:=⟨_,rfl⟩;have zjR:=hid (kC hS jV.out z12 fZ);have zoD:=hid fZ;clear fZ
     go_wp2_with fail
     refine zjR.out.mono ?_;rintro e w12 ⟨m12,rfl,zbB,s12,ZZ,Yp⟩;have uK:=hid Yp;have XX:=hid ZZ;have zoE:=hid zbB;have fM:=ZZ.kp.a;have fO:=zl ZZ (by rfl) (c:=0) (of_decide_eq_true (by rfl));clear Yp ZZ zbB;obtain⟨b,hb⟩:∃b,kZ n lv s12=b:=⟨_,rfl⟩;have hc:=PN.out _ _ uK.out;rw[hb]at hc;have HC:=hid hc;have HB:=hid hb;clear hb hc
     cases b with
     |true=>
      go_wp2_with fail
      refine(HC.out).mono ?_;rintro e YP ⟨rfl,kE⟩;have qJ:Hid (Mk (kN n lv la lc S g) w0 P s12 YP):=hid (by obtain⟨m,rfl⟩:=kE;exact zB uK.out m);clear kE
      go_wp2_with fail
      refine(VK.out _ _ qJ.out ⟨HB.out,by omega,by omega⟩).mono ?_;rintro e ry ⟨rfl,s14,Yo,uQ⟩;have uN:=hid uQ;have Gt:=hid Yo;have Dq:=Yo.kp.a;clear uQ Yo;have tY:Hid (Ev n lv (Nj n lv) (zk 16 true s) s14):=hid (.seq qW.out (.seq .zu (.seq ZA.out (.seq XX.out (.yes HB.out Gt.out)))))
      go_wp2_with fail
      refine(jO (k:=16) (s:=s) tY.out uN.out (λ_=>by have:=LG.out.2.2.2;omega)).mono ?_;rintro e WB ⟨rfl,qj⟩;have Yn:=hid qj;clear qj;go_wp2;refine bodyPost_ret (v:=.tuple #[]) (results_none rfl _ _ _) rfl ?_;exact⟨rfl,_,.no Vm.out (.yes P8.out (.node tY.out)),Yn.out⟩
     |false=>
      go_wp2_with fail
      refine(HC.out).mono ?_;rintro e YP ⟨rfl,kE⟩;have qJ:Hid (Mk (kN n lv la lc S g) w0 P s12 YP):=hid (by obtain⟨m,rfl⟩:=kE;exact zB uK.out m);clear kE
      go_wp2_with fail
      refine(uP.out _ _ qJ.out (xH qJ.out (by omega))).mono ?_;rintro e ry ⟨rfl,s14,Yo,uQ⟩;have uN:=hid uQ;have Gt:=hid Yo;have Dq:=Yo.kp.a;have NV:=zl Yo (by rfl) (c:=1) (of_decide_eq_true (by rfl));clear uQ Yo;have tY:Hid (Ev n lv (Nj n lv) (zk 16 true s) s14):=hid (.seq qW.out (.seq .zu (.seq ZA.out (.seq XX.out (.no HB.out Gt.out)))))
      go_wp2_with fail
      refine(jO (k:=16) (s:=s) tY.out uN.out (λ_=>by have:=LG.out.2.2.2;omega)).mono ?_;rintro e WB ⟨rfl,qj⟩;have Yn:=hid qj;clear qj;go_wp2;refine bodyPost_ret (v:=.tuple #[]) (results_none rfl _ _ _) rfl ?_;exact⟨rfl,_,.no Vm.out (.yes P8.out (.node tY.out)),Yn.out⟩
    |false=>
     go_wp2_with fail
     refine(Xh 5 XY.out (xH XY.out (by omega)) (λh=>absurd h (by decide))).mono ?_;rintro e w8 ⟨rfl,yj⟩;have yQ:Hid (Mk (kN n lv la lc S g) w0 P (zk 5 false s) w8):=hid yj;have Xe:=qC 5 false s;have ZV:(zk 5 false s).a=s.a:=rfl;clear yj;go_wp2
     go_loopw [4] (λv wr=>zjN n lv la lc S g w0 P (zk 5 false s) 60 v wr) (λ_ wr=>n+1-Zb g wr)
     case atStart=>exact⟨0,_,rfl,yQ.out,by omega,Nat.le_refl _,Nat.zero_le _,λ_ _ h=>h,λh=>absurd h (Nat.lt_irrefl 0)⟩
     case round=>
      obtain⟨m,r,rfl,hMr,hpr,har,hmr,hk1,hk2⟩:=hrel;have kW:=hMr.yM;have P5:=hMr.st.nle;change r.a<=n at kW;change n<=10000 at P5;have uI:=hid hk1;have vK:=hid hk2;have zq:=hid hMr;obtain⟨rr,hrr⟩:∃b,vG n lv r=b:=⟨_,rfl⟩;have hc:=Yi.out _ _ hMr;rw[hrr]at hc;have HC:=hid hc;have HRR:=hid hrr;clear hMr hk1 hk2 hc hrr
      cases rr with
      |true=>
       go_wp2_with fail
       refine(HC.out).mono ?_;rintro e w9 ⟨rfl,vz⟩;have yl:Hid (Mk (kN n lv la lc S g) w0 P r w9):=hid (by obtain⟨m,rfl⟩:=vz;exact zB zq.out m);clear vz
       go_wp2_with fail
       refine(qF.out _ _ yl.out ⟨HRR.out,by omega⟩).mono ?_;rintro e w10 ⟨rfl,s10,uf,vZ⟩;have uB:=hid vZ;have jq:=hid uf;have Kw:=uf.kp.a;have WE:=zl uf (by rfl) (c:= -28) (of_decide_eq_true (by rfl));clear vZ uf;go_wp2
       go_roundw
       case rel=>exact⟨m,_,rfl,uB.out,by omega,by omega,by(have:=jq.out.Vk;omega),λe s' h=>uI.out e _ (zar HRR.out jq.out h),λe s' h=>vK.out e _ (zat HRR.out jq.out h)⟩
       case measure=>
        have e1:=zZ uB.out;have e2:=zZ zq.out;have:=jq.out.Vk;have hmm:=uB.out.yM;change s10.a<=n at hmm;rw[e1,e2];omega
      |false=>
       go_wp2_with fail
       refine(HC.out).mono ?_;rintro e w9 ⟨rfl,vz⟩;have yl:Hid (Mk (kN n lv la lc S g) w0 P r w9):=hid (by obtain⟨m,rfl⟩:=vz;exact zB zq.out m);clear vz;obtain⟨YM,jE⟩:∃y,xh n lv r=y:=⟨_,rfl⟩;have Ym:=hid jE;have Ws:=Gn yl.out;have J7:=(VN yl.out).1;go_wp2
       go_cut [117]from 94 to 118 (λv wx=>v=.bool YM/\Mk (kN n lv la lc S g) w0 P r wx)
       case first=>
        by_cases NQ:r.a<n
        ·obtain⟨lb,lo,Wu,Wv,J8⟩:=Wh yl.out NQ
         have J9:=Je yl.out.st.VF r.a;change(yF n lv r.a).s.size<=100 at J9;obtain⟨a10,YN⟩:∃a,r.a=a:=⟨_,rfl⟩;obtain⟨k10,Qa⟩:∃k,(yF n lv r.a).k=k:=⟨_,rfl⟩;obtain⟨t10,Qb⟩:∃t,(yF n lv r.a).s=t:=⟨_,rfl⟩;have Qc:xh n lv r=decide (k10=6):=by unfold xh;rw[Qa]
         have NR:Zh n lv r=(decide (k10=6)&& ui t10):=by unfold Zh;rw[Qc,Qb]
         rw[Qa]at Wv;rw[Qb]at J8 J9;rw[YN]at J7 Wv J8;rw[Wu]at Ws;have zbc:(0:Int)<=(a10:Int):=by omega
         have Qd:(a10:Int)<(n:Int):=by omega
         have NS:decide (a10<n)=true:=by simp;omega
         have NT:decide ((a10:Int)<(n:Int))=true:=decide_eq_true Qd;clear Qa Qb Wu YN;rw[Qc]at jE;clear NR Qc J9 J8;by_cases YO:k10=6
         ·obtain rfl:YM=true:=by rw[←jE];exact decide_eq_true YO
          subst YO;clear jE;go_wp2
          go_quiet (fail)
          have xZ:=hid (zB yl.out nq)
          go_wp2_with fail
          go_meet;case rel=>exact⟨rfl,xZ.out⟩
         ·obtain rfl:YM=false:=by rw[←jE];exact decide_eq_false YO
          have zbd:(k10==6)=false:=by simpa using YO
          clear jE YO;go_wp2
          go_quiet (fail)
          have xZ:=hid (zB yl.out nq)
          go_wp2_with fail
          go_meet;case rel=>exact⟨rfl,xZ.out⟩
        ·obtain⟨a10,YN⟩:∃a,r.a=a:=⟨_,rfl⟩
         obtain rfl:YM=false:=by
          rw[←jE]
          cases e:xh n lv r with
          |false=>first|rfl|(unfold Zh;rw[e];rfl)
          |true=>have:=ZR e;omega
         rw[YN]at J7;have Qd:¬(a10:Int)<(n:Int):=by omega
         have NS:decide (a10<n)=false:=by simp;omega
         have NT:decide ((a10:Int)<(n:Int))=false:=decide_eq_false Qd;clear YN jE;go_wp2
         go_quiet (fail)
         have xZ:=hid (zB yl.out nq)
         go_wp2_with fail
         go_meet;case rel=>exact⟨rfl,xZ.out⟩
       case rest=>
        obtain⟨rfl,Wx⟩:=hcut;have xZ:=hid Wx;clear Ws J7 Wx jE;obtain⟨zbe,Wy⟩:∃W,W=wc:=⟨_,rfl⟩;rw[←Wy]at xZ ⊢;clear Wy
        cases YM with
        |true=>
         obtain⟨tZ,Kz⟩:∃y,(decide (m=0)&& decide (0<qN (yF n lv r.a).s))=y:=⟨_,rfl⟩;have zbC:=hid Kz;have zbD:=Gn xZ.out;have zbE:=(VN xZ.out).1;go_wp2
         go_cut [134]from 118 to 135 (λv wx=>v=.bool tZ/\Mk (kN n lv la lc S g) w0 P r wx)
         case first=>
          obtain⟨lb,lo,hla,k0,k1⟩:=Wh xZ.out (ZR Ym.out);have hsz:=Je xZ.out.st.VF r.a;change(yF n lv r.a).s.size<=100 at hsz;have hlt:=ZR Ym.out;obtain⟨a,jC⟩:∃a,r.a=a:=⟨_,rfl⟩;obtain⟨t,htt⟩:∃t,(yF n lv r.a).s=t:=⟨_,rfl⟩;rw[htt]at k1 hsz Kz;rw[jC]at zbE k1 hlt;rw[hla]at zbD;have q0:(0:Int)<=(a:Int):=by omega
          have q1:(a:Int)<(n:Int):=by omega
          have HAS:=hid (λW=>zjS t W (by omega));obtain⟨z,hz⟩:∃z,qN t=z:=⟨_,rfl⟩;rw[hz]at HAS Kz;clear hla htt jC k0 hz;by_cases hm0:m=0
          ·subst hm0
           by_cases hz0:0<z
           ·obtain rfl:tZ=true:=by rw[←Kz];simp[hz0]
            have u1:(0:Int)<(z:Int):=by omega
            have u2:decide (0<z)=true:=decide_eq_true hz0;clear Kz;go_wp2
            go_quiet (exact Calls.quiet_of_same (HAS.out _))
            have Qm:=hid (zB xZ.out nq)
            go_wp2_with fail
            go_meet;case rel=>exact⟨rfl,Qm.out⟩
           ·obtain rfl:tZ=false:=by rw[←Kz];simp[hz0]
            have u1:¬(0:Int)<(z:Int):=by omega
            have u2:decide (0<z)=false:=decide_eq_false hz0;clear Kz;go_wp2
            go_quiet (exact Calls.quiet_of_same (HAS.out _))
            have Qm:=hid (zB xZ.out nq)
            go_wp2_with fail
            go_meet;case rel=>exact⟨rfl,Qm.out⟩
          ·obtain rfl:tZ=false:=by rw[←Kz];simp[hm0]
           have u1:((m:Int)==0)=false:=by simp;omega
           clear Kz;go_wp2
           go_quiet (fail)
           have Qm:=hid (zB xZ.out nq)
           go_wp2_with fail
           go_meet;case rel=>exact⟨rfl,Qm.out⟩
         case rest=>
          obtain⟨rfl,zbF⟩:=hcut;have Qm:=hid zbF;clear zbD zbE zbF Kz;obtain⟨zoF,zbG⟩:∃W,W=wc:=⟨_,rfl⟩;rw[←zbG]at Qm ⊢;clear zbG
          cases tZ with
          |true=>
           obtain⟨hm0,hz0⟩:m=0/\decide (0<qN (yF n lv r.a).s)=true:=by
            have h:=zbC.out;simp only[Bool.and_eq_true,decide_eq_true_eq]at h;exact⟨h.1,decide_eq_true h.2⟩
           have HA:=hid (PK (lv:=lv) true true Ym.out hz0);have zoG:=hid hm0;clear hz0;subst hm0
           go_wp2_with fail
           refine(qg.out 6 rfl _ _ Qm.out ⟨ZR Ym.out,xH Qm.out (by omega)⟩).mono ?_;rintro e w12 ⟨rfl,s12,ZZ,Yp⟩;have uK:=hid Yp;have XX:=hid ZZ;have fM:=ZZ.kp.a;have fO:=zl ZZ (by rfl) (c:= -29) (of_decide_eq_true (by rfl));clear Yp ZZ;go_wp2
           go_roundw
           case rel=>exact⟨0,_,rfl,uK.out,by omega,by omega,by(have:=XX.out.word_lt;omega),λ_ s' h=>uI.out (by trivial) _ (zas HRR.out HA.out XX.out h),(λh=>absurd h (Nat.lt_irrefl 0))⟩
           case measure=>
            have e1:=zZ uK.out;have e2:=zZ zq.out;have:=XX.out.word_lt;have hmm:=uK.out.yM;change s12.a<=n at hmm;rw[e1,e2];omega
          |false=>
           have hwm:IntKind.i64.wrap ((m:Int)+1)=((m+1:Nat):Int):=by rw[IntWalk.i64_in _ (by omega)];rfl
           have HF:Hid (∀s',Ev n lv (QZ n lv) r s'->Ev n lv (Yg n lv) (zk 5 false s) s'):=hid (by
            by_cases hm0:m=0
            ·have h:=zbC.out
             have hz0:decide (0<qN (yF n lv r.a).s)=false:=by
              rw[hm0]at h;simpa using h
             exact λs' h=>uI.out hm0 _ (PH HRR.out (PK (lv:=lv) true false Ym.out hz0) h)
            ·exact λs' h=>vK.out (by omega) _ h)
           go_wp2_with fail
           refine(qg.out 7 rfl _ _ Qm.out ⟨ZR Ym.out,xH Qm.out (by omega)⟩).mono ?_;rintro e w12 ⟨rfl,s12,ZZ,Yp⟩;have uK:=hid Yp;have XX:=hid ZZ;have fM:=ZZ.kp.a;have fO:=zl ZZ (by rfl) (c:= -29) (of_decide_eq_true (by rfl));clear Yp ZZ;go_wp2
           go_roundw
           case rel=>exact⟨m+1,_,rfl,uK.out,by omega,by omega,by(have:=XX.out.word_lt;omega),(λh=>absurd h (Nat.succ_ne_zero m)),λ_ s' h=>HF.out _ (Ec HRR.out Ym.out XX.out h)⟩
           case measure=>
            have e1:=zZ uK.out;have e2:=zZ zq.out;have:=XX.out.word_lt;have hmm:=uK.out.yM;change s12.a<=n at hmm;rw[e1,e2];omega
        |false=>
         have jq:Hid (Ev n lv (Yg n lv) (zk 5 false s) r):=hid (by
          by_cases hm0:m=0
          ·exact uI.out hm0 _ (PH HRR.out (PK (lv:=lv) false _ Ym.out rfl) (PI HRR.out Ym.out))
          ·exact vK.out (by omega) _ (PI HRR.out Ym.out))
         have zbH:Hid (Ev n lv (Yg n lv) (zk 5 false s) r):=hid (jq.out)
         go_wp2_with fail
         refine(jO (k:=5) (s:=s) zbH.out xZ.out (λh=>absurd h (by decide))).mono ?_;rintro e w12 ⟨rfl,Yp⟩;have uK:=hid Yp;clear Yp;go_wp2;try rw[Exit.noGoto_normal]
         go_end0
         exact⟨rfl,_,.no Vm.out (.no P8.out (.yes HCM.out (.node zbH.out))),uK.out⟩
end
section
variable{n:Nat}{lv:Nat->Lf}{la:Option Addr}{lc g:Nat}{S:ByteArray}{w0:World}{P:Nat->Prop}
theorem zjT(hS:Hid (qi n lv S)){a0:Nat}(HL:YL n lv la lc S g a0):yT (kN n lv la lc S g) w0 P 74 #[.pointer (some ⟨g,0,none⟩)] (dQ n lv) (λs=>a0<=s.a/\zC s<=12):=by
 intro w s hM ⟨ha,hp⟩;have VK:=hid (zjP (w0:=w0) (P:=P) hS HL);have HM:=hid hM;clear hM;go_enter func74,ntmps74
 go_wp2_with fail
 refine(Xh 4 HM.out (xH HM.out (by omega)) (λh=>absurd h (by decide))).mono ?_;rintro e w1 ⟨rfl,hM1⟩;have zt:Hid (Mk (kN n lv la lc S g) w0 P (zk 4 false s) w1):=hid hM1;have hp1:=qC 4 false s;have ha1:(zk 4 false s).a=s.a:=rfl;clear hM1;obtain⟨b2,hb2⟩:∃b,isS n lv [33] (zk 4 false s)=b:=⟨_,rfl⟩;have HC2:=hid (vH hS.out ⟨#[33]⟩ [33] (by decide+kernel) zt.out b2 hb2);have HB2:=hid hb2;clear hb2
 cases b2 with
 |true=>
  go_wp2_with fail
  refine(HC2.out).mono ?_;rintro e w3 ⟨rfl,qH⟩;have zn:Hid (Mk (kN n lv la lc S g) w0 P (zk 4 false s) w3):=hid (by obtain⟨m,rfl⟩:=qH;exact zB zt.out m);clear qH;obtain⟨Wj,Gs,Wl,Wn,hw4,zH⟩:=uM zn.out (yV (lv:=lv) HB2.out (by decide));have zK:=hid zH;clear zH;have qf:=xk (zk 4 false s);have jM:(zA (zk 4 false s)).a=(zk 4 false s).a+1:=rfl
  go_wp2_with fail
  refine(VK.out _ _ zK.out ⟨by omega,by omega⟩).mono ?_;rintro e w5 ⟨rfl,s5,zW,yD⟩;have zX:=hid yD;have vX:=hid zW;have YJ:=zW.kp.a;have jU:=zl zW (by rfl) (c:=1) (of_decide_eq_true (by rfl));clear yD zW;go_wp2
  go_loopw [] (λwr=>Rl (kN n lv la lc S g) w0 P (.rep (isS n lv [124]) (.seq .zu (.seq (um n lv) (gX n lv))) qA .skip) s5 15 wr) (λwr=>n+1-Zb g wr)
  case atStart=>exact⟨s5,zX.out,by omega,Nat.le_refl _,λ_ h=>h⟩
  case round=>
   obtain⟨r,hMr,hpr,har,hk⟩:=hrel;have HK:=hid hk;have zq:=hid hMr;clear hk hMr;obtain⟨b6,hb6⟩:∃b,isS n lv [124] r=b:=⟨_,rfl⟩;have Lu:=hid (vH hS.out ⟨#[124]⟩ [124] (by decide+kernel) zq.out b6 hb6);have Qn:=hid hb6;clear hb6
   cases b6 with
   |true=>
    go_wp2_with fail
    refine(Lu.out).mono ?_;rintro e w7 ⟨rfl,uT⟩;have yJ:Hid (Mk (kN n lv la lc S g) w0 P r w7):=hid (by obtain⟨m,rfl⟩:=uT;exact zB zq.out m);clear uT;obtain⟨ap8,ax8,zjU,zjV,hw8,yj⟩:=uM yJ.out (yV (lv:=lv) Qn.out (by decide));have yQ:=hid yj;clear yj;have Xe:=xk r;have ZV:(zA r).a=r.a+1:=rfl;obtain⟨z9,rG⟩:∃z,isS n lv [110] (zA r)=z:=⟨_,rfl⟩;have Fa:=hid (kC hS yQ.out z9 rG);have zjW:=hid rG;clear rG
    go_wp2_with fail
    refine Fa.out.mono ?_;rintro e w9 ⟨m9,rfl,Tc,s9,xX,xY⟩;have yl:=hid xY;have qW:=hid xX;have zjX:=hid Tc;have Q8:=xX.kp.a;have NP:=zl xX (by rfl) (c:=0) (of_decide_eq_true (by rfl));clear xY xX Tc
    go_wp2_with fail
    refine(VK.out _ _ yl.out ⟨by omega,by omega⟩).mono ?_;rintro e w10 ⟨rfl,s10,uf,vZ⟩;have uB:=hid vZ;have jq:=hid uf;have Kw:=uf.kp.a;have WE:=zl uf (by rfl) (c:=1) (of_decide_eq_true (by rfl));clear vZ uf;go_wp2
    go_roundw
    case rel=>exact⟨_,uB.out,by omega,by omega,λs' he=>HK.out s' (.go Qn.out (.seq .zu (.seq qW.out jq.out)) rfl .skip he)⟩
    case measure=>
     have e1:=zZ uB.out;have e2:=zZ zq.out;have:=yV (lv:=lv) Qn.out (by decide);have hmm:=uB.out.yM;change s10.a<=n at hmm;rw[e1,e2];omega
   |false=>
    go_wp2_with fail
    refine(Lu.out).mono ?_;rintro e w7 ⟨rfl,uT⟩;have yJ:Hid (Mk (kN n lv la lc S g) w0 P r w7):=hid (by obtain⟨m,rfl⟩:=uT;exact zB zq.out m);clear uT;have jl:=hid (HK.out _ (.stop Qn.out));have Td:Hid (Ev n lv (Nk n lv) (zk 4 false s) r):=hid (.seq (.yes HB2.out .zu) (.seq vX.out jl.out))
    go_wp2_with fail
    refine(jO (k:=4) (s:=s) Td.out yJ.out (λh=>absurd h (by decide))).mono ?_;rintro e w8 ⟨rfl,yj⟩;have yQ:=hid yj;clear yj;go_wp2
    go_end0
    exact⟨rfl,_,.node Td.out,yQ.out⟩
 |false=>
  go_wp2_with fail
  refine(HC2.out).mono ?_;rintro e w3 ⟨rfl,qH⟩;have zn:Hid (Mk (kN n lv la lc S g) w0 P (zk 4 false s) w3):=hid (by obtain⟨m,rfl⟩:=qH;exact zB zt.out m);clear qH
  go_wp2_with fail
  refine(VK.out _ _ zn.out ⟨by omega,by omega⟩).mono ?_;rintro e w5 ⟨rfl,s5,zW,yD⟩;have zX:=hid yD;have vX:=hid zW;have YJ:=zW.kp.a;have jU:=zl zW (by rfl) (c:=1) (of_decide_eq_true (by rfl));clear yD zW;go_wp2
  go_loopw [] (λwr=>Rl (kN n lv la lc S g) w0 P (.rep (isS n lv [124]) (.seq .zu (.seq (um n lv) (gX n lv))) qA .skip) s5 15 wr) (λwr=>n+1-Zb g wr)
  case atStart=>exact⟨s5,zX.out,by omega,Nat.le_refl _,λ_ h=>h⟩
  case round=>
   obtain⟨r,hMr,hpr,har,hk⟩:=hrel;have HK:=hid hk;have zq:=hid hMr;clear hk hMr;obtain⟨b6,hb6⟩:∃b,isS n lv [124] r=b:=⟨_,rfl⟩;have Lu:=hid (vH hS.out ⟨#[124]⟩ [124] (by decide+kernel) zq.out b6 hb6);have Qn:=hid hb6;clear hb6
   cases b6 with
   |true=>
    go_wp2_with fail
    refine(Lu.out).mono ?_;rintro e w7 ⟨rfl,uT⟩;have yJ:Hid (Mk (kN n lv la lc S g) w0 P r w7):=hid (by obtain⟨m,rfl⟩:=uT;exact zB zq.out m);clear uT;obtain⟨ap8,ax8,zjU,zjV,hw8,yj⟩:=uM yJ.out (yV (lv:=lv) Qn.out (by decide));have yQ:=hid yj;clear yj;have Xe:=xk r;have ZV:(zA r).a=r.a+1:=rfl;obtain⟨z9,rG⟩:∃z,isS n lv [110] (zA r)=z:=⟨_,rfl⟩;have Fa:=hid (kC hS yQ.out z9 rG);have zjW:=hid rG;clear rG
    go_wp2_with fail
    refine Fa.out.mono ?_;rintro e w9 ⟨m9,rfl,Tc,s9,xX,xY⟩;have yl:=hid xY;have qW:=hid xX;have zjX:=hid Tc;have Q8:=xX.kp.a;have NP:=zl xX (by rfl) (c:=0) (of_decide_eq_true (by rfl));clear xY xX Tc
    go_wp2_with fail
    refine(VK.out _ _ yl.out ⟨by omega,by omega⟩).mono ?_;rintro e w10 ⟨rfl,s10,uf,vZ⟩;have uB:=hid vZ;have jq:=hid uf;have Kw:=uf.kp.a;have WE:=zl uf (by rfl) (c:=1) (of_decide_eq_true (by rfl));clear vZ uf;go_wp2
    go_roundw
    case rel=>exact⟨_,uB.out,by omega,by omega,λs' he=>HK.out s' (.go Qn.out (.seq .zu (.seq qW.out jq.out)) rfl .skip he)⟩
    case measure=>
     have e1:=zZ uB.out;have e2:=zZ zq.out;have:=yV (lv:=lv) Qn.out (by decide);have hmm:=uB.out.yM;change s10.a<=n at hmm;rw[e1,e2];omega
   |false=>
    go_wp2_with fail
    refine(Lu.out).mono ?_;rintro e w7 ⟨rfl,uT⟩;have yJ:Hid (Mk (kN n lv la lc S g) w0 P r w7):=hid (by obtain⟨m,rfl⟩:=uT;exact zB zq.out m);clear uT;have jl:=hid (HK.out _ (.stop Qn.out));have Td:Hid (Ev n lv (Nk n lv) (zk 4 false s) r):=hid (.seq (.no HB2.out .skip) (.seq vX.out jl.out))
    go_wp2_with fail
    refine(jO (k:=4) (s:=s) Td.out yJ.out (λh=>absurd h (by decide))).mono ?_;rintro e w8 ⟨rfl,yj⟩;have yQ:=hid yj;clear yj;go_wp2
    go_end0
    exact⟨rfl,_,.node Td.out,yQ.out⟩
theorem zjY(hS:Hid (qi n lv S)){a0:Nat}(HL:YL n lv la lc S g a0):yT (kN n lv la lc S g) w0 P 46 #[.pointer (some ⟨g,0,none⟩)] (dR n lv) (λs=>a0<=s.a/\zC s<=11):=by
 intro w s hM ⟨ha,hp⟩;have uP:=hid (Dn (n:=n) (lv:=lv) (la:=la) (lc:=lc) (S:=S) (g:=g) (w0:=w0) (P:=P));have YK:=hid (λw s (h:Mk (kN n lv la lc S g) w0 P s w)=>NI hS.out w0 P w s h);have gm:=hid (zjT (w0:=w0) (P:=P) hS HL);have HM:=hid hM;clear hM;go_enter func46,ntmps46
 go_wp2_with fail
 refine(Xh 3 HM.out (xH HM.out (by omega)) (λh=>absurd h (by decide))).mono ?_;rintro e w1 ⟨rfl,hM1⟩;have zt:Hid (Mk (kN n lv la lc S g) w0 P (zk 3 false s) w1):=hid hM1;have hp1:=qC 3 false s;have ha1:(zk 3 false s).a=s.a:=rfl;clear hM1
 go_wp2_with fail
 refine(gm.out _ _ zt.out ⟨by omega,by omega⟩).mono ?_;rintro e w2 ⟨rfl,s2,he2,hM2⟩;have zo:=hid hM2;have HE2:=hid he2;have ha2:=he2.kp.a;have hp2:=zl he2 (by rfl) (c:=2) (of_decide_eq_true (by rfl));clear hM2 he2;go_wp2
 go_loopw [] (λwr=>Rl (kN n lv la lc S g) w0 P (.rep (isS n lv [97,111]) (.seq .zu (.seq (um n lv) (.ite (xI n lv) (dQ n lv) Vj))) qA .skip) s2 14 wr) (λwr=>n+1-Zb g wr)
 case atStart=>exact⟨s2,zo.out,by omega,Nat.le_refl _,λ_ h=>h⟩
 case round=>
  obtain⟨r,hMr,hpr,har,hk⟩:=hrel;have HK:=hid hk;have zq:=hid hMr;clear hk hMr;obtain⟨b3,hb3⟩:∃b,isS n lv [97,111] r=b:=⟨_,rfl⟩;have jH:=hid (vH hS.out ⟨#[97,111]⟩ [97,111] (by decide+kernel) zq.out b3 hb3);have HB3:=hid hb3;clear hb3
  cases b3 with
  |true=>
   go_wp2_with fail
   refine(jH.out).mono ?_;rintro e w4 ⟨rfl,hm4⟩;have zK:Hid (Mk (kN n lv la lc S g) w0 P r w4):=hid (by obtain⟨m,rfl⟩:=hm4;exact zB zq.out m);clear hm4;obtain⟨Ey,Ez,EC,ED,hw5,yD⟩:=uM zK.out (yV (lv:=lv) HB3.out (by decide));have zX:=hid yD;clear yD;have jU:=xk r;have YJ:(zA r).a=r.a+1:=rfl;obtain⟨z6,Zf⟩:∃z,isS n lv [110] (zA r)=z:=⟨_,rfl⟩;have Tf:=hid (kC hS zX.out z6 Zf);have Ti:=hid Zf;clear Zf
   go_wp2_with fail
   refine Tf.out.mono ?_;rintro e w6 ⟨m6,rfl,WG,s6,zD,zG⟩;have zL:=hid zG;have y8:=hid zD;have Fb:=hid WG;have ha6:=zD.kp.a;have ku:=zl zD (by rfl) (c:=0) (of_decide_eq_true (by rfl));clear zG zD WG;obtain⟨b,hb⟩:∃b,xI n lv s6=b:=⟨_,rfl⟩;have hc:=YK.out _ _ zL.out;rw[hb]at hc;have HC:=hid hc;have HB:=hid hb;clear hb hc
   cases b with
   |true=>
    go_wp2_with fail
    refine(HC.out).mono ?_;rintro e w7 ⟨rfl,uT⟩;have yJ:Hid (Mk (kN n lv la lc S g) w0 P s6 w7):=hid (by obtain⟨m,rfl⟩:=uT;exact zB zL.out m);clear uT
    go_wp2_with fail
    refine(gm.out _ _ yJ.out ⟨by omega,by omega⟩).mono ?_;rintro e w8 ⟨rfl,s8,zS,yj⟩;have yQ:=hid yj;have vJ:=hid zS;have ZV:=zS.kp.a;have Xe:=zl zS (by rfl) (c:=2) (of_decide_eq_true (by rfl));clear yj zS;go_wp2
    go_roundw
    case rel=>exact⟨_,yQ.out,by omega,by omega,λs' he=>HK.out s' (.go HB3.out (.seq .zu (.seq y8.out (.yes HB.out vJ.out))) rfl .skip he)⟩
    case measure=>
     have e1:=zZ yQ.out;have e2:=zZ zq.out;have:=yV (lv:=lv) HB3.out (by decide);have hmm:=yQ.out.yM;change s8.a<=n at hmm;rw[e1,e2];omega
   |false=>
    go_wp2_with fail
    refine(HC.out).mono ?_;rintro e w7 ⟨rfl,uT⟩;have yJ:Hid (Mk (kN n lv la lc S g) w0 P s6 w7):=hid (by obtain⟨m,rfl⟩:=uT;exact zB zL.out m);clear uT
    go_wp2_with fail
    refine(uP.out _ _ yJ.out (xH yJ.out (by omega))).mono ?_;rintro e w8 ⟨rfl,s8,zS,yj⟩;have yQ:=hid yj;have vJ:=hid zS;have ZV:=zS.kp.a;have Xe:=zl zS (by rfl) (c:=1) (of_decide_eq_true (by rfl));clear yj zS;go_wp2
    go_roundw
    case rel=>exact⟨_,yQ.out,by omega,by omega,λs' he=>HK.out s' (.go HB3.out (.seq .zu (.seq y8.out (.no HB.out vJ.out))) rfl .skip he)⟩
    case measure=>
     have e1:=zZ yQ.out;have e2:=zZ zq.out;have:=yV (lv:=lv) HB3.out (by decide);have hmm:=yQ.out.yM;change s8.a<=n at hmm;rw[e1,e2];omega
  |false=>
   go_wp2_with fail
   refine(jH.out).mono ?_;rintro e w4 ⟨rfl,hm4⟩;have zK:Hid (Mk (kN n lv la lc S g) w0 P r w4):=hid (by obtain⟨m,rfl⟩:=hm4;exact zB zq.out m);clear hm4;have xA:=hid (HK.out _ (.stop HB3.out));have zbI:Hid (Ev n lv (Pm n lv) (zk 3 false s) r):=hid (.seq HE2.out xA.out)
   go_wp2_with fail
   refine(jO (k:=3) (s:=s) zbI.out zK.out (λh=>absurd h (by decide))).mono ?_;rintro e w5 ⟨rfl,yD⟩;have zX:=hid yD;clear yD;go_wp2
   go_end0
   exact⟨rfl,_,.node zbI.out,zX.out⟩
theorem zbJ(hS:Hid (qi n lv S)){a0:Nat}(HL:YL n lv la lc S g a0):yT (kN n lv la lc S g) w0 P 34 #[.pointer (some ⟨g,0,none⟩)] (Q3 n lv) (λs=>a0<=s.a/\zC s<=10):=by
 intro w s hM ⟨ha,hp⟩;have YK:=hid (λw s (h:Mk (kN n lv la lc S g) w0 P s w)=>NI hS.out w0 P w s h);have Dc:=hid (zjY (w0:=w0) (P:=P) hS HL);have HM:=hid hM;clear hM;go_enter func34,ntmps34
 go_wp2_with fail
 refine(Xh 2 HM.out (xH HM.out (by omega)) (λh=>absurd h (by decide))).mono ?_;rintro e w1 ⟨rfl,hM1⟩;have zt:Hid (Mk (kN n lv la lc S g) w0 P (zk 2 false s) w1):=hid hM1;have hp1:=qC 2 false s;have ha1:(zk 2 false s).a=s.a:=rfl;clear hM1
 go_wp2_with fail
 refine(Dc.out _ _ zt.out ⟨by omega,by omega⟩).mono ?_;rintro e w2 ⟨rfl,s2,he2,hM2⟩;have zo:=hid hM2;have HE2:=hid he2;have ha2:=he2.kp.a;have hp2:=zl he2 (by rfl) (c:=3) (of_decide_eq_true (by rfl));clear hM2 he2;go_wp2
 go_loopw [] (λwr=>Rl (kN n lv la lc S g) w0 P (.rep (isS n lv [59,38,110]) (.seq .zu (um n lv)) (xI n lv) (dR n lv)) s2 14 wr) (λwr=>n+1-Zb g wr)
 case atStart=>exact⟨s2,zo.out,by omega,Nat.le_refl _,λ_ h=>h⟩
 case round=>
  obtain⟨r,hMr,hpr,har,hk⟩:=hrel;have HK:=hid hk;have zq:=hid hMr;clear hk hMr;obtain⟨b3,hb3⟩:∃b,isS n lv [59,38] r=b:=⟨_,rfl⟩;have jH:=hid (vH hS.out ⟨#[59,38]⟩ [59,38] (by decide+kernel) zq.out b3 hb3);have HB3:=hid hb3;clear hb3
  cases b3 with
  |true=>
   have h2:isS n lv [59,38,110] r=true:=by
    have:=HB3.out;unfold isS at this ⊢;simp only[List.contains_cons,List.contains_nil,Bool.or_false]at this ⊢;rw[←Bool.or_assoc,this,Bool.true_or]
   have H2:=hid h2;clear h2
   go_wp2_with fail
   refine(jH.out).mono ?_;rintro e w4 ⟨rfl,hm4⟩;have zK:Hid (Mk (kN n lv la lc S g) w0 P r w4):=hid (by obtain⟨m,rfl⟩:=hm4;exact zB zq.out m);clear hm4;obtain⟨Ey,Ez,EC,ED,hw5,yD⟩:=uM zK.out (yV (lv:=lv) HB3.out (by decide));have zX:=hid yD;clear yD;have jU:=xk r;have YJ:(zA r).a=r.a+1:=rfl;obtain⟨z6,Zf⟩:∃z,isS n lv [110] (zA r)=z:=⟨_,rfl⟩;have Tf:=hid (kC hS zX.out z6 Zf);have Ti:=hid Zf;clear Zf
   go_wp2_with fail
   refine Tf.out.mono ?_;rintro e w6 ⟨m6,rfl,WG,s6,zD,zG⟩;have zL:=hid zG;have y8:=hid zD;have Fb:=hid WG;have ha6:=zD.kp.a;have ku:=zl zD (by rfl) (c:=0) (of_decide_eq_true (by rfl));clear zG zD WG;have Fe:r.a<s6.a:=by omega
   have VH:Hid (Ev n lv (.seq .zu (um n lv)) r s6):=hid (.seq .zu y8.out);obtain⟨b,hb⟩:∃b,xI n lv s6=b:=⟨_,rfl⟩;have hc:=YK.out _ _ zL.out;rw[hb]at hc;have HC:=hid hc;have HB:=hid hb;clear hb hc
   cases b with
   |false=>
    go_wp2_with fail
    refine(HC.out).mono ?_;rintro e w7 ⟨rfl,uT⟩;have yJ:Hid (Mk (kN n lv la lc S g) w0 P s6 w7):=hid (by obtain⟨m,rfl⟩:=uT;exact zB zL.out m);clear uT;have vJ:=hid (HK.out _ (.out H2.out VH.out HB.out));have WH:Hid (Ev n lv (wR n lv) (zk 2 false s) s6):=hid (.seq HE2.out vJ.out)
    go_wp2_with fail
    refine(jO (k:=2) (s:=s) WH.out yJ.out (λh=>absurd h (by decide))).mono ?_;rintro e w9 ⟨rfl,xY⟩;have yl:=hid xY;clear xY;go_wp2;try rw[Exit.noGoto_normal]
    go_end0
    exact⟨rfl,_,.node WH.out,yl.out⟩
   |true=>
    go_wp2_with fail
    refine(HC.out).mono ?_;rintro e w7 ⟨rfl,uT⟩;have yJ:Hid (Mk (kN n lv la lc S g) w0 P s6 w7):=hid (by obtain⟨m,rfl⟩:=uT;exact zB zL.out m);clear uT
    go_wp2_with fail
    refine(Dc.out _ _ yJ.out ⟨by omega,by omega⟩).mono ?_;rintro e w8 ⟨rfl,s8,zS,yj⟩;have yQ:=hid yj;have vJ:=hid zS;have ZV:=zS.kp.a;have Xe:=zl zS (by rfl) (c:=3) (of_decide_eq_true (by rfl));clear yj zS;go_wp2
    go_roundw
    case rel=>exact⟨_,yQ.out,by omega,by omega,λs' he=>HK.out s' (.go H2.out VH.out HB.out vJ.out he)⟩
    case measure=>
     have e1:=zZ yQ.out;have e2:=zZ zq.out;have:=Fe;have hmm:=yQ.out.yM;change s8.a<=n at hmm;rw[e1,e2];omega
  |false=>
   go_wp2_with fail
   refine(jH.out).mono ?_;rintro e w4 ⟨rfl,hm4⟩;have zK:Hid (Mk (kN n lv la lc S g) w0 P r w4):=hid (by obtain⟨m,rfl⟩:=hm4;exact zB zq.out m);clear hm4;obtain⟨z6,Zf⟩:∃z,isS n lv [110] r=z:=⟨_,rfl⟩;have Tf:=hid (kC hS zK.out z6 Zf);have Ti:=hid Zf;clear Zf
   go_wp2_with fail
   refine Tf.out.mono ?_;rintro e w6 ⟨m6,rfl,WG,s6,zD,zG⟩;have zL:=hid zG;have y8:=hid zD;have Fb:=hid WG;have ha6:=zD.kp.a;have ku:=zl zD (by rfl) (c:=0) (of_decide_eq_true (by rfl));clear zG zD WG;have Zf:=Ti.out;have h2:isS n lv [59,38,110] r=z6:=by
    have:=HB3.out;unfold isS at this Zf ⊢;simp only[List.contains_cons,List.contains_nil,Bool.or_false]at this Zf ⊢;rw[←Bool.or_assoc,this,Zf,Bool.false_or]
   have H2:=hid h2;clear h2 Zf;rcases Fb.out with⟨e1,e2⟩|⟨e1,e2⟩
   ·subst e1
    subst e2;have hs6:s6=r:=Pz y8.out Ti.out;subst hs6;have vJ:=hid (HK.out _ (.stop H2.out));have WH:Hid (Ev n lv (wR n lv) (zk 2 false s) s6):=hid (.seq HE2.out vJ.out)
    go_wp2_with fail
    refine(jO (k:=2) (s:=s) WH.out zL.out (λh=>absurd h (by decide))).mono ?_;rintro e w9 ⟨rfl,xY⟩;have yl:=hid xY;clear xY;go_wp2;try rw[Exit.noGoto_normal]
    go_end0
    exact⟨rfl,_,.node WH.out,yl.out⟩
   ·subst e2
    have m1:((m6:Int)==0)=false:=by simp;omega
    have VH:Hid (Ev n lv (.seq .zu (um n lv)) r s6):=hid (Py y8.out Ti.out);have Fe:r.a<s6.a:=by
     cases VH.out with
     |seq h1 h2=>
      cases h1;exact h2.kp.a
    have zoH:=zl VH.out (by rfl) (c:= -30) (of_decide_eq_true (by rfl));obtain⟨b,hb⟩:∃b,xI n lv s6=b:=⟨_,rfl⟩;have hc:=YK.out _ _ zL.out;rw[hb]at hc;have HC:=hid hc;have HB:=hid hb;clear hb hc
    cases b with
    |false=>
     go_wp2_with fail
     refine(HC.out).mono ?_;rintro e w7 ⟨rfl,uT⟩;have yJ:Hid (Mk (kN n lv la lc S g) w0 P s6 w7):=hid (by obtain⟨m,rfl⟩:=uT;exact zB zL.out m);clear uT;have vJ:=hid (HK.out _ (.out H2.out VH.out HB.out));have WH:Hid (Ev n lv (wR n lv) (zk 2 false s) s6):=hid (.seq HE2.out vJ.out)
     go_wp2_with fail
     refine(jO (k:=2) (s:=s) WH.out yJ.out (λh=>absurd h (by decide))).mono ?_;rintro e w9 ⟨rfl,xY⟩;have yl:=hid xY;clear xY;go_wp2;try rw[Exit.noGoto_normal]
     go_end0
     exact⟨rfl,_,.node WH.out,yl.out⟩
    |true=>
     go_wp2_with fail
     refine(HC.out).mono ?_;rintro e w7 ⟨rfl,uT⟩;have yJ:Hid (Mk (kN n lv la lc S g) w0 P s6 w7):=hid (by obtain⟨m,rfl⟩:=uT;exact zB zL.out m);clear uT
     go_wp2_with fail
     refine(Dc.out _ _ yJ.out ⟨by omega,by omega⟩).mono ?_;rintro e w8 ⟨rfl,s8,zS,yj⟩;have yQ:=hid yj;have vJ:=hid zS;have ZV:=zS.kp.a;have Xe:=zl zS (by rfl) (c:=3) (of_decide_eq_true (by rfl));clear yj zS;go_wp2
     go_roundw
     case rel=>exact⟨_,yQ.out,by omega,by omega,λs' he=>HK.out s' (.go H2.out VH.out HB.out vJ.out he)⟩
     case measure=>
      have e1:=zZ yQ.out;have e2:=zZ zq.out;have:=Fe;have hmm:=yQ.out.yM;change s8.a<=n at hmm;rw[e1,e2];omega
theorem zjZ(hS:Hid (qi n lv S))(a0:Nat):YL n lv la lc S g a0:=by
 obtain⟨m,hm⟩:∃m,n-a0=m:=⟨_,rfl⟩
 induction m using Nat.strongRecOn generalizing a0 with
 |_ m ih=>
  intro w0 P w s hM ⟨ha,hp,hq⟩;have hn:=Pn hp;have hs:YL n lv la lc S g s.a:=ih (n-s.a) (by omega) s.a rfl;exact zbJ hS hs w s hM ⟨Nat.le_refl _,hq⟩
end
end Go.Proofs.YtkolpaonccmgiaaGreatDoor.Q

/- What the document's own loop and cases of layer 13 -/
import Derived.Test.YtkolpaonccmgiaaGreatDoorSf
namespace Go.Proofs.YtkolpaonccmgiaaGreatDoor.Q
set_option linter.unusedSectionVars false
set_option linter.unusedVariables false
open Lib(hid)
set_option maxHeartbeats 16000000
set_option maxRecDepth 100000
open Go.RowKit
section
variable{n:Nat}{lv:Nat->Lf}{la:Option Addr}{lc g:Nat}{S:ByteArray}{w0:World}{P:Nat->Prop}
theorem Dp(hS:Hid (qi n lv S)){a0:Nat}(HL:YL n lv la lc S g a0):yT (kN n lv la lc S g) w0 P 154 #[.pointer (some ⟨g,0,none⟩)] (Nc n lv) (λs=>a0<s.a/\zC s<=0):=by
 intro w s hM ⟨ha,hp⟩;have uP:=hid (Dn (n:=n) (lv:=lv) (la:=la) (lc:=lc) (S:=S) (g:=g) (w0:=w0) (P:=P));have qg:=hid (λk hk=>PZ (n:=n) (lv:=lv) (la:=la) (lc:=lc) (S:=S) (g:=g) (w0:=w0) (P:=P) k hk);have uA:=hid (LY (w0:=w0) (P:=P) hS HL);have HM:=hid hM;clear hM;go_enter Tryz.func154,Tryz.ntmps154;obtain⟨y1,hy1⟩:∃y,Zh n lv s=y:=⟨_,rfl⟩;have Gq:=hid hy1;have LP:=Gn HM.out;have Gp:=(VN HM.out).1;go_wp2
 go_cut [39]from 2 to 40 (λv wx=>v=.bool y1/\Mk (kN n lv la lc S g) w0 P s wx)
 case first=>
  by_cases hlt1:s.a<n
  ·obtain⟨lb,lo,NJ,LQ,P6⟩:=Wh HM.out hlt1
   have hsz1:=Je HM.out.st.VF s.a;change(yF n lv s.a).s.size<=100 at hsz1;obtain⟨a1,VO⟩:∃a,s.a=a:=⟨_,rfl⟩;obtain⟨k1,LU⟩:∃k,(yF n lv s.a).k=k:=⟨_,rfl⟩;obtain⟨t1,EE⟩:∃t,(yF n lv s.a).s=t:=⟨_,rfl⟩;have za4:xh n lv s=decide (k1=6):=by unfold xh;rw[LU]
   have za5:Zh n lv s=(decide (k1=6)&& ui t1):=by unfold Zh;rw[za4,EE]
   rw[LU]at LQ;rw[EE]at P6 hsz1;rw[VO]at Gp LQ P6;rw[NJ]at LP;have zjl:(0:Int)<=(a1:Int):=by omega
   have LV:(a1:Int)<(n:Int):=by omega
   have Et:decide (a1<n)=true:=by simp;omega
   have Eu:decide ((a1:Int)<(n:Int))=true:=decide_eq_true LV;clear LU EE NJ VO;rw[za5]at hy1;have za6:=hid (λW=>NK t1 W (by omega));clear za5 za4 hsz1;by_cases J5:k1=6
   ·rw[decide_eq_true J5,Bool.true_and]at hy1
    rw[hy1]at za6;subst J5;clear hy1;go_wp2
    go_quiet (exact Calls.quiet_of_same (za6.out _))
    have kD:=hid (zB HM.out nq)
    go_wp2_with fail
    go_meet;case rel=>exact⟨rfl,kD.out⟩
   ·obtain rfl:y1=false:=by rw[←hy1,decide_eq_false J5];rfl
    have zjn:(k1==6)=false:=by simpa using J5
    clear hy1 J5;go_wp2
    go_quiet (fail)
    have kD:=hid (zB HM.out nq)
    go_wp2_with fail
    go_meet;case rel=>exact⟨rfl,kD.out⟩
  ·obtain⟨a1,VO⟩:∃a,s.a=a:=⟨_,rfl⟩
   obtain rfl:y1=false:=by
    rw[←hy1]
    cases e:xh n lv s with
    |false=>first|rfl|(unfold Zh;rw[e];rfl)
    |true=>have:=ZR e;omega
   rw[VO]at Gp;have LV:¬(a1:Int)<(n:Int):=by omega
   have Et:decide (a1<n)=false:=by simp;omega
   have Eu:decide ((a1:Int)<(n:Int))=false:=decide_eq_false LV;clear VO hy1;go_wp2
   go_quiet (fail)
   have kD:=hid (zB HM.out nq)
   go_wp2_with fail
   go_meet;case rel=>exact⟨rfl,kD.out⟩
 case rest=>
  obtain⟨rfl,za7⟩:=hcut;have kD:=hid za7;clear LP Gp za7 hy1;obtain⟨Ew,hwq1⟩:∃W,W=wc:=⟨_,rfl⟩;rw[←hwq1]at kD ⊢;clear hwq1
  cases y1 with
  |true=>
   have hlt1:s.a<n:=ZR (show xh n lv s=true from by have:=Gq.out;unfold Zh at this;rw[Bool.and_eq_true]at this;exact this.1);have zjo:=hid hlt1
   go_wp2_with fail
   refine(qg.out 7 rfl _ _ kD.out ⟨zjo.out,xH kD.out (by omega)⟩).mono ?_;rintro e w2 ⟨rfl,s2,he2,hM2⟩;have zo:=hid hM2;have HE2:=hid he2;have ha2:=he2.kp.a;have hp2:=zl he2 (by rfl) (c:= -29) (of_decide_eq_true (by rfl));clear hM2 he2;have J6:=hid (show Ev n lv (.ite (Zh n lv) Jf Vj) s s2 from .yes Gq.out HE2.out);obtain⟨b5,hb5⟩:∃b,isS n lv [59] s2=b:=⟨_,rfl⟩;have Vo:=hid (vH hS.out ⟨#[59]⟩ [59] (by decide+kernel) zo.out b5 hb5);have uH:=hid hb5;clear hb5
   cases b5 with
   |true=>
    go_wp2_with fail
    refine(Vo.out).mono ?_;rintro e w6 ⟨rfl,Vr⟩;have zL:Hid (Mk (kN n lv la lc S g) w0 P s2 w6):=hid (by obtain⟨m,rfl⟩:=Vr;exact zB zo.out m);clear Vr;obtain⟨ap7,ax7,za8,za9,hw7,yX⟩:=uM zL.out (yV (lv:=lv) uH.out (by decide));have yJ:=hid yX;clear yX;have VJ:=xk s2;have VI:(zA s2).a=s2.a+1:=rfl;obtain⟨z8,Q9⟩:∃z,isS n lv [110] (zA s2)=z:=⟨_,rfl⟩;have Nz:=hid (kC hS yJ.out z8 Q9);have zjq:=hid Q9;clear Q9
    go_wp2_with fail
    refine Nz.out.mono ?_;rintro e w8 ⟨m8,rfl,NL,s8,zS,yj⟩;have yQ:=hid yj;have vJ:=hid zS;have zjr:=hid NL;have ZV:=zS.kp.a;have Xe:=zl zS (by rfl) (c:=0) (of_decide_eq_true (by rfl));clear yj zS NL
    go_wp2_with fail
    refine(uA.out _ _ yQ.out ⟨by omega,by omega⟩).mono ?_;rintro e w9 ⟨rfl,s9,xX,xY⟩;have yl:=hid xY;have qW:=hid xX;have Q8:=xX.kp.a;clear xY xX;go_wp2
    go_end0
    exact⟨rfl,_,.seq (J6.out) (.seq (.yes uH.out (.seq .zu vJ.out)) qW.out),yl.out⟩
   |false=>
    go_wp2_with fail
    refine(Vo.out).mono ?_;rintro e w6 ⟨rfl,Vr⟩;have zL:Hid (Mk (kN n lv la lc S g) w0 P s2 w6):=hid (by obtain⟨m,rfl⟩:=Vr;exact zB zo.out m);clear Vr;obtain⟨z7,jc⟩:∃z,isS n lv [110] s2=z:=⟨_,rfl⟩;have XN:=hid (kC hS zL.out z7 jc);have zjs:=hid jc;clear jc
    go_wp2_with fail
    refine XN.out.mono ?_;rintro e w7 ⟨m7,rfl,NM,s7,xK,yX⟩;have yJ:=hid yX;have jl:=hid xK;have zjt:=hid NM;have VI:=xK.kp.a;have VJ:=zl xK (by rfl) (c:=0) (of_decide_eq_true (by rfl));clear yX xK NM;obtain⟨b8,hb8⟩:∃b,isS n lv [107] s7=b:=⟨_,rfl⟩;have Wp:=hid (vH hS.out ⟨#[107]⟩ [107] (by decide+kernel) yJ.out b8 hb8);have Yl:=hid hb8;clear hb8
    cases b8 with
    |false=>
     go_wp2_with fail
     refine(Wp.out).mono ?_;rintro e w9 ⟨rfl,vz⟩;have yl:Hid (Mk (kN n lv la lc S g) w0 P s7 w9):=hid (by obtain⟨m,rfl⟩:=vz;exact zB yJ.out m);clear vz
     go_wp2_with fail
     refine(uA.out _ _ yl.out ⟨by omega,by omega⟩).mono ?_;rintro e w10 ⟨rfl,s10,uf,vZ⟩;have uB:=hid vZ;have jq:=hid uf;have Kw:=uf.kp.a;clear vZ uf;go_wp2
     go_end0
     exact⟨rfl,_,.seq (J6.out) (.seq (.no uH.out (.seq jl.out (.no Yl.out .skip))) jq.out),uB.out⟩
    |true=>
     go_wp2_with fail
     refine(Wp.out).mono ?_;rintro e w8 ⟨rfl,Wq⟩;have yQ:Hid (Mk (kN n lv la lc S g) w0 P s7 w8):=hid (by obtain⟨m,rfl⟩:=Wq;exact zB yJ.out m);clear Wq;obtain⟨ap9,ax9,zba,zbb,hw9,xY⟩:=uM yQ.out (yV (lv:=lv) Yl.out (by decide));have yl:=hid xY;clear xY;have NP:=xk s7;have Q8:(zA s7).a=s7.a+1:=rfl;go_wp2
     go_loopw [] (λwr=>Rl (kN n lv la lc S g) w0 P (.rep (xh n lv) Jf qA .skip) (zA s7) 0 wr) (λwr=>n+1-Zb g wr)
     case atStart=>exact⟨(zA s7),yl.out,by omega,Nat.le_refl _,λ_ h=>h⟩
     case round=>
      obtain⟨r,hMr,hpr,har,hk⟩:=hrel;have HK:=hid hk;have zq:=hid hMr;clear hk hMr;obtain⟨YM,jE⟩:∃y,xh n lv r=y:=⟨_,rfl⟩;have Ym:=hid jE;have Ws:=Gn zq.out;have J7:=(VN zq.out).1;go_wp2
      go_cut [91]from 68 to 92 (λv wx=>v=.bool YM/\Mk (kN n lv la lc S g) w0 P r wx)
      case first=>
       by_cases NQ:r.a<n
       ·obtain⟨lb,lo,Wu,Wv,J8⟩:=Wh zq.out NQ
        have J9:=Je zq.out.st.VF r.a;change(yF n lv r.a).s.size<=100 at J9;obtain⟨a10,YN⟩:∃a,r.a=a:=⟨_,rfl⟩;obtain⟨k10,Qa⟩:∃k,(yF n lv r.a).k=k:=⟨_,rfl⟩;obtain⟨t10,Qb⟩:∃t,(yF n lv r.a).s=t:=⟨_,rfl⟩;have Qc:xh n lv r=decide (k10=6):=by unfold xh;rw[Qa]
        have NR:Zh n lv r=(decide (k10=6)&& ui t10):=by unfold Zh;rw[Qc,Qb]
        rw[Qa]at Wv;rw[Qb]at J8 J9;rw[YN]at J7 Wv J8;rw[Wu]at Ws;have zbc:(0:Int)<=(a10:Int):=by omega
        have Qd:(a10:Int)<(n:Int):=by omega
        have NS:decide (a10<n)=true:=by simp;omega
        have NT:decide ((a10:Int)<(n:Int))=true:=decide_eq_true Qd;clear Qa Qb Wu YN;rw[Qc]at jE;clear NR Qc J9 J8;by_cases YO:k10=6
        ·obtain rfl:YM=true:=by rw[←jE];exact decide_eq_true YO
         subst YO;clear jE;go_wp2
         go_quiet (fail)
         have xZ:=hid (zB zq.out nq)
         go_wp2_with fail
         go_meet;case rel=>exact⟨rfl,xZ.out⟩
        ·obtain rfl:YM=false:=by rw[←jE];exact decide_eq_false YO
         have zbd:(k10==6)=false:=by simpa using YO
         clear jE YO;go_wp2
         go_quiet (fail)
         have xZ:=hid (zB zq.out nq)
         go_wp2_with fail
         go_meet;case rel=>exact⟨rfl,xZ.out⟩
       ·obtain⟨a10,YN⟩:∃a,r.a=a:=⟨_,rfl⟩
        obtain rfl:YM=false:=by
         rw[←jE]
         cases e:xh n lv r with
         |false=>first|rfl|(unfold Zh;rw[e];rfl)
         |true=>have:=ZR e;omega
        rw[YN]at J7;have Qd:¬(a10:Int)<(n:Int):=by omega
        have NS:decide (a10<n)=false:=by simp;omega
        have NT:decide ((a10:Int)<(n:Int))=false:=decide_eq_false Qd;clear YN jE;go_wp2
        go_quiet (fail)
        have xZ:=hid (zB zq.out nq)
        go_wp2_with fail
        go_meet;case rel=>exact⟨rfl,xZ.out⟩
      case rest=>
       obtain⟨rfl,Wx⟩:=hcut;have xZ:=hid Wx;clear Ws J7 Wx jE;obtain⟨zbe,Wy⟩:∃W,W=wc:=⟨_,rfl⟩;rw[←Wy]at xZ ⊢;clear Wy
       cases YM with
       |true=>
        go_wp2_with fail
        refine(qg.out 7 rfl _ _ xZ.out ⟨ZR Ym.out,xH xZ.out (by omega)⟩).mono ?_;rintro e LZ ⟨rfl,s11,vM,jD⟩;have jV:=hid jD;have ZA:=hid vM;have L6:=vM.kp.a;have L8:=zl vM (by rfl) (c:= -29) (of_decide_eq_true (by rfl));clear jD vM;go_wp2
        go_roundw
        case rel=>exact⟨_,jV.out,by omega,by omega,λs' he=>HK.out s' (.go Ym.out ZA.out rfl .skip he)⟩
        case measure=>
         have e1:=zZ jV.out;have e2:=zZ zq.out;have:=ZA.out.word_lt;have hmm:=jV.out.yM;change s11.a<=n at hmm;rw[e1,e2];omega
       |false=>
        obtain⟨b12,L9⟩:∃b,isS n lv [59] r=b:=⟨_,rfl⟩;have NU:=hid (vH hS.out ⟨#[59]⟩ [59] (by decide+kernel) xZ.out b12 L9);have rf:=hid L9;clear L9;have jq:=hid (HK.out _ (.stop Ym.out))
        cases b12 with
        |true=>
         have h2:isS n lv [59,110] r=true:=by
          have:=rf.out;unfold isS at this ⊢;simp only[List.contains_cons,List.contains_nil,Bool.or_false]at this ⊢;rw[this,Bool.true_or]
         have H2:=hid h2;clear h2
         go_wp2_with fail
         refine(NU.out).mono ?_;rintro e YP ⟨rfl,kE⟩;have qJ:Hid (Mk (kN n lv la lc S g) w0 P r YP):=hid (by obtain⟨m,rfl⟩:=kE;exact zB xZ.out m);clear kE;obtain⟨zbf,zbg,zbh,zbi,zbj,uQ⟩:=uM qJ.out (yV (lv:=lv) rf.out (by decide));have uN:=hid uQ;clear uQ;have NV:=xk r;have Dq:(zA r).a=r.a+1:=rfl;obtain⟨EF,rq⟩:∃z,isS n lv [110] (zA r)=z:=⟨_,rfl⟩;have EG:=hid (kC hS uN.out EF rq);have zju:=hid rq;clear rq
         go_wp2_with fail
         refine EG.out.mono ?_;rintro e WB ⟨m15,rfl,NW,s15,uS,qj⟩;have Yn:=hid qj;have VP:=hid uS;have zjv:=hid NW;have Dt:=uS.kp.a;have P7:=zl uS (by rfl) (c:=0) (of_decide_eq_true (by rfl));clear qj uS NW
         go_wp2_with fail
         refine(uA.out _ _ Yn.out ⟨by omega,by omega⟩).mono ?_;rintro e w16 ⟨rfl,s16,XQ,Qe⟩;have jW:=hid Qe;have XR:=hid XQ;have ha16:=XQ.kp.a;clear Qe XQ;go_wp2
         go_end0
         exact⟨rfl,_,.seq (J6.out) (.seq (.no uH.out (.seq jl.out (.yes Yl.out (.seq .zu (.seq jq.out (.yes H2.out (.seq .zu VP.out))))))) XR.out),jW.out⟩
        |false=>
         go_wp2_with fail
         refine(NU.out).mono ?_;rintro e YP ⟨rfl,kE⟩;have qJ:Hid (Mk (kN n lv la lc S g) w0 P r YP):=hid (by obtain⟨m,rfl⟩:=kE;exact zB xZ.out m);clear kE;obtain⟨NY,YQ⟩:∃z,isS n lv [110] r=z:=⟨_,rfl⟩;have EH:=hid (kC hS qJ.out NY YQ);have ru:=hid YQ;clear YQ
         go_wp2_with fail
         refine EH.out.mono ?_;rintro e ry ⟨m14,rfl,NZ,s14,Yo,uQ⟩;have uN:=hid uQ;have Gt:=hid Yo;have EI:=hid NZ;have Dq:=Yo.kp.a;have NV:=zl Yo (by rfl) (c:=0) (of_decide_eq_true (by rfl));clear uQ Yo NZ;have YQ:=ru.out;have h2:isS n lv [59,110] r=NY:=by
          have:=rf.out;unfold isS at this YQ ⊢;simp only[List.contains_cons,List.contains_nil,Bool.or_false]at this YQ ⊢;rw[this,YQ,Bool.false_or]
         have H2:=hid h2;clear h2 YQ;rcases EI.out with⟨e1,e2⟩|⟨e1,e2⟩
         ·subst e1
          subst e2
          go_wp2_with fail
          refine(uP.out _ _ uN.out (xH uN.out (by omega))).mono ?_;rintro e WB ⟨rfl,s15,uS,qj⟩;have Yn:=hid qj;have VP:=hid uS;have Dt:=uS.kp.a;have P7:=zl uS (by rfl) (c:=1) (of_decide_eq_true (by rfl));clear qj uS
          go_wp2_with fail
          refine(uA.out _ _ Yn.out ⟨by omega,by omega⟩).mono ?_;rintro e w16 ⟨rfl,s16,XQ,Qe⟩;have jW:=hid Qe;have XR:=hid XQ;have ha16:=XQ.kp.a;clear Qe XQ;have EJ:s14=r:=Pz Gt.out ru.out;subst EJ;go_wp2
          go_end0
          exact⟨rfl,_,.seq (J6.out) (.seq (.no uH.out (.seq jl.out (.yes Yl.out (.seq .zu (.seq jq.out (.no H2.out VP.out)))))) XR.out),jW.out⟩
         ·subst e2
          have m1:((m14:Int)==0)=false:=by simp;omega
          go_wp2_with fail
          refine(uA.out _ _ uN.out ⟨by omega,by omega⟩).mono ?_;rintro e WB ⟨rfl,s15,uS,qj⟩;have Yn:=hid qj;have VP:=hid uS;have Dt:=uS.kp.a;clear qj uS;go_wp2
          go_end0
          exact⟨rfl,_,.seq (J6.out) (.seq (.no uH.out (.seq jl.out (.yes Yl.out (.seq .zu (.seq jq.out (.yes H2.out (Py Gt.out ru.out))))))) VP.out),Yn.out⟩
  |false=>
   go_wp2_with fail
   refine(uP.out _ _ kD.out (xH kD.out (by omega))).mono ?_;rintro e w2 ⟨rfl,s2,he2,hM2⟩;have zo:=hid hM2;have HE2:=hid he2;have ha2:=he2.kp.a;have hp2:=zl he2 (by rfl) (c:=1) (of_decide_eq_true (by rfl));clear hM2 he2;have J6:=hid (show Ev n lv (.ite (Zh n lv) Jf Vj) s s2 from .no Gq.out HE2.out);obtain⟨b5,hb5⟩:∃b,isS n lv [59] s2=b:=⟨_,rfl⟩;have Vo:=hid (vH hS.out ⟨#[59]⟩ [59] (by decide+kernel) zo.out b5 hb5);have uH:=hid hb5;clear hb5
   cases b5 with
   |true=>
    go_wp2_with fail
    refine(Vo.out).mono ?_;rintro e w6 ⟨rfl,Vr⟩;have zL:Hid (Mk (kN n lv la lc S g) w0 P s2 w6):=hid (by obtain⟨m,rfl⟩:=Vr;exact zB zo.out m);clear Vr;obtain⟨ap7,ax7,za8,za9,hw7,yX⟩:=uM zL.out (yV (lv:=lv) uH.out (by decide));have yJ:=hid yX;clear yX;have VJ:=xk s2;have VI:(zA s2).a=s2.a+1:=rfl;obtain⟨z8,Q9⟩:∃z,isS n lv [110] (zA s2)=z:=⟨_,rfl⟩;have Nz:=hid (kC hS yJ.out z8 Q9);have zjq:=hid Q9;clear Q9
    go_wp2_with fail
    refine Nz.out.mono ?_;rintro e w8 ⟨m8,rfl,NL,s8,zS,yj⟩;have yQ:=hid yj;have vJ:=hid zS;have zjr:=hid NL;have ZV:=zS.kp.a;have Xe:=zl zS (by rfl) (c:=0) (of_decide_eq_true (by rfl));clear yj zS NL
    go_wp2_with fail
    refine(uA.out _ _ yQ.out ⟨by omega,by omega⟩).mono ?_;rintro e w9 ⟨rfl,s9,xX,xY⟩;have yl:=hid xY;have qW:=hid xX;have Q8:=xX.kp.a;clear xY xX;go_wp2
    go_end0
    exact⟨rfl,_,.seq (J6.out) (.seq (.yes uH.out (.seq .zu vJ.out)) qW.out),yl.out⟩
   |false=>
    go_wp2_with fail
    refine(Vo.out).mono ?_;rintro e w6 ⟨rfl,Vr⟩;have zL:Hid (Mk (kN n lv la lc S g) w0 P s2 w6):=hid (by obtain⟨m,rfl⟩:=Vr;exact zB zo.out m);clear Vr;obtain⟨z7,jc⟩:∃z,isS n lv [110] s2=z:=⟨_,rfl⟩;have XN:=hid (kC hS zL.out z7 jc);have zjs:=hid jc;clear jc
    go_wp2_with fail
    refine XN.out.mono ?_;rintro e w7 ⟨m7,rfl,NM,s7,xK,yX⟩;have yJ:=hid yX;have jl:=hid xK;have zjt:=hid NM;have VI:=xK.kp.a;have VJ:=zl xK (by rfl) (c:=0) (of_decide_eq_true (by rfl));clear yX xK NM;obtain⟨b8,hb8⟩:∃b,isS n lv [107] s7=b:=⟨_,rfl⟩;have Wp:=hid (vH hS.out ⟨#[107]⟩ [107] (by decide+kernel) yJ.out b8 hb8);have Yl:=hid hb8;clear hb8
    cases b8 with
    |false=>
     go_wp2_with fail
     refine(Wp.out).mono ?_;rintro e w9 ⟨rfl,vz⟩;have yl:Hid (Mk (kN n lv la lc S g) w0 P s7 w9):=hid (by obtain⟨m,rfl⟩:=vz;exact zB yJ.out m);clear vz
     go_wp2_with fail
     refine(uA.out _ _ yl.out ⟨by omega,by omega⟩).mono ?_;rintro e w10 ⟨rfl,s10,uf,vZ⟩;have uB:=hid vZ;have jq:=hid uf;have Kw:=uf.kp.a;clear vZ uf;go_wp2
     go_end0
     exact⟨rfl,_,.seq (J6.out) (.seq (.no uH.out (.seq jl.out (.no Yl.out .skip))) jq.out),uB.out⟩
    |true=>
     go_wp2_with fail
     refine(Wp.out).mono ?_;rintro e w8 ⟨rfl,Wq⟩;have yQ:Hid (Mk (kN n lv la lc S g) w0 P s7 w8):=hid (by obtain⟨m,rfl⟩:=Wq;exact zB yJ.out m);clear Wq;obtain⟨ap9,ax9,zba,zbb,hw9,xY⟩:=uM yQ.out (yV (lv:=lv) Yl.out (by decide));have yl:=hid xY;clear xY;have NP:=xk s7;have Q8:(zA s7).a=s7.a+1:=rfl;go_wp2
     go_loopw [] (λwr=>Rl (kN n lv la lc S g) w0 P (.rep (xh n lv) Jf qA .skip) (zA s7) 0 wr) (λwr=>n+1-Zb g wr)
     case atStart=>exact⟨(zA s7),yl.out,by omega,Nat.le_refl _,λ_ h=>h⟩
     case round=>
      obtain⟨r,hMr,hpr,har,hk⟩:=hrel;have HK:=hid hk;have zq:=hid hMr;clear hk hMr;obtain⟨YM,jE⟩:∃y,xh n lv r=y:=⟨_,rfl⟩;have Ym:=hid jE;have Ws:=Gn zq.out;have J7:=(VN zq.out).1;go_wp2
      go_cut [91]from 68 to 92 (λv wx=>v=.bool YM/\Mk (kN n lv la lc S g) w0 P r wx)
      case first=>
       by_cases NQ:r.a<n
       ·obtain⟨lb,lo,Wu,Wv,J8⟩:=Wh zq.out NQ
        have J9:=Je zq.out.st.VF r.a;change(yF n lv r.a).s.size<=100 at J9;obtain⟨a10,YN⟩:∃a,r.a=a:=⟨_,rfl⟩;obtain⟨k10,Qa⟩:∃k,(yF n lv r.a).k=k:=⟨_,rfl⟩;obtain⟨t10,Qb⟩:∃t,(yF n lv r.a).s=t:=⟨_,rfl⟩;have Qc:xh n lv r=decide (k10=6):=by unfold xh;rw[Qa]
        have NR:Zh n lv r=(decide (k10=6)&& ui t10):=by unfold Zh;rw[Qc,Qb]
        rw[Qa]at Wv;rw[Qb]at J8 J9;rw[YN]at J7 Wv J8;rw[Wu]at Ws;have zbc:(0:Int)<=(a10:Int):=by omega
        have Qd:(a10:Int)<(n:Int):=by omega
        have NS:decide (a10<n)=true:=by simp;omega
        have NT:decide ((a10:Int)<(n:Int))=true:=decide_eq_true Qd;clear Qa Qb Wu YN;rw[Qc]at jE;clear NR Qc J9 J8;by_cases YO:k10=6
        ·obtain rfl:YM=true:=by rw[←jE];exact decide_eq_true YO
         subst YO;clear jE;go_wp2
         go_quiet (fail)
         have xZ:=hid (zB zq.out nq)
         go_wp2_with fail
         go_meet;case rel=>exact⟨rfl,xZ.out⟩
        ·obtain rfl:YM=false:=by rw[←jE];exact decide_eq_false YO
         have zbd:(k10==6)=false:=by simpa using YO
         clear jE YO;go_wp2
         go_quiet (fail)
         have xZ:=hid (zB zq.out nq)
         go_wp2_with fail
         go_meet;case rel=>exact⟨rfl,xZ.out⟩
       ·obtain⟨a10,YN⟩:∃a,r.a=a:=⟨_,rfl⟩
        obtain rfl:YM=false:=by
         rw[←jE]
         cases e:xh n lv r with
         |false=>first|rfl|(unfold Zh;rw[e];rfl)
         |true=>have:=ZR e;omega
        rw[YN]at J7;have Qd:¬(a10:Int)<(n:Int):=by omega
        have NS:decide (a10<n)=false:=by simp;omega
        have NT:decide ((a10:Int)<(n:Int))=false:=decide_eq_false Qd;clear YN jE;go_wp2
        go_quiet (fail)
        have xZ:=hid (zB zq.out nq)
        go_wp2_with fail
        go_meet;case rel=>exact⟨rfl,xZ.out⟩
      case rest=>
       obtain⟨rfl,Wx⟩:=hcut;have xZ:=hid Wx;clear Ws J7 Wx jE;obtain⟨zbe,Wy⟩:∃W,W=wc:=⟨_,rfl⟩;rw[←Wy]at xZ ⊢;clear Wy
       cases YM with
       |true=>
        go_wp2_with fail
        refine(qg.out 7 rfl _ _ xZ.out ⟨ZR Ym.out,xH xZ.out (by omega)⟩).mono ?_;rintro e LZ ⟨rfl,s11,vM,jD⟩;have jV:=hid jD;have ZA:=hid vM;have L6:=vM.kp.a;have L8:=zl vM (by rfl) (c:= -29) (of_decide_eq_true (by rfl));clear jD vM;go_wp2
        go_roundw
        case rel=>exact⟨_,jV.out,by omega,by omega,λs' he=>HK.out s' (.go Ym.out ZA.out rfl .skip he)⟩
        case measure=>
         have e1:=zZ jV.out;have e2:=zZ zq.out;have:=ZA.out.word_lt;have hmm:=jV.out.yM;change s11.a<=n at hmm;rw[e1,e2];omega
       |false=>
        obtain⟨b12,L9⟩:∃b,isS n lv [59] r=b:=⟨_,rfl⟩;have NU:=hid (vH hS.out ⟨#[59]⟩ [59] (by decide+kernel) xZ.out b12 L9);have rf:=hid L9;clear L9;have jq:=hid (HK.out _ (.stop Ym.out))
        cases b12 with
        |true=>
         have h2:isS n lv [59,110] r=true:=by
          have:=rf.out;unfold isS at this ⊢;simp only[List.contains_cons,List.contains_nil,Bool.or_false]at this ⊢;rw[this,Bool.true_or]
         have H2:=hid h2;clear h2
         go_wp2_with fail
         refine(NU.out).mono ?_;rintro e YP ⟨rfl,kE⟩;have qJ:Hid (Mk (kN n lv la lc S g) w0 P r YP):=hid (by obtain⟨m,rfl⟩:=kE;exact zB xZ.out m);clear kE;obtain⟨zbf,zbg,zbh,zbi,zbj,uQ⟩:=uM qJ.out (yV (lv:=lv) rf.out (by decide));have uN:=hid uQ;clear uQ;have NV:=xk r;have Dq:(zA r).a=r.a+1:=rfl;obtain⟨EF,rq⟩:∃z,isS n lv [110] (zA r)=z:=⟨_,rfl⟩;have EG:=hid (kC hS uN.out EF rq);have zju:=hid rq;clear rq
         go_wp2_with fail
         refine EG.out.mono ?_;rintro e WB ⟨m15,rfl,NW,s15,uS,qj⟩;have Yn:=hid qj;have VP:=hid uS;have zjv:=hid NW;have Dt:=uS.kp.a;have P7:=zl uS (by rfl) (c:=0) (of_decide_eq_true (by rfl));clear qj uS NW
         go_wp2_with fail
         refine(uA.out _ _ Yn.out ⟨by omega,by omega⟩).mono ?_;rintro e w16 ⟨rfl,s16,XQ,Qe⟩;have jW:=hid Qe;have XR:=hid XQ;have ha16:=XQ.kp.a;clear Qe XQ;go_wp2
         go_end0
         exact⟨rfl,_,.seq (J6.out) (.seq (.no uH.out (.seq jl.out (.yes Yl.out (.seq .zu (.seq jq.out (.yes H2.out (.seq .zu VP.out))))))) XR.out),jW.out⟩
        |false=>
         go_wp2_with fail
         refine(NU.out).mono ?_;rintro e YP ⟨rfl,kE⟩;have qJ:Hid (Mk (kN n lv la lc S g) w0 P r YP):=hid (by obtain⟨m,rfl⟩:=kE;exact zB xZ.out m);clear kE;obtain⟨NY,YQ⟩:∃z,isS n lv [110] r=z:=⟨_,rfl⟩;have EH:=hid (kC hS qJ.out NY YQ);have ru:=hid YQ;clear YQ
         go_wp2_with fail
         refine EH.out.mono ?_;rintro e ry ⟨m14,rfl,NZ,s14,Yo,uQ⟩;have uN:=hid uQ;have Gt:=hid Yo;have EI:=hid NZ;have Dq:=Yo.kp.a;have NV:=zl Yo (by rfl) (c:=0) (of_decide_eq_true (by rfl));clear uQ Yo NZ;have YQ:=ru.out;have h2:isS n lv [59,110] r=NY:=by
          have:=rf.out;unfold isS at this YQ ⊢;simp only[List.contains_cons,List.contains_nil,Bool.or_false]at this YQ ⊢;rw[this,YQ,Bool.false_or]
         have H2:=hid h2;clear h2 YQ;rcases EI.out with⟨e1,e2⟩|⟨e1,e2⟩
         ·subst e1
          subst e2
          go_wp2_with fail
          refine(uP.out _ _ uN.out (xH uN.out (by omega))).mono ?_;rintro e WB ⟨rfl,s15,uS,qj⟩;have Yn:=hid qj;have VP:=hid uS;have Dt:=uS.kp.a;have P7:=zl uS (by rfl) (c:=1) (of_decide_eq_true (by rfl));clear qj uS
          go_wp2_with fail
          refine(uA.out _ _ Yn.out ⟨by omega,by omega⟩).mono ?_;rintro e w16 ⟨rfl,s16,XQ,Qe⟩;have jW:=hid Qe;have XR:=hid XQ;have ha16:=XQ.kp.a;clear Qe XQ;have EJ:s14=r:=Pz Gt.out ru.out;subst EJ;go_wp2
          go_end0
          exact⟨rfl,_,.seq (J6.out) (.seq (.no uH.out (.seq jl.out (.yes Yl.out (.seq .zu (.seq jq.out (.no H2.out VP.out)))))) XR.out),jW.out⟩
         ·subst e2
          have m1:((m14:Int)==0)=false:=by simp;omega
          go_wp2_with fail
          refine(uA.out _ _ uN.out ⟨by omega,by omega⟩).mono ?_;rintro e WB ⟨rfl,s15,uS,qj⟩;have Yn:=hid qj;have VP:=hid uS;have Dt:=uS.kp.a;clear qj uS;go_wp2
          go_end0
          exact⟨rfl,_,.seq (J6.out) (.seq (.no uH.out (.seq jl.out (.yes Yl.out (.seq .zu (.seq jq.out (.yes H2.out (Py Gt.out ru.out))))))) VP.out),Yn.out⟩
end
end Go.Proofs.YtkolpaonccmgiaaGreatDoor.Q

/- What the document's own cases of layer 13 (parse) leave. Condition: at most 10,000 leaves. -/
import Derived.Test.YtkolpaonccmgiaaGreatDoorPbL
namespace Go.Proofs.YtkolpaonccmgiaaGreatDoor.Q
set_option linter.unusedSectionVars false
set_option linter.unusedVariables false
open Lib(hid)
set_option maxHeartbeats 16000000
set_option maxRecDepth 100000
open Go.RowKit
section
variable{n:Nat}{lv:Nat->Lf}{la:Option Addr}{lc g:Nat}{S:ByteArray}{w0:World}{P:Nat->Prop}
def Gu:Value->Nat
 | .bool true=>1
 |_=>0
def zjw(n:Nat)(lv:Nat->Lf)(la:Option Addr)(lc:Nat)(S:ByteArray)(g:Nat)(w0:World)(P:Nat->Prop)(s:PS)(v:Value)(wr:World):Prop:=
 ∃(mo:Bool) (r:PS),v=.bool mo/\Mk (kN n lv la lc S g) w0 P r wr/\zC r<=(cond mo 2 15)/\s.a<=r.a/\(mo=true->∀s',Ev n lv (dO n lv) r s'->Ev n lv (dO n lv) s s')/\(mo=false->Ev n lv (dO n lv) s r)
theorem zjx{s:PS}(h:isS n lv [40] s=true):QY n lv s=true:=by
 unfold QY;unfold isS at h;simp only[List.contains_cons,List.contains_nil,Bool.or_false]at h;rw[h,Bool.true_or]
theorem zjy{s:PS}(h:isS n lv [40] s=false)(y z:Bool)(hy:xh n lv s=y)(hz:isS n lv [122] s=z):QY n lv s=(y && !z):=by
 unfold QY;unfold isS at h hz;simp only[List.contains_cons,List.contains_nil,Bool.or_false]at h hz;rw[h,hy,hz,Bool.false_or]
theorem Du(hS:Hid (qi n lv S)){a0:Nat}(HL:YL n lv la lc S g a0):yT (kN n lv la lc S g) w0 P 155 #[.pointer (some ⟨g,0,none⟩)] (Nh n lv) (λs=>a0<s.a/\zC s<=0):=by
 intro w s hM ⟨ha,hp⟩;have XO:=hid (zaY (n:=n) (lv:=lv) (la:=la) (lc:=lc) (S:=S) (g:=g) (w0:=w0) (P:=P) hS);have YK:=hid (λw s (h:Mk (kN n lv la lc S g) w0 P s w)=>NI hS.out w0 P w s h);have kL:=hid (HL w0 P);have HWk:=hid (jo (n:=n) (lv:=lv) (la:=la) (lc:=lc) (S:=S) (g:=g) (w0:=w0) (P:=P) hS ⟨#[107]⟩ 107 (by decide+kernel));have PG:=hid (jo (n:=n) (lv:=lv) (la:=la) (lc:=lc) (S:=S) (g:=g) (w0:=w0) (P:=P) hS ⟨#[122]⟩ 122 (by decide+kernel));have Xf:=hid (jo (n:=n) (lv:=lv) (la:=la) (lc:=lc) (S:=S) (g:=g) (w0:=w0) (P:=P) hS ⟨#[41]⟩ 41 (by decide+kernel));have HM:=hid hM;clear hM;go_enter Tryz.func155,Tryz.ntmps155
 go_wp2_with fail
 refine(XO.out _ _ HM.out (by omega)).mono ?_;rintro e w1 ⟨rfl,s1,he1,hM1⟩;have zt:=hid hM1;have yU:=hid he1;have ha1:=he1.kp.a;have hp1:=zl he1 (by rfl) (c:=1) (of_decide_eq_true (by rfl));clear hM1 he1;obtain⟨z2,hz2⟩:∃z,isS n lv [110] s1=z:=⟨_,rfl⟩;have HZ2:=hid (kC hS zt.out z2 hz2);have zov:=hid hz2;clear hz2
 go_wp2_with fail
 refine HZ2.out.mono ?_;rintro e w2 ⟨m2,rfl,zbk,s2,he2,hM2⟩;have zo:=hid hM2;have HE2:=hid he2;have zow:=hid zbk;have ha2:=he2.kp.a;have hp2:=zl he2 (by rfl) (c:=0) (of_decide_eq_true (by rfl));clear hM2 he2 zbk
 go_wp2_with fail
 refine(HWk.out _ _ zo.out (xH zo.out (by omega))).mono ?_;rintro e w3 ⟨rfl,s3,he3,zx⟩;have zn:=hid zx;have yN:=hid he3;have ji:=he3.kp.a;have hp3:=zl he3 (by rfl) (c:=1) (of_decide_eq_true (by rfl));clear zx he3;obtain⟨z4,ZW⟩:∃z,isS n lv [110] s3=z:=⟨_,rfl⟩;have JX:=hid (kC hS zn.out z4 ZW);have zox:=hid ZW;clear ZW
 go_wp2_with fail
 refine JX.out.mono ?_;rintro e w4 ⟨m4,rfl,zbl,s4,he4,zH⟩;have zK:=hid zH;have xA:=hid he4;have zoy:=hid zbl;have jM:=he4.kp.a;have qf:=zl he4 (by rfl) (c:=0) (of_decide_eq_true (by rfl));clear zH he4 zbl;go_wp2
 go_loopw [2] (λv wr=>zjw n lv la lc S g w0 P s4 v wr) (λv wr=>2*(n+1-Zb g wr)+Gu v)
 case atStart=>exact⟨true,s4,rfl,zK.out,by show zC s4<=2;omega,Nat.le_refl _,λ_ _ h=>h,λh=>by cases h⟩
 case round=>
  obtain⟨mo,r,rfl,hMr,hpr,har,hk1,hk2⟩:=hrel;have ZB:=hid hMr;have uI:=hid hk1;have vK:=hid hk2;clear hMr hk1 hk2;obtain⟨y5,YR⟩:∃y,(mo && QY n lv r)=y:=⟨_,rfl⟩;have HY5:=hid YR;have zbm:=Gn ZB.out;have EK:=(VN ZB.out).1;go_wp2
  go_cut [47]from 12 to 48 (λv wx=>v=.bool y5/\Mk (kN n lv la lc S g) w0 P r wx)
  case first=>
   cases mo with
   |false=>
    obtain rfl:y5=false:=by rw[←YR];rfl
    clear YR;go_wp2
    go_quiet (fail)
    have qK:=hid (zB ZB.out nq)
    go_wp2_with fail
    go_meet
    case rel=>exact⟨rfl,qK.out⟩
   |true=>
    rw[Bool.true_and]at YR;have EL:=hid (λm b (hb:isS n lv [40] r=b)=>vH hS.out ⟨#[40]⟩ [40] (by decide+kernel) (zB ZB.out m) b hb);have EM:=hid (λm b (hb:isS n lv [122] r=b)=>vH hS.out ⟨#[122]⟩ [122] (by decide+kernel) (zB ZB.out m) b hb);obtain⟨b40,N7⟩:∃b,isS n lv [40] r=b:=⟨_,rfl⟩;have N8:=hid (λm=>EL.out m b40 N7)
    cases b40 with
    |true=>
     obtain rfl:y5=true:=by rw[←YR];exact zjx N7
     clear EL EM N7 YR;go_wp2
     go_quiet (exact Calls.quiet_of (N8.out _))
     have qK:=hid (zB ZB.out nq)
     go_wp2_with fail
     go_meet
     case rel=>exact⟨rfl,qK.out⟩
    |false=>
     obtain⟨z,hz⟩:∃z,isS n lv [122] r=z:=⟨_,rfl⟩;have HZZ:=hid (λm=>EM.out m z hz);have hit:=λy hy=>zjy (lv:=lv) N7 y z hy hz;have HIT:=hid hit;clear EL EM N7 hz hit;by_cases zjz:r.a<n
     ·obtain⟨lb,lo,zbn,zbo,EN⟩:=Wh ZB.out zjz
      have hsz5:=Je ZB.out.st.VF r.a;change(yF n lv r.a).s.size<=100 at hsz5;obtain⟨a5,N9⟩:∃a,r.a=a:=⟨_,rfl⟩;obtain⟨k5,EO⟩:∃k,(yF n lv r.a).k=k:=⟨_,rfl⟩;obtain⟨t5,EP⟩:∃t,(yF n lv r.a).s=t:=⟨_,rfl⟩;have ER:xh n lv r=decide (k5=6):=by unfold xh;rw[EO]
      have zjA:Zh n lv r=(decide (k5=6)&& ui t5):=by unfold Zh;rw[ER,EP]
      rw[EO]at zbo;rw[EP]at EN hsz5;rw[N9]at EK zbo EN;rw[zbn]at zbm;have zoz:(0:Int)<=(a5:Int):=by omega
      have ES:(a5:Int)<(n:Int):=by omega
      have zjB:decide (a5<n)=true:=by simp;omega
      have zjC:decide ((a5:Int)<(n:Int))=true:=decide_eq_true ES;clear EO EP zbn N9;rw[HIT.out _ ER]at YR;clear zjA ER hsz5 EN;by_cases tu:k5=6
      ·rw[decide_eq_true tu,Bool.true_and]at YR
       subst tu
       cases z with
       |true=>
        obtain rfl:y5=false:=by rw[←YR];rfl
        clear YR;go_wp2
        go_quiet (first|with_reducible exact Calls.quiet_of (N8.out _)|with_reducible exact Calls.quiet_of (HZZ.out _))
        have qK:=hid (zB ZB.out nq)
        go_wp2_with fail
        go_meet
        case rel=>exact⟨rfl,qK.out⟩
       |false=>
        obtain rfl:y5=true:=by rw[←YR];rfl
        clear YR;go_wp2
        go_quiet (first|with_reducible exact Calls.quiet_of (N8.out _)|with_reducible exact Calls.quiet_of (HZZ.out _))
        have qK:=hid (zB ZB.out nq)
        go_wp2_with fail
        go_meet;case rel=>exact⟨rfl,qK.out⟩
      ·obtain rfl:y5=false:=by rw[←YR,decide_eq_false tu];rfl
       have zoA:(k5==6)=false:=by simpa using tu
       clear YR tu;go_wp2
       go_quiet (exact Calls.quiet_of (N8.out _))
       have qK:=hid (zB ZB.out nq)
       go_wp2_with fail
       go_meet;case rel=>exact⟨rfl,qK.out⟩
     ·have hw0:xh n lv r=false:=by
       cases e:xh n lv r with
       |false=>rfl
       |true=>have:=ZR e;omega
      obtain rfl:y5=false:=by rw[←YR,HIT.out _ hw0];rfl
      obtain⟨a5,N9⟩:∃a,r.a=a:=⟨_,rfl⟩;rw[N9]at EK;have ES:¬(a5:Int)<(n:Int):=by omega
      have zjB:decide (a5<n)=false:=by simp;omega
      have zjC:decide ((a5:Int)<(n:Int))=false:=decide_eq_false ES;clear N9 YR hw0;go_wp2
      go_quiet (exact Calls.quiet_of (N8.out _))
      have qK:=hid (zB ZB.out nq)
      go_wp2_with fail
      go_meet;case rel=>exact⟨rfl,qK.out⟩
  case rest=>
   obtain⟨rfl,zbp⟩:=hcut;have qK:=hid zbp;clear zbm EK zbp YR;obtain⟨wq5,zbq⟩:∃W,W=wc:=⟨_,rfl⟩;rw[←zbq]at qK ⊢;clear zbq
   cases y5 with
   |true=>
    obtain⟨rfl,hI⟩:mo=true/\QY n lv r=true:=by have:=HY5.out;rwa [Bool.and_eq_true]at this
    have HI:=hid hI;change zC r<=2 at hpr;clear hI
    go_wp2_with fail
    refine(Xh 15 qK.out (xH qK.out (by omega)) (λh=>absurd h (by decide))).mono ?_;rintro e w6 ⟨rfl,zG⟩;have zL:Hid (Mk (kN n lv la lc S g) w0 P (zk 15 false r) w6):=hid zG;have ku:=qC 15 false r;have ha6:(zk 15 false r).a=r.a:=rfl;clear zG;obtain⟨b7,hb7⟩:∃b,isS n lv [40] (zk 15 false r)=b:=⟨_,rfl⟩;have Ny:=hid (vH hS.out ⟨#[40]⟩ [40] (by decide+kernel) zL.out b7 hb7);have Gh:=hid hb7;clear hb7
    cases b7 with
    |true=>
     go_wp2_with fail
     refine(Ny.out).mono ?_;rintro e w6 ⟨rfl,Vr⟩;have zjD:Hid (Mk (kN n lv la lc S g) w0 P (zk 15 false r) w6):=hid (by obtain⟨m,rfl⟩:=Vr;exact zB zL.out m);clear Vr;obtain⟨ap7,ax7,za8,za9,hw7,yX⟩:=uM zjD.out (yV (lv:=lv) Gh.out (by decide));have yJ:=hid yX;clear yX;have VJ:=xk (zk 15 false r);have VI:(zA (zk 15 false r)).a=(zk 15 false r).a+1:=rfl
     go_wp2_with fail
     refine(XO.out _ _ yJ.out (by omega)).mono ?_;rintro e w8 ⟨rfl,s8,zS,yj⟩;have yQ:=hid yj;have vJ:=hid zS;have ZV:=zS.kp.a;have Xe:=zl zS (by rfl) (c:=1) (of_decide_eq_true (by rfl));clear yj zS;go_wp2
     go_loopw [] (λwr=>Rl (kN n lv la lc S g) w0 P (.rep (isS n lv [124]) (.seq .zu (JU n lv)) qA .skip) s8 6 wr) (λwr=>n+1-Zb g wr)
     case atStart=>exact⟨s8,yQ.out,by omega,Nat.le_refl _,λ_ h=>h⟩
     case round=>
      obtain⟨q,WC,hpq,haq,hkq⟩:=hrel;have Ky:=hid hkq;have zq:=hid WC;clear hkq WC;obtain⟨b9,YS⟩:∃b,isS n lv [124] q=b:=⟨_,rfl⟩;have Jr:=hid (vH hS.out ⟨#[124]⟩ [124] (by decide+kernel) zq.out b9 YS);have Gv:=hid YS;clear YS
      cases b9 with
      |true=>
       go_wp2_with fail
       refine(Jr.out).mono ?_;rintro e w9 ⟨rfl,vz⟩;have yl:Hid (Mk (kN n lv la lc S g) w0 P q w9):=hid (by obtain⟨m,rfl⟩:=vz;exact zB zq.out m);clear vz;obtain⟨zbr,zbs,zbt,zbu,zbv,vZ⟩:=uM yl.out (yV (lv:=lv) Gv.out (by decide));have uB:=hid vZ;clear vZ;have WE:=xk q;have Kw:(zA q).a=q.a+1:=rfl
       go_wp2_with fail
       refine(XO.out _ _ uB.out (by omega)).mono ?_;rintro e LZ ⟨rfl,s11,vM,jD⟩;have jV:=hid jD;have ZA:=hid vM;have L6:=vM.kp.a;have L8:=zl vM (by rfl) (c:=1) (of_decide_eq_true (by rfl));clear jD vM;go_wp2
       go_roundw
       case rel=>exact⟨_,jV.out,by omega,by omega,λs' he=>Ky.out s' (.go Gv.out (.seq .zu ZA.out) rfl .skip he)⟩
       case measure=>
        have e1:=zZ jV.out;have e2:=zZ zq.out;have:=yV (lv:=lv) Gv.out (by decide);have hmm:=jV.out.yM;change s11.a<=n at hmm;rw[e1,e2];omega
      |false=>
       go_wp2_with fail
       refine(Jr.out).mono ?_;rintro e w9 ⟨rfl,vz⟩;have yl:Hid (Mk (kN n lv la lc S g) w0 P q w9):=hid (by obtain⟨m,rfl⟩:=vz;exact zB zq.out m);clear vz;have qW:=hid (Ky.out _ (.stop Gv.out))
       go_wp2_with fail
       refine(Xf.out _ _ yl.out (xH yl.out (by omega))).mono ?_;rintro e w10 ⟨rfl,s10,uf,vZ⟩;have uB:=hid vZ;have jq:=hid uf;have Kw:=uf.kp.a;have WE:=zl uf (by rfl) (c:=1) (of_decide_eq_true (by rfl));clear vZ uf;obtain⟨z11,rC⟩:∃z,isS n lv [110] s10=z:=⟨_,rfl⟩;have EU:=hid (kC hS uB.out z11 rC);have zjE:=hid rC;clear rC
       go_wp2_with fail
       refine EU.out.mono ?_;rintro e LZ ⟨m11,rfl,tC,s11,vM,jD⟩;have jV:=hid jD;have ZA:=hid vM;have zjF:=hid tC;have L6:=vM.kp.a;have L8:=zl vM (by rfl) (c:=0) (of_decide_eq_true (by rfl));clear jD vM tC;obtain⟨b,hb⟩:∃b,xI n lv s11=b:=⟨_,rfl⟩;have hc:=YK.out _ _ jV.out;rw[hb]at hc;have HC:=hid hc;have HB:=hid hb;clear hb hc
       cases b with
       |true=>
        go_wp2_with fail
        refine(HC.out).mono ?_;rintro e w12 ⟨rfl,Vs⟩;have uK:Hid (Mk (kN n lv la lc S g) w0 P s11 w12):=hid (by obtain⟨m,rfl⟩:=Vs;exact zB jV.out m);clear Vs
        go_wp2_with fail
        refine(kL.out _ _ uK.out ⟨by omega,HB.out,by omega⟩).mono ?_;rintro e YP ⟨rfl,s13,Gw,tH⟩;have qJ:=hid tH;have EW:=hid Gw;have EX:=Gw.kp.a;have EY:=zl Gw (by rfl) (c:=4) (of_decide_eq_true (by rfl));clear tH Gw;have XT:Hid (Ev n lv (Lj n lv) (zk 15 false r) s13):=hid (.seq (.yes Gh.out .zu) (.seq vJ.out (.seq qW.out (.seq jq.out (.seq ZA.out (.yes HB.out (.lst EW.out)))))))
        go_wp2_with fail
        refine(jO (k:=15) (s:=r) XT.out qJ.out (λh=>absurd h (by decide))).mono ?_;rintro e ry ⟨rfl,uQ⟩;have uN:=hid uQ;clear uQ;have Vb:zC (fin 15 r s13)=zC s13:=by simp only[zC,fin,List.length_set]
        have EZ:(fin 15 r s13).a=s13.a:=rfl;obtain⟨b15,XU⟩:∃b,isS n lv [121] (fin 15 r s13)=b:=⟨_,rfl⟩;have Qg:=hid (vH hS.out ⟨#[121]⟩ [121] (by decide+kernel) uN.out b15 XU);have ZX:=hid XU;clear XU
        cases b15 with
        |false=>
         go_wp2_with fail
         refine(Qg.out).mono ?_;rintro e w16 ⟨rfl,kF⟩;have jW:Hid (Mk (kN n lv la lc S g) w0 P (fin 15 r s13) w16):=hid (by obtain⟨m,rfl⟩:=kF;exact zB uN.out m);clear kF;have XR:=hid (uI.out (by trivial) _ (.out HI.out (.node XT.out) ZX.out));go_wp2
         go_roundw
         case rel=>exact⟨false,_,rfl,jW.out,by show zC _<=15;omega,by omega,(λh=>by cases h),λ_=>XR.out⟩
         case measure=>
          have e1:=zZ jW.out;have e2:=zZ ZB.out;simp only[Gu];rw[e1,e2];omega
        |true=>
         go_wp2_with fail
         refine(Qg.out).mono ?_;rintro e w16 ⟨rfl,kF⟩;have jW:Hid (Mk (kN n lv la lc S g) w0 P (fin 15 r s13) w16):=hid (by obtain⟨m,rfl⟩:=kF;exact zB uN.out m);clear kF;obtain⟨E5,E8,fA,fC,fD,YT⟩:=uM jW.out (yV (lv:=lv) ZX.out (by decide));have Qh:=hid YT;clear YT;have tJ:=xk (fin 15 r s13);have tK:(zA (fin 15 r s13)).a=(fin 15 r s13).a+1:=rfl;obtain⟨rD,XV⟩:∃z,isS n lv [110] (zA (fin 15 r s13))=z:=⟨_,rfl⟩;have rE:=hid (kC hS Qh.out rD XV);have fE:=hid XV;clear XV
         go_wp2_with fail
         refine rE.out.mono ?_;rintro e fF ⟨m18,rfl,Qi,fG,ZY,Qj⟩;have Qk:=hid Qj;have rF:=hid ZY;have fH:=hid Qi;have fJ:=ZY.kp.a;have fK:=zl ZY (by rfl) (c:=0) (of_decide_eq_true (by rfl));clear Qj ZY Qi;go_wp2
         go_roundw
         case rel=>exact⟨true,_,rfl,Qk.out,by show zC _<=2;omega,by omega,λ_ s' he=>uI.out (by trivial) s' (.go HI.out (.node XT.out) ZX.out (.seq .zu rF.out) he),λh=>by cases h⟩
         case measure=>
          have e1:=zZ Qk.out;have e2:=zZ ZB.out;have:=yV (lv:=lv) ZX.out (by decide);simp only[Gu];rw[e1,e2];omega
       |false=>
        go_wp2_with fail
        refine(HC.out).mono ?_;rintro e w12 ⟨rfl,Vs⟩;have uK:Hid (Mk (kN n lv la lc S g) w0 P s11 w12):=hid (by obtain⟨m,rfl⟩:=Vs;exact zB jV.out m);clear Vs;have qJ:=uK;have EX:s11.a<=s11.a:=Nat.le_refl _;have EY:zC s11<=zC s11:=Int.le_refl _;have XT:Hid (Ev n lv (Lj n lv) (zk 15 false r) s11):=hid (.seq (.yes Gh.out .zu) (.seq vJ.out (.seq qW.out (.seq jq.out (.seq ZA.out (.no HB.out .skip))))))
        go_wp2_with fail
        refine(jO (k:=15) (s:=r) XT.out qJ.out (λh=>absurd h (by decide))).mono ?_;rintro e ry ⟨rfl,uQ⟩;have uN:=hid uQ;clear uQ;have Vb:zC (fin 15 r s11)=zC s11:=by simp only[zC,fin,List.length_set]
        have EZ:(fin 15 r s11).a=s11.a:=rfl;obtain⟨b15,XU⟩:∃b,isS n lv [121] (fin 15 r s11)=b:=⟨_,rfl⟩;have Qg:=hid (vH hS.out ⟨#[121]⟩ [121] (by decide+kernel) uN.out b15 XU);have ZX:=hid XU;clear XU
        cases b15 with
        |false=>
         go_wp2_with fail
         refine(Qg.out).mono ?_;rintro e w16 ⟨rfl,kF⟩;have jW:Hid (Mk (kN n lv la lc S g) w0 P (fin 15 r s11) w16):=hid (by obtain⟨m,rfl⟩:=kF;exact zB uN.out m);clear kF;have XR:=hid (uI.out (by trivial) _ (.out HI.out (.node XT.out) ZX.out));go_wp2
         go_roundw
         case rel=>exact⟨false,_,rfl,jW.out,by show zC _<=15;omega,by omega,(λh=>by cases h),λ_=>XR.out⟩
         case measure=>
          have e1:=zZ jW.out;have e2:=zZ ZB.out;simp only[Gu];rw[e1,e2];omega
        |true=>
         go_wp2_with fail
         refine(Qg.out).mono ?_;rintro e w16 ⟨rfl,kF⟩;have jW:Hid (Mk (kN n lv la lc S g) w0 P (fin 15 r s11) w16):=hid (by obtain⟨m,rfl⟩:=kF;exact zB uN.out m);clear kF;obtain⟨E5,E8,fA,fC,fD,YT⟩:=uM jW.out (yV (lv:=lv) ZX.out (by decide));have Qh:=hid YT;clear YT;have tJ:=xk (fin 15 r s11);have tK:(zA (fin 15 r s11)).a=(fin 15 r s11).a+1:=rfl;obtain⟨rD,XV⟩:∃z,isS n lv [110] (zA (fin 15 r s11))=z:=⟨_,rfl⟩;have rE:=hid (kC hS Qh.out rD XV);have fE:=hid XV;clear XV
         go_wp2_with fail
         refine rE.out.mono ?_;rintro e fF ⟨m18,rfl,Qi,fG,ZY,Qj⟩;have Qk:=hid Qj;have rF:=hid ZY;have fH:=hid Qi;have fJ:=ZY.kp.a;have fK:=zl ZY (by rfl) (c:=0) (of_decide_eq_true (by rfl));clear Qj ZY Qi;go_wp2
         go_roundw
         case rel=>exact⟨true,_,rfl,Qk.out,by show zC _<=2;omega,by omega,λ_ s' he=>uI.out (by trivial) s' (.go HI.out (.node XT.out) ZX.out (.seq .zu rF.out) he),λh=>by cases h⟩
         case measure=>
          have e1:=zZ Qk.out;have e2:=zZ ZB.out;have:=yV (lv:=lv) ZX.out (by decide);simp only[Gu];rw[e1,e2];omega
    |false=>
     go_wp2_with fail
     refine(Ny.out).mono ?_;rintro e w7 ⟨rfl,uT⟩;have yJ:Hid (Mk (kN n lv la lc S g) w0 P (zk 15 false r) w7):=hid (by obtain⟨m,rfl⟩:=uT;exact zB zL.out m);clear uT;have VJ:zC (zk 15 false r)<=zC (zk 15 false r):=Int.le_refl _;have VI:(zk 15 false r).a=r.a:=rfl
     go_wp2_with fail
     refine(XO.out _ _ yJ.out (by omega)).mono ?_;rintro e w8 ⟨rfl,s8,zS,yj⟩;have yQ:=hid yj;have vJ:=hid zS;have ZV:=zS.kp.a;have Xe:=zl zS (by rfl) (c:=1) (of_decide_eq_true (by rfl));clear yj zS;go_wp2
     go_loopw [] (λwr=>Rl (kN n lv la lc S g) w0 P (.rep (isS n lv [124]) (.seq .zu (JU n lv)) qA .skip) s8 6 wr) (λwr=>n+1-Zb g wr)
     case atStart=>exact⟨s8,yQ.out,by omega,Nat.le_refl _,λ_ h=>h⟩
     case round=>
      obtain⟨q,WC,hpq,haq,hkq⟩:=hrel;have Ky:=hid hkq;have zq:=hid WC;clear hkq WC;obtain⟨b9,YS⟩:∃b,isS n lv [124] q=b:=⟨_,rfl⟩;have Jr:=hid (vH hS.out ⟨#[124]⟩ [124] (by decide+kernel) zq.out b9 YS);have Gv:=hid YS;clear YS
      cases b9 with
      |true=>
       go_wp2_with fail
       refine(Jr.out).mono ?_;rintro e w9 ⟨rfl,vz⟩;have yl:Hid (Mk (kN n lv la lc S g) w0 P q w9):=hid (by obtain⟨m,rfl⟩:=vz;exact zB zq.out m);clear vz;obtain⟨zbr,zbs,zbt,zbu,zbv,vZ⟩:=uM yl.out (yV (lv:=lv) Gv.out (by decide));have uB:=hid vZ;clear vZ;have WE:=xk q;have Kw:(zA q).a=q.a+1:=rfl
       go_wp2_with fail
       refine(XO.out _ _ uB.out (by omega)).mono ?_;rintro e LZ ⟨rfl,s11,vM,jD⟩;have jV:=hid jD;have ZA:=hid vM;have L6:=vM.kp.a;have L8:=zl vM (by rfl) (c:=1) (of_decide_eq_true (by rfl));clear jD vM;go_wp2
       go_roundw
       case rel=>exact⟨_,jV.out,by omega,by omega,λs' he=>Ky.out s' (.go Gv.out (.seq .zu ZA.out) rfl .skip he)⟩
       case measure=>
        have e1:=zZ jV.out;have e2:=zZ zq.out;have:=yV (lv:=lv) Gv.out (by decide);have hmm:=jV.out.yM;change s11.a<=n at hmm;rw[e1,e2];omega
      |false=>
       go_wp2_with fail
       refine(Jr.out).mono ?_;rintro e w9 ⟨rfl,vz⟩;have yl:Hid (Mk (kN n lv la lc S g) w0 P q w9):=hid (by obtain⟨m,rfl⟩:=vz;exact zB zq.out m);clear vz;have qW:=hid (Ky.out _ (.stop Gv.out))
       go_wp2_with fail
       refine(Xf.out _ _ yl.out (xH yl.out (by omega))).mono ?_;rintro e w10 ⟨rfl,s10,uf,vZ⟩;have uB:=hid vZ;have jq:=hid uf;have Kw:=uf.kp.a;have WE:=zl uf (by rfl) (c:=1) (of_decide_eq_true (by rfl));clear vZ uf;obtain⟨z11,rC⟩:∃z,isS n lv [110] s10=z:=⟨_,rfl⟩;have EU:=hid (kC hS uB.out z11 rC);have zjE:=hid rC;clear rC
       go_wp2_with fail
       refine EU.out.mono ?_;rintro e LZ ⟨m11,rfl,tC,s11,vM,jD⟩;have jV:=hid jD;have ZA:=hid vM;have zjF:=hid tC;have L6:=vM.kp.a;have L8:=zl vM (by rfl) (c:=0) (of_decide_eq_true (by rfl));clear jD vM tC;obtain⟨b,hb⟩:∃b,xI n lv s11=b:=⟨_,rfl⟩;have hc:=YK.out _ _ jV.out;rw[hb]at hc;have HC:=hid hc;have HB:=hid hb;clear hb hc
       cases b with
       |true=>
        go_wp2_with fail
        refine(HC.out).mono ?_;rintro e w12 ⟨rfl,Vs⟩;have uK:Hid (Mk (kN n lv la lc S g) w0 P s11 w12):=hid (by obtain⟨m,rfl⟩:=Vs;exact zB jV.out m);clear Vs
        go_wp2_with fail
        refine(kL.out _ _ uK.out ⟨by omega,HB.out,by omega⟩).mono ?_;rintro e YP ⟨rfl,s13,Gw,tH⟩;have qJ:=hid tH;have EW:=hid Gw;have EX:=Gw.kp.a;have EY:=zl Gw (by rfl) (c:=4) (of_decide_eq_true (by rfl));clear tH Gw;have XT:Hid (Ev n lv (Lj n lv) (zk 15 false r) s13):=hid (.seq (.no Gh.out .skip) (.seq vJ.out (.seq qW.out (.seq jq.out (.seq ZA.out (.yes HB.out (.lst EW.out)))))))
        go_wp2_with fail
        refine(jO (k:=15) (s:=r) XT.out qJ.out (λh=>absurd h (by decide))).mono ?_;rintro e ry ⟨rfl,uQ⟩;have uN:=hid uQ;clear uQ;have Vb:zC (fin 15 r s13)=zC s13:=by simp only[zC,fin,List.length_set]
        have EZ:(fin 15 r s13).a=s13.a:=rfl;obtain⟨b15,XU⟩:∃b,isS n lv [121] (fin 15 r s13)=b:=⟨_,rfl⟩;have Qg:=hid (vH hS.out ⟨#[121]⟩ [121] (by decide+kernel) uN.out b15 XU);have ZX:=hid XU;clear XU
        cases b15 with
        |false=>
         go_wp2_with fail
         refine(Qg.out).mono ?_;rintro e w16 ⟨rfl,kF⟩;have jW:Hid (Mk (kN n lv la lc S g) w0 P (fin 15 r s13) w16):=hid (by obtain⟨m,rfl⟩:=kF;exact zB uN.out m);clear kF;have XR:=hid (uI.out (by trivial) _ (.out HI.out (.node XT.out) ZX.out));go_wp2
         go_roundw
         case rel=>exact⟨false,_,rfl,jW.out,by show zC _<=15;omega,by omega,(λh=>by cases h),λ_=>XR.out⟩
         case measure=>
          have e1:=zZ jW.out;have e2:=zZ ZB.out;simp only[Gu];rw[e1,e2];omega
        |true=>
         go_wp2_with fail
         refine(Qg.out).mono ?_;rintro e w16 ⟨rfl,kF⟩;have jW:Hid (Mk (kN n lv la lc S g) w0 P (fin 15 r s13) w16):=hid (by obtain⟨m,rfl⟩:=kF;exact zB uN.out m);clear kF;obtain⟨E5,E8,fA,fC,fD,YT⟩:=uM jW.out (yV (lv:=lv) ZX.out (by decide));have Qh:=hid YT;clear YT;have tJ:=xk (fin 15 r s13);have tK:(zA (fin 15 r s13)).a=(fin 15 r s13).a+1:=rfl;obtain⟨rD,XV⟩:∃z,isS n lv [110] (zA (fin 15 r s13))=z:=⟨_,rfl⟩;have rE:=hid (kC hS Qh.out rD XV);have fE:=hid XV;clear XV
         go_wp2_with fail
         refine rE.out.mono ?_;rintro e fF ⟨m18,rfl,Qi,fG,ZY,Qj⟩;have Qk:=hid Qj;have rF:=hid ZY;have fH:=hid Qi;have fJ:=ZY.kp.a;have fK:=zl ZY (by rfl) (c:=0) (of_decide_eq_true (by rfl));clear Qj ZY Qi;go_wp2
         go_roundw
         case rel=>exact⟨true,_,rfl,Qk.out,by show zC _<=2;omega,by omega,λ_ s' he=>uI.out (by trivial) s' (.go HI.out (.node XT.out) ZX.out (.seq .zu rF.out) he),λh=>by cases h⟩
         case measure=>
          have e1:=zZ Qk.out;have e2:=zZ ZB.out;have:=yV (lv:=lv) ZX.out (by decide);simp only[Gu];rw[e1,e2];omega
       |false=>
        go_wp2_with fail
        refine(HC.out).mono ?_;rintro e w12 ⟨rfl,Vs⟩;have uK:Hid (Mk (kN n lv la lc S g) w0 P s11 w12):=hid (by obtain⟨m,rfl⟩:=Vs;exact zB jV.out m);clear Vs;have qJ:=uK;have EX:s11.a<=s11.a:=Nat.le_refl _;have EY:zC s11<=zC s11:=Int.le_refl _;have XT:Hid (Ev n lv (Lj n lv) (zk 15 false r) s11):=hid (.seq (.no Gh.out .skip) (.seq vJ.out (.seq qW.out (.seq jq.out (.seq ZA.out (.no HB.out .skip))))))
        go_wp2_with fail
        refine(jO (k:=15) (s:=r) XT.out qJ.out (λh=>absurd h (by decide))).mono ?_;rintro e ry ⟨rfl,uQ⟩;have uN:=hid uQ;clear uQ;have Vb:zC (fin 15 r s11)=zC s11:=by simp only[zC,fin,List.length_set]
        have EZ:(fin 15 r s11).a=s11.a:=rfl;obtain⟨b15,XU⟩:∃b,isS n lv [121] (fin 15 r s11)=b:=⟨_,rfl⟩;have Qg:=hid (vH hS.out ⟨#[121]⟩ [121] (by decide+kernel) uN.out b15 XU);have ZX:=hid XU;clear XU
        cases b15 with
        |false=>
         go_wp2_with fail
         refine(Qg.out).mono ?_;rintro e w16 ⟨rfl,kF⟩;have jW:Hid (Mk (kN n lv la lc S g) w0 P (fin 15 r s11) w16):=hid (by obtain⟨m,rfl⟩:=kF;exact zB uN.out m);clear kF;have XR:=hid (uI.out (by trivial) _ (.out HI.out (.node XT.out) ZX.out));go_wp2
         go_roundw
         case rel=>exact⟨false,_,rfl,jW.out,by show zC _<=15;omega,by omega,(λh=>by cases h),λ_=>XR.out⟩
         case measure=>
          have e1:=zZ jW.out;have e2:=zZ ZB.out;simp only[Gu];rw[e1,e2];omega
        |true=>
         go_wp2_with fail
         refine(Qg.out).mono ?_;rintro e w16 ⟨rfl,kF⟩;have jW:Hid (Mk (kN n lv la lc S g) w0 P (fin 15 r s11) w16):=hid (by obtain⟨m,rfl⟩:=kF;exact zB uN.out m);clear kF;obtain⟨E5,E8,fA,fC,fD,YT⟩:=uM jW.out (yV (lv:=lv) ZX.out (by decide));have Qh:=hid YT;clear YT;have tJ:=xk (fin 15 r s11);have tK:(zA (fin 15 r s11)).a=(fin 15 r s11).a+1:=rfl;obtain⟨rD,XV⟩:∃z,isS n lv [110] (zA (fin 15 r s11))=z:=⟨_,rfl⟩;have rE:=hid (kC hS Qh.out rD XV);have fE:=hid XV;clear XV
         go_wp2_with fail
         refine rE.out.mono ?_;rintro e fF ⟨m18,rfl,Qi,fG,ZY,Qj⟩;have Qk:=hid Qj;have rF:=hid ZY;have fH:=hid Qi;have fJ:=ZY.kp.a;have fK:=zl ZY (by rfl) (c:=0) (of_decide_eq_true (by rfl));clear Qj ZY Qi;go_wp2
         go_roundw
         case rel=>exact⟨true,_,rfl,Qk.out,by show zC _<=2;omega,by omega,λ_ s' he=>uI.out (by trivial) s' (.go HI.out (.node XT.out) ZX.out (.seq .zu rF.out) he),λh=>by cases h⟩
         case measure=>
          have e1:=zZ Qk.out;have e2:=zZ ZB.out;have:=yV (lv:=lv) ZX.out (by decide);simp only[Gu];rw[e1,e2];omega
   |false=>
    have vX:Hid (Ev n lv (dO n lv) s4 r):=hid (by
     have h:=HY5.out
     cases mo with
     |false=>exact vK.out (by trivial)
     |true=>exact uI.out (by trivial) _ (.stop (by rwa [Bool.true_and]at h)))
    have zoB:zC r<=15:=by
     cases mo with
     |false=>exact hpr
     |true=>have h2:zC r<=2:=hpr;omega
    clear hpr
    go_wp2_with fail
    refine(PG.out _ _ qK.out (xH qK.out (by omega))).mono ?_;rintro e w6 ⟨rfl,s6,zD,zG⟩;have zL:=hid zG;have y8:=hid zD;have ha6:=zD.kp.a;have ku:=zl zD (by rfl) (c:=1) (of_decide_eq_true (by rfl));clear zG zD;go_wp2
    go_end0
    exact⟨rfl,_,.seq yU.out (.seq HE2.out (.seq yN.out (.seq xA.out (.seq (vX.out) y8.out)))),zL.out⟩
end
end Go.Proofs.YtkolpaonccmgiaaGreatDoor.Q

/- What the document's own Compound, Command and Pipe -/
import Derived.Test.YtkolpaonccmgiaaGreatDoorSe
import Derived.Test.YtkolpaonccmgiaaGreatDoorSx
namespace Go.Proofs.YtkolpaonccmgiaaGreatDoor.Q
set_option linter.unusedSectionVars false
set_option linter.unusedVariables false
open Go.Proofs.Tryz
open Lib(hid)
set_option maxHeartbeats 8000000
set_option maxRecDepth 100000
open Go.RowKit
section
variable{n:Nat}{lv:Nat->Lf}{la:Option Addr}{lc g:Nat}{S:ByteArray}{w0:World}{P:Nat->Prop}
theorem VN{w:World}{s:PS}(hM:Mk (kN n lv la lc S g) w0 P s w):w.cell? ⟨g,3,none⟩=some (.int .i64 (s.a:Int))/\w.frozen? ⟨g,3,none⟩=false:=by
 obtain⟨nv,hB,_⟩:=hM.own;exact⟨hB.cell 3,zf.frozen (t:=54) hB 3⟩
theorem zaU{w:World}{s:PS}(hM:Mk (kN n lv la lc S g) w0 P s w):IntKind.i64.wrap ((s.a:Int)+1)=((s.a+1:Nat):Int):=by
 have h1:=hM.yM;have h2:=hM.st.nle;change s.a<=n at h1;change n<=10000 at h2;rw[IntWalk.i64_in _ (by omega)];rfl
theorem zaV{w:World}{s:PS}(hM:Mk (kN n lv la lc S g) w0 P s w)(h:s.a<n):Mk (kN n lv la lc S g) w0 P (zA s) (w.setCell ⟨g,3,none⟩ (.int .i64 ((s.a+1:Nat):Int))):=
 hM.turn rfl h ((zg.refl _ _).put _ _) (λnv h=>h.set 3 _)
theorem uM{w:World}{s:PS}(hM:Mk (kN n lv la lc S g) w0 P s w)(h:s.a<n):∃ap a1:Nat,w.cell? ⟨g,3,none⟩=some (.int .i64 (ap:Int))/\w.frozen? ⟨g,3,none⟩=false/\IntKind.i64.wrap ((ap:Int)+1)=(a1:Int)/\Mk (kN n lv la lc S g) w0 P (zA s) (w.setCell ⟨g,3,none⟩ (.int .i64 (a1:Int))):=⟨s.a,s.a+1,(VN hM).1,(VN hM).2,zaU hM,zaV hM h⟩
theorem xH{s:PS}{w:World}(hM:Mk (kN n lv la lc S g) w0 P s w)(h:zC s<=1000):s.L.length<=900000:=by
 have h1:=hM.yM;have h2:=hM.st.nle;change s.a<=n at h1;change n<=10000 at h2;unfold zC at h;omega
def Zb(R:Nat)(W:World):Nat:=match W.cell? ⟨R,3,none⟩with|some (.int _ a)=>a.toNat|_=>0
theorem zZ{w:World}{s:PS}(hM:Mk (kN n lv la lc S g) w0 P s w):Zb g w=s.a:=by
 unfold Zb;rw[(VN hM).1];simp
theorem zaW(hS:qi n lv S):PX (kN n lv la lc S g) g 81 (kZ n lv):=by
 intro w0 P w s hM;have HC:=hid (vH hS _ _ zji hM _ rfl);have hc5:∀m,(w.drewN m).cell? ⟨g,5,none⟩=some (.int .i64 (s.d:Int)):=λm=>by
  obtain⟨nv,hB,_⟩:=(zB hM m).own;exact hB.cell 5
 unfold kZ;obtain⟨b,hb⟩:∃b,isS n lv [123,40,105,119,114,99] s=b:=⟨_,rfl⟩;rw[hb]at HC;rw[show [123,40,105,119,114,99].contains (zJ n lv s.a)=b from hb];obtain⟨d,hd⟩:∃d,s.d=d:=⟨_,rfl⟩;rw[hd]at hc5 ⊢;obtain⟨q,hq⟩:∃q,decide (d<200)=q:=⟨_,rfl⟩;rw[hq];have hq2:decide ((d:Int)<200)=q:=by rw[←hq,Bool.eq_iff_iff];simp;omega
 have H5:=hid hc5;clear hM hS hb hd hq hc5
 cases b with
 |false=>
  go_enter func81,ntmps81
  go_wp2_with fail
  refine HC.out.mono ?_;rintro e w1 ⟨rfl,hm1⟩;have HX:=hid hm1;clear hm1;go_wp2;go_ret;exact⟨rfl,HX.out⟩
 |true=>
  go_enter func81,ntmps81
  go_wp2_with fail
  refine HC.out.mono ?_;rintro e w1 ⟨rfl,hm1⟩;have HX:=hid hm1;have c5:w1.cell? ⟨g,5,none⟩=some (.int .i64 (d:Int)):=by obtain⟨m,rfl⟩:=hm1;exact H5.out m
  clear hm1;go_wp2;go_ret;exact⟨rfl,HX.out⟩
theorem zaX(hS:qi n lv S):PX (kN n lv la lc S g) g 55 (XL n lv):=by
 intro w0 P w s hM;have HC:=hid (vH hS _ _ zaT hM _ rfl);have HR:=hid (λm=>We hS w0 P _ s (zB hM m));have HP:=hid (λm=>zaW hS w0 P _ s (zB hM m));unfold XL;obtain⟨b,hb⟩:∃b,isS n lv [120] s=b:=⟨_,rfl⟩;rw[hb]at HC;rw[show(zJ n lv s.a==120)=b from by rw[←hb,xu rfl]];obtain⟨r,hr⟩:∃r,vG n lv s=r:=⟨_,rfl⟩;rw[hr]at HR ⊢;obtain⟨p,hp⟩:∃p,kZ n lv s=p:=⟨_,rfl⟩;rw[hp]at HP ⊢;clear hM hS hb hr hp
 cases b with
 |true=>
  go_enter func55,ntmps55
  go_wp2_with fail
  refine HC.out.mono ?_;rintro e w1 ⟨rfl,hm1⟩;have HX:=hid hm1;clear hm1;go_wp2;go_ret;exact⟨rfl,HX.out⟩
 |false=>
  cases r with
  |true=>
   go_enter func55,ntmps55
   go_wp2_with fail
   refine HC.out.mono ?_;rintro e w1 ⟨rfl,hm1⟩;have HX:=hid hm1;clear hm1;obtain⟨m1,rfl⟩:=HX.out;clear HX
   go_wp2_with fail
   refine(Calls.quiet_of (HR.out m1)).mono ?_;rintro e w2 ⟨rfl,hm2⟩;have Dk:=hid hm2;clear hm2;go_wp2;go_ret;exact⟨rfl,Dk.out⟩
  |false=>
   go_enter func55,ntmps55
   go_wp2_with fail
   refine HC.out.mono ?_;rintro e w1 ⟨rfl,hm1⟩;have HX:=hid hm1;clear hm1;obtain⟨m1,rfl⟩:=HX.out;clear HX
   go_wp2_with fail
   refine(Calls.quiet_of (HR.out m1)).mono ?_;rintro e w2 ⟨rfl,hm2⟩;have Dk:=hid hm2;clear hm2;obtain⟨m2,rfl⟩:=Dk.out;clear Dk
   go_wp2_with fail
   refine(Calls.quiet_of (HP.out m2)).mono ?_;rintro e w3 ⟨rfl,qH⟩;have HX3:=hid qH;clear qH;go_wp2;go_ret;exact⟨rfl,HX3.out⟩
theorem NI(hS:qi n lv S):PX (kN n lv la lc S g) g 33 (xI n lv):=by
 intro w0 P w s hM;have HC:=hid (vH hS _ _ zjj hM _ rfl);have HR:=hid (λm=>zaX hS w0 P _ s (zB hM m));unfold xI;obtain⟨b,hb⟩:∃b,isS n lv [33] s=b:=⟨_,rfl⟩;rw[hb]at HC;rw[show(zJ n lv s.a==33)=b from by rw[←hb,xu rfl]];obtain⟨r,hr⟩:∃r,XL n lv s=r:=⟨_,rfl⟩;rw[hr]at HR ⊢;clear hM hS hb hr
 cases b with
 |true=>
  go_enter func33,ntmps33
  go_wp2_with fail
  refine HC.out.mono ?_;rintro e w1 ⟨rfl,hm1⟩;have HX:=hid hm1;clear hm1;go_wp2;go_ret;exact⟨rfl,HX.out⟩
 |false=>
  go_enter func33,ntmps33
  go_wp2_with fail
  refine HC.out.mono ?_;rintro e w1 ⟨rfl,hm1⟩;have HX:=hid hm1;clear hm1;obtain⟨m1,rfl⟩:=HX.out;clear HX
  go_wp2_with fail
  refine(Calls.quiet_of (HR.out m1)).mono ?_;rintro e w2 ⟨rfl,hm2⟩;have Dk:=hid hm2;clear hm2;go_wp2;go_ret;exact⟨rfl,Dk.out⟩
theorem Dn:yT (kN n lv la lc S g) w0 P 75 #[.pointer (some ⟨g,0,none⟩)] Vj (λs=>s.L.length<=900000):=by
 intro w s hM hl;have LM:=hid (Xh 18 hM hl (λh=>absurd h (by decide)));clear hM;go_enter func75,ntmps75
 go_wp2_with fail
 refine LM.out.mono ?_;rintro e w1 ⟨rfl,hM1⟩;have Gj:=hid (jO (k:=18) (s:=s) (.skip (n:=n) (lv:=lv)) hM1 (λh=>absurd h (by decide)));clear hM1
 go_wp2_with fail
 refine Gj.out.mono ?_;rintro e w2 ⟨rfl,hM2⟩;have zo:=hid hM2;clear hM2;go_wp2
 go_end0
 exact⟨rfl,_,.node .skip,zo.out⟩
theorem PZ(k:Int)(hk:Vq k=false):yT (kN n lv la lc S g) w0 P 35 #[.pointer (some ⟨g,0,none⟩),.int .i64 k] (.node k false .zu) (λs=>s.a<n/\s.L.length<=900000):=by
 intro w s hM ⟨hlt,hl⟩;have LM:=hid (Xh k hM hl (λh=>by rw[hk]at h;cases h));rw[hk]at LM;have HK:=hid hk;clear hM hk;go_enter func35,ntmps35
 go_wp2_with fail
 refine LM.out.mono ?_;rintro e w1 ⟨rfl,hM1⟩;have hlt1:(zk k false s).a<n:=hlt;obtain⟨e3,f3⟩:=VN hM1;have hw:=zaU hM1;have hM2:=zaV hM1 hlt1;have Gj:=hid (jO (k:=k) (s:=s) (b:=.zu) (by rw[HK.out];exact .zu) hM2 (λh=>by rw[HK.out]at h;cases h));clear hM1 hM2
 go_wp2_with fail
 refine Gj.out.mono ?_;rintro e w3 ⟨rfl,zx⟩;have zn:=hid zx;clear zx;go_wp2
 go_end0
 exact⟨rfl,_,.node .zu,zn.out⟩
theorem jo(hS:Hid (qi n lv S))(t:ByteArray)(c:Nat)(hl:XP t [c]):yT (kN n lv la lc S g) w0 P 124 #[.pointer (some ⟨g,0,none⟩),.string t] (JS n lv c) (λs=>s.L.length<=900000):=by
 intro w s hM hlen;obtain⟨b,hb⟩:∃b,isS n lv [c] s=b:=⟨_,rfl⟩;have HC:=hid (vH hS.out t [c] hl hM b hb);have uP:=hid (Dn (n:=n) (lv:=lv) (la:=la) (lc:=lc) (S:=S) (g:=g) (w0:=w0) (P:=P));have HB:=hid hb;have HL:=hid hl.1;have HM:=hid hM;clear hM hb hl
 cases b with
 |true=>
  go_enter func124,ntmps124
  go_wp2_with fail
  refine(HC.out).mono ?_;rintro e w1 ⟨rfl,hm1⟩;have zt:Hid (Mk (kN n lv la lc S g) w0 P s w1):=hid (by obtain⟨m,rfl⟩:=hm1;exact zB HM.out m);clear hm1;obtain⟨ap2,ax2,zop,zoq,hw2,hM2⟩:=uM zt.out (yV (lv:=lv) HB.out HL.out);have zo:=hid hM2;clear hM2;have hp2:=xk s;have ha2:(zA s).a=s.a+1:=rfl;go_wp2
  go_end0
  exact⟨rfl,_,.yes HB.out .zu,zo.out⟩
 |false=>
  go_enter func124,ntmps124
  go_wp2_with fail
  refine(HC.out).mono ?_;rintro e w1 ⟨rfl,hm1⟩;have zt:Hid (Mk (kN n lv la lc S g) w0 P s w1):=hid (by obtain⟨m,rfl⟩:=hm1;exact zB HM.out m);clear hm1
  go_wp2_with fail
  refine(uP.out _ _ zt.out hlen).mono ?_;rintro e w2 ⟨rfl,s2,he2,hM2⟩;have zo:=hid hM2;have HE2:=hid he2;have ha2:=he2.kp.a;clear hM2 he2;go_wp2
  go_end0
  exact⟨rfl,_,.no HB.out HE2.out,zo.out⟩
def zjk(n:Nat)(lv:Nat->Lf)(la:Option Addr)(lc:Nat)(S:ByteArray)(g:Nat)(w0:World)(P:Nat->Prop)(s:PS)(v:Value)(wr:World):Prop:=
 ∃(r:PS) (m:Nat),v=.int .i64 (m:Int)/\m<=r.a/\Mk (kN n lv la lc S g) w0 P r wr/\s.a<=r.a/\((m=0/\r=s)\/(0<m/\isS n lv [110] s=true))/\∀s',Ev n lv (um n lv) r s'->Ev n lv (um n lv) s s'
theorem kC(hS:Hid (qi n lv S)){w:World}{s:PS}(hM:Mk (kN n lv la lc S g) w0 P s w)(b0:Bool)(hb0:isS n lv [110] s=b0):
  Calls prog 56 #[.pointer (some ⟨g,0,none⟩)] w λe w'=>∃m:Nat,e=.returned (.int .i64 (m:Int))/\((m=0/\b0=false)\/(0<m/\b0=true))/\∃s',Ev n lv (um n lv) s s'/\Mk (kN n lv la lc S g) w0 P s' w':=by
 have HM:=hid hM;have HB0:=hid hb0;clear hM hb0;go_enter func56,ntmps56;go_wp2
 go_loopw [3] (λv wr=>zjk n lv la lc S g w0 P s v wr) (λ_ wr=>n+1-Zb g wr)
 case atStart=>exact⟨s,0,rfl,Nat.zero_le _,HM.out,Nat.le_refl _,.inl ⟨rfl,rfl⟩,λ_ h=>h⟩
 case round=>
  obtain⟨r,m,rfl,hma,hMr,h1,h2,h4⟩:=hrel;have kW:=hMr.yM;have P5:=hMr.st.nle;change r.a<=n at kW;change n<=10000 at P5;have HH:=hid (And.intro h2 h4);have zq:=hid hMr;obtain⟨b1,hb1⟩:∃b,isS n lv [110] r=b:=⟨_,rfl⟩;have wZ:=hid (vH hS.out ⟨#[110]⟩ [110] (by decide+kernel) hMr b1 hb1);have HB1:=hid hb1;clear hb1;clear hMr h2 h4
  cases b1 with
  |true=>
   have hwm:IntKind.i64.wrap ((m:Int)+1)=((m+1:Nat):Int):=by rw[IntWalk.i64_in _ (by omega)];rfl
   go_wp2_with fail
   refine(wZ.out).mono ?_;rintro e w2 ⟨rfl,hm2⟩;have zo:Hid (Mk (kN n lv la lc S g) w0 P r w2):=hid (by obtain⟨m,rfl⟩:=hm2;exact zB zq.out m);clear hm2;obtain⟨ap3,ax3,zor,zos,hw3,zx⟩:=uM zo.out (yV (lv:=lv) HB1.out (by decide));have zn:=hid zx;clear zx;have hp3:=xk r;have ji:(zA r).a=r.a+1:=rfl;go_wp2
   go_roundw
   case rel=>
    refine⟨zA r,m+1,rfl,by omega,zn.out,by omega,.inr ⟨Nat.succ_pos _,?_⟩,λs' he=>HH.out.2 s' (.go HB1.out .zu rfl .skip he)⟩;rcases HH.out.1 with⟨_,e⟩|⟨_,e⟩
    ·rw[←e];exact HB1.out
    ·exact e
   case measure=>
    have e1:=zZ zn.out;have e2:=zZ zq.out;have:=yV (lv:=lv) HB1.out (by decide);rw[e1,e2];omega
  |false=>
   go_wp2_with fail
   refine(wZ.out).mono ?_;rintro e w2 ⟨rfl,hm2⟩;have zo:Hid (Mk (kN n lv la lc S g) w0 P r w2):=hid (by obtain⟨m,rfl⟩:=hm2;exact zB zq.out m);clear hm2;go_wp2;go_ret;refine⟨m,rfl,?_,_,HH.out.2 r (.stop HB1.out),zo.out⟩;rcases HH.out.1 with⟨e1,e2⟩|⟨e1,e2⟩
   ·exact .inl ⟨e1,by rw[←HB0.out,←e2];exact HB1.out⟩
   ·exact .inr ⟨e1,by rw[←HB0.out];exact e2⟩
end
section
variable{n:Nat}{lv:Nat->Lf}{la:Option Addr}{lc g:Nat}{S:ByteArray}{w0:World}{P:Nat->Prop}
theorem Gn{w:World}{s:PS}(hM:Mk (kN n lv la lc S g) w0 P s w):w.cell? ⟨g,0,none⟩=some (.slice la n lc):=by
 obtain⟨nv,hB,_⟩:=hM.own;exact hB.cell 0
theorem Wh{w:World}{s:PS}(hM:Mk (kN n lv la lc S g) w0 P s w)(h:s.a<n):∃lb lo,la=some ⟨lb,lo,none⟩/\w.cell? ⟨lb,lo+s.a*4,none⟩=some (.int .i64 (yF n lv s.a).k)/\w.cell? ⟨lb,lo+s.a*4+1,none⟩=some (.string (yF n lv s.a).s):=by
 obtain⟨b,off,h1,h2,h3,h4,_⟩:=hM.row s.a h;have e:yF n lv s.a=lv s.a:=by unfold yF;rw[if_pos h]
 rw[e];exact⟨b,off,h1,h3,h4⟩
def YL(n:Nat)(lv:Nat->Lf)(la:Option Addr)(lc:Nat)(S:ByteArray)(g a0:Nat):Prop:=
 ∀(w0:World) (P:Nat->Prop),yT (kN n lv la lc S g) w0 P 34 #[.pointer (some ⟨g,0,none⟩)] (Q3 n lv) (λs=>a0<s.a/\xI n lv s=true/\zC s<=10)
theorem zaY(hS:Hid (qi n lv S)):yT (kN n lv la lc S g) w0 P 156 #[.pointer (some ⟨g,0,none⟩)] (JU n lv) (λs=>zC s<=200):=by
 intro w s hM hp;have uP:=hid (Dn (n:=n) (lv:=lv) (la:=la) (lc:=lc) (S:=S) (g:=g) (w0:=w0) (P:=P));have qg:=hid (λk hk=>PZ (n:=n) (lv:=lv) (la:=la) (lc:=lc) (S:=S) (g:=g) (w0:=w0) (P:=P) k hk);have HM:=hid hM;clear hM;go_enter func156,ntmps156;have LP:=Gn HM.out;have Gp:=(VN HM.out).1;by_cases hlt1:s.a<n
 ·obtain⟨lb,lo,NJ,LQ,P6⟩:=Wh HM.out hlt1
  obtain⟨a1,VO⟩:∃a,s.a=a:=⟨_,rfl⟩;obtain⟨k1,LU⟩:∃k,(yF n lv s.a).k=k:=⟨_,rfl⟩;have hy1:xh n lv s=decide (k1=6):=by unfold xh;rw[LU]
  rw[LU]at LQ;rw[VO]at Gp LQ;rw[NJ]at LP;have zjl:(0:Int)<=(a1:Int):=by omega
  have LV:(a1:Int)<(n:Int):=by omega
  have Et:decide (a1<n)=true:=by simp;omega
  have Eu:decide ((a1:Int)<(n:Int))=true:=decide_eq_true LV;have zjm:=hid VO;clear LU NJ P6 VO;by_cases J5:k1=6
  ·rw[decide_eq_true J5]at hy1
   subst J5;have Gq:=hid hy1;clear hy1;go_wp2
   go_quiet (fail)
   have kD:=hid (zB HM.out nq);clear LP Gp LQ;obtain⟨Ew,hwq1⟩:∃W,(w).drewN nq=W:=⟨_,rfl⟩;rw[hwq1]at kD ⊢;clear hwq1
   go_wp2_with fail
   refine(qg.out 7 rfl _ _ kD.out ⟨hlt1,xH kD.out (by omega)⟩).mono ?_;rintro e w2 ⟨rfl,s2,he2,hM2⟩;have zo:=hid hM2;have HE2:=hid he2;have ha2:=he2.kp.a;have hp2:=zl he2 (by rfl) (c:= -29) (of_decide_eq_true (by rfl));clear hM2 he2;go_wp2
   go_end0
   exact⟨rfl,_,.yes Gq.out HE2.out,zo.out⟩
  ·rw[decide_eq_false J5]at hy1
   have zjn:(k1==6)=false:=by simpa using J5
   have Gq:=hid hy1;clear hy1 J5;go_wp2
   go_quiet (fail)
   have kD:=hid (zB HM.out nq);clear LP Gp LQ;obtain⟨Ew,hwq1⟩:∃W,(w).drewN nq=W:=⟨_,rfl⟩;rw[hwq1]at kD ⊢;clear hwq1
   go_wp2_with fail
   refine(uP.out _ _ kD.out (xH kD.out (by omega))).mono ?_;rintro e w2 ⟨rfl,s2,he2,hM2⟩;have zo:=hid hM2;have HE2:=hid he2;have ha2:=he2.kp.a;have hp2:=zl he2 (by rfl) (c:=1) (of_decide_eq_true (by rfl));clear hM2 he2;go_wp2
   go_end0
   exact⟨rfl,_,.no Gq.out HE2.out,zo.out⟩
 ·obtain⟨a1,VO⟩:∃a,s.a=a:=⟨_,rfl⟩
  have Gq:Hid (xh n lv s=false):=hid (by
   cases e:xh n lv s with
   |false=>rfl
   |true=>have:=ZR e;omega)
  rw[VO]at Gp;have LV:¬(a1:Int)<(n:Int):=by omega
  have Et:decide (a1<n)=false:=by simp;omega
  have Eu:decide ((a1:Int)<(n:Int))=false:=decide_eq_false LV;have zjm:=hid VO;clear VO;go_wp2
  go_quiet (fail)
  have kD:=hid (zB HM.out nq);clear LP Gp;obtain⟨Ew,hwq1⟩:∃W,(w).drewN nq=W:=⟨_,rfl⟩;rw[hwq1]at kD ⊢;clear hwq1
  go_wp2_with fail
  refine(uP.out _ _ kD.out (xH kD.out (by omega))).mono ?_;rintro e w2 ⟨rfl,s2,he2,hM2⟩;have zo:=hid hM2;have HE2:=hid he2;have ha2:=he2.kp.a;have hp2:=zl he2 (by rfl) (c:=1) (of_decide_eq_true (by rfl));clear hM2 he2;go_wp2
  go_end0
  exact⟨rfl,_,.no Gq.out HE2.out,zo.out⟩
theorem LW(hS:Hid (qi n lv S)):yT (kN n lv la lc S g) w0 P 125 #[.pointer (some ⟨g,0,none⟩)] (wP n lv) (λs=>vG n lv s=true/\zC s<=90):=by
 intro w s hM ⟨hr,hp⟩;have hlt:=zhX hr;have hpb:=qC 8 false s;have XO:=hid (zaY (n:=n) (lv:=lv) (la:=la) (lc:=lc) (S:=S) (g:=g) (w0:=w0) (P:=P) hS);have HR:=hid hr;have HM:=hid hM;clear hM hr;go_enter func125,ntmps125
 go_wp2_with fail
 refine(Xh 8 HM.out (xH HM.out (by omega)) (λh=>absurd h (by decide))).mono ?_;rintro e w1 ⟨rfl,hM1⟩;have zt:Hid (Mk (kN n lv la lc S g) w0 P (zk 8 false s) w1):=hid hM1;have hp1:=qC 8 false s;have ha1:(zk 8 false s).a=s.a:=rfl;clear hM1;obtain⟨b2,hb2⟩:∃b,isS n lv [35] (zk 8 false s)=b:=⟨_,rfl⟩;have HC2:=hid (vH hS.out ⟨#[35]⟩ [35] (by decide+kernel) zt.out b2 hb2);have HB2:=hid hb2;clear hb2
 cases b2 with
 |true=>
  have hlt2:(zA (zk 8 false s)).a<n:=yV (lv:=lv) (zak (s:=zk 8 false s) HR.out HB2.out) (by decide)
  go_wp2_with fail
  refine(HC2.out).mono ?_;rintro e w3 ⟨rfl,qH⟩;have zn:Hid (Mk (kN n lv la lc S g) w0 P (zk 8 false s) w3):=hid (by obtain⟨m,rfl⟩:=qH;exact zB zt.out m);clear qH;obtain⟨Wj,Gs,Wl,Wn,hw4,zH⟩:=uM zn.out (hlt);have zK:=hid zH;clear zH;have qf:=xk (zk 8 false s);have jM:(zA (zk 8 false s)).a=(zk 8 false s).a+1:=rfl;obtain⟨w4,hw4⟩:∃W,w3.setCell ⟨g,3,none⟩ (.int .i64 (Gs:Int))=W:=⟨_,rfl⟩;rw[hw4]at zK;obtain⟨Ey,Ez,EC,ED,hw5,yD⟩:=uM zK.out (hlt2);have zX:=hid yD;clear yD;have jU:=xk (zA (zk 8 false s));have YJ:(zA (zA (zk 8 false s))).a=(zA (zk 8 false s)).a+1:=rfl
  go_wp2_with fail
  refine(XO.out _ _ zX.out (by omega)).mono ?_;rintro e w6 ⟨rfl,s6,zD,zG⟩;have zL:=hid zG;have y8:=hid zD;have ha6:=zD.kp.a;have ku:=zl zD (by rfl) (c:=1) (of_decide_eq_true (by rfl));clear zG zD;have zaZ:Hid (Ev n lv (PE n lv) (zk 8 false s) s6):=hid (.seq (.yes HB2.out (.seq .zu .zu)) y8.out)
  go_wp2_with fail
  refine(jO (k:=8) (s:=s) zaZ.out zL.out (λh=>absurd h (by decide))).mono ?_;rintro e w7 ⟨rfl,yX⟩;have yJ:=hid yX;clear yX;go_wp2
  go_end0
  exact⟨rfl,_,.node zaZ.out,yJ.out⟩
 |false=>
  go_wp2_with fail
  refine(HC2.out).mono ?_;rintro e w3 ⟨rfl,qH⟩;have zn:Hid (Mk (kN n lv la lc S g) w0 P (zk 8 false s) w3):=hid (by obtain⟨m,rfl⟩:=qH;exact zB zt.out m);clear qH;obtain⟨Wj,Gs,Wl,Wn,hw4,zH⟩:=uM zn.out (hlt);have zK:=hid zH;clear zH;have qf:=xk (zk 8 false s);have jM:(zA (zk 8 false s)).a=(zk 8 false s).a+1:=rfl
  go_wp2_with fail
  refine(XO.out _ _ zK.out (by omega)).mono ?_;rintro e w5 ⟨rfl,s5,zW,yD⟩;have zX:=hid yD;have vX:=hid zW;have YJ:=zW.kp.a;have jU:=zl zW (by rfl) (c:=1) (of_decide_eq_true (by rfl));clear yD zW;have za0:Hid (Ev n lv (PE n lv) (zk 8 false s) s5):=hid (.seq (.no HB2.out .zu) vX.out)
  go_wp2_with fail
  refine(jO (k:=8) (s:=s) za0.out zX.out (λh=>absurd h (by decide))).mono ?_;rintro e w6 ⟨rfl,zG⟩;have zL:=hid zG;clear zG;go_wp2
  go_end0
  exact⟨rfl,_,.node za0.out,zL.out⟩
theorem LX(hS:Hid (qi n lv S)){a0:Nat}(HL:YL n lv la lc S g a0):yT (kN n lv la lc S g) w0 P 152 #[.pointer (some ⟨g,0,none⟩)] (wO n lv) (λs=>a0<s.a/\zC s<=10):=by
 intro w s hM ⟨ha,hp⟩;have uP:=hid (Dn (n:=n) (lv:=lv) (la:=la) (lc:=lc) (S:=S) (g:=g) (w0:=w0) (P:=P));have YK:=hid (λw s (h:Mk (kN n lv la lc S g) w0 P s w)=>NI hS.out w0 P w s h);have kL:=hid (HL w0 P);have HM:=hid hM;clear hM;go_enter func152,ntmps152;obtain⟨z1,hz1⟩:∃z,isS n lv [110] s=z:=⟨_,rfl⟩;have HZ1:=hid (kC hS HM.out z1 hz1);have zot:=hid hz1;clear hz1
 go_wp2_with fail
 refine HZ1.out.mono ?_;rintro e w1 ⟨m1,rfl,za3,s1,he1,hM1⟩;have zt:=hid hM1;have yU:=hid he1;have zou:=hid za3;have ha1:=he1.kp.a;have hp1:=zl he1 (by rfl) (c:=0) (of_decide_eq_true (by rfl));clear hM1 he1 za3;obtain⟨b,hb⟩:∃b,xI n lv s1=b:=⟨_,rfl⟩;have hc:=YK.out _ _ zt.out;rw[hb]at hc;have HC:=hid hc;have HB:=hid hb;clear hb hc
 cases b with
 |true=>
  go_wp2_with fail
  refine(HC.out).mono ?_;rintro e w2 ⟨rfl,hm2⟩;have zo:Hid (Mk (kN n lv la lc S g) w0 P s1 w2):=hid (by obtain⟨m,rfl⟩:=hm2;exact zB zt.out m);clear hm2
  go_wp2_with fail
  refine(kL.out _ _ zo.out ⟨by omega,HB.out,by omega⟩).mono ?_;rintro e w3 ⟨rfl,s3,he3,zx⟩;have zn:=hid zx;have yN:=hid he3;have ji:=he3.kp.a;clear zx he3;go_wp2
  go_end0
  exact⟨rfl,_,.seq yU.out (.yes HB.out (.lst yN.out)),zn.out⟩
 |false=>
  go_wp2_with fail
  refine(HC.out).mono ?_;rintro e w2 ⟨rfl,hm2⟩;have zo:Hid (Mk (kN n lv la lc S g) w0 P s1 w2):=hid (by obtain⟨m,rfl⟩:=hm2;exact zB zt.out m);clear hm2
  go_wp2_with fail
  refine(uP.out _ _ zo.out (xH zo.out (by omega))).mono ?_;rintro e w3 ⟨rfl,s3,he3,zx⟩;have zn:=hid zx;have yN:=hid he3;have ji:=he3.kp.a;have hp3:=zl he3 (by rfl) (c:=1) (of_decide_eq_true (by rfl));clear zx he3;go_wp2
  go_end0
  exact⟨rfl,_,.seq yU.out (.no HB.out yN.out),zn.out⟩
theorem LY(hS:Hid (qi n lv S)){a0:Nat}(HL:YL n lv la lc S g a0):yT (kN n lv la lc S g) w0 P 153 #[.pointer (some ⟨g,0,none⟩)] (Pg n lv) (λs=>a0<s.a/\zC s<=9):=by
 intro w s hM ⟨ha,hp⟩;have ja:=hid (LX (w0:=w0) (P:=P) hS HL);have eP:=hid (jo (n:=n) (lv:=lv) (la:=la) (lc:=lc) (S:=S) (g:=g) (w0:=w0) (P:=P) hS ⟨#[100]⟩ 100 (by decide+kernel));have eQ:=hid (jo (n:=n) (lv:=lv) (la:=la) (lc:=lc) (S:=S) (g:=g) (w0:=w0) (P:=P) hS ⟨#[103]⟩ 103 (by decide+kernel));have HM:=hid hM;clear hM;go_enter func153,ntmps153
 go_wp2_with fail
 refine(eP.out _ _ HM.out (xH HM.out (by omega))).mono ?_;rintro e w1 ⟨rfl,s1,he1,hM1⟩;have zt:=hid hM1;have yU:=hid he1;have ha1:=he1.kp.a;have hp1:=zl he1 (by rfl) (c:=1) (of_decide_eq_true (by rfl));clear hM1 he1
 go_wp2_with fail
 refine(ja.out _ _ zt.out ⟨by omega,by omega⟩).mono ?_;rintro e w2 ⟨rfl,s2,he2,hM2⟩;have zo:=hid hM2;have HE2:=hid he2;have ha2:=he2.kp.a;have hp2:=zl he2 (by rfl) (c:=4) (of_decide_eq_true (by rfl));clear hM2 he2
 go_wp2_with fail
 refine(eQ.out _ _ zo.out (xH zo.out (by omega))).mono ?_;rintro e w3 ⟨rfl,s3,he3,zx⟩;have zn:=hid zx;have yN:=hid he3;have ji:=he3.kp.a;have hp3:=zl he3 (by rfl) (c:=1) (of_decide_eq_true (by rfl));clear zx he3;go_wp2
 go_end0
 exact⟨rfl,_,.seq yU.out (.seq HE2.out yN.out),zn.out⟩
end
end Go.Proofs.YtkolpaonccmgiaaGreatDoor.Q

/- What simple, function, form, compound and command  -/
import Derived.Test.YtkolpaonccmgiaaGreatDoorSx
import Derived.Laws.EntriesVeiled
namespace Go.Proofs.YtkolpaonccmgiaaGreatDoor.Q
set_option linter.unusedSectionVars false
set_option linter.unusedVariables false
open Go.Proofs.Tryz
open Lib(hid)
set_option maxHeartbeats 8000000
set_option maxRecDepth 100000
open Go.RowKit
section
variable{n:Nat}{lv:Nat->Lf}{la:Option Addr}{lc g:Nat}{w0:World}{P:Nat->Prop}
theorem ziu(t:ByteArray)(w:World)(ht:t.size<=1000000):Calls prog 151 #[.string t] w λe w'=>e=.returned (.bool (decide (0<qN t)))/\Below w.heap.size w w':=by
 have hc:=ziv t w ht;obtain⟨b,hb⟩:∃b,decide (0<qN t)=b:=⟨_,rfl⟩;obtain⟨x,y,hxy⟩:∃x y:ByteArray,LC t=.tuple #[.string x,.string y,.bool b]:=by
  unfold LC;split
  ·rename_i h
   have:decide (0<qN t)=false:=decide_eq_false (by omega);rw[this]at hb;subst hb;exact⟨_,_,rfl⟩
  ·rename_i h
   have:decide (0<qN t)=true:=decide_eq_true (by omega);rw[this]at hb;subst hb;exact⟨_,_,rfl⟩
 rw[hxy]at hc;rw[hb];have HC:=hid hc;clear hc hxy hb;go_enter func151,ntmps151
 go_wp2_with fail
 refine HC.out.mono ?_;rintro e w1 ⟨rfl,hb1⟩;have HB1:=hid hb1;clear hb1;go_wp2;go_ret;exact⟨rfl,HB1.out⟩
def ziw(n:Nat)(lv:Nat->Lf)(la:Option Addr)(lc g:Nat)(w0:World)(P:Nat->Prop)(s:PS)(c:Int)(v:Value)(wr:World):Prop:=
 ∃(nm:Bool) (r:PS),v=.bool nm/\Mk (kP n lv la lc g) w0 P r wr/\zC r<=c/\s.a<=r.a/\(nm=false->∀s',Ev n lv (Yg n lv) r s'->Ev n lv (Yg n lv) s s')/\(nm=true->∀s',Ev n lv (QZ n lv) r s'->Ev n lv (Yg n lv) s s')
theorem zar{r r1 s':PS}(hr:vG n lv r=true)(he:Ev n lv (wP n lv) r r1)(h:Ev n lv (Yg n lv) r1 s'):Ev n lv (Yg n lv) r s':=by
 cases h with|seq h1 h2=>exact .seq (.go (by unfold Pj;rw[hr];rfl) (.yes hr he) rfl .skip h1) h2
theorem zas{r r1 s':PS}(hr:vG n lv r=false)(ha:nZ n lv r=true)(he:Ev n lv (.node 6 false .zu) r r1)(h:Ev n lv (Yg n lv) r1 s'):Ev n lv (Yg n lv) r s':=by
 cases h with|seq h1 h2=>exact .seq (.go (by unfold Pj;rw[ha,Bool.or_true]) (.no hr he) rfl .skip h1) h2
theorem zat{r r1 s':PS}(hr:vG n lv r=true)(he:Ev n lv (wP n lv) r r1)(h:Ev n lv (QZ n lv) r1 s'):Ev n lv (QZ n lv) r s':=
 .go (by unfold dP;rw[hr];rfl) (.yes hr he) rfl .skip h
theorem Ec{r r1 s':PS}(hr:vG n lv r=false)(hw:xh n lv r=true)(he:Ev n lv Jf r r1)(h:Ev n lv (QZ n lv) r1 s'):Ev n lv (QZ n lv) r s':=
 .go (by unfold dP;rw[hw,Bool.or_true]) (.no hr he) rfl .skip h
theorem PH{r s':PS}(hr:vG n lv r=false)(ha:nZ n lv r=false)(h:Ev n lv (QZ n lv) r s'):Ev n lv (Yg n lv) r s':=
 .seq (.stop (by unfold Pj;rw[hr,ha];rfl)) h
theorem PI{r:PS}(hr:vG n lv r=false)(hw:xh n lv r=false):Ev n lv (QZ n lv) r r:=.stop (by unfold dP;rw[hr,hw];rfl)
theorem PK{r:PS}(b c:Bool)(hw:xh n lv r=b)(ha:decide (0<qN (yF n lv r.a).s)=c):nZ n lv r=(b && c):=by unfold nZ;rw[hw,ha]
theorem zix:yT (kP n lv la lc g) w0 P 122 #[.pointer (some ⟨g,0,none⟩)] (Yg n lv) (λs=>zC s<=50):=by
 intro w s hM hp;have dW:=hid (λw s (h:Mk (kP n lv la lc g) w0 P s w)=>Np (n:=n) (lv:=lv) (la:=la) (lc:=lc) (g:=g) w0 P w s h);have Yi:=hid (λw s (h:Mk (kP n lv la lc g) w0 P s w)=>CX (n:=n) (lv:=lv) (la:=la) (lc:=lc) (g:=g) w0 P w s h);have qF:=hid (zal (n:=n) (lv:=lv) (la:=la) (lc:=lc) (g:=g) (w0:=w0) (P:=P));have HNA:=hid (VG 6 50 #[.pointer (some ⟨g,0,none⟩)] #[] (Zy _ _ _ func50 (by kernel_rfl) rfl) .zu _ (dU (n:=n) (lv:=lv) (la:=la) (lc:=lc) (g:=g) (w0:=w0) (P:=P)));have hmf:=Ji;have Q5:=hid (Nl (n:=n) (lv:=lv) (la:=la) (lc:=lc) (g:=g) (w0:=w0) (P:=P));have HM:=hid hM;clear hM;go_enter func122,ntmps122;go_wp2
 go_step3
 go_wp2
 go_step3
 go_wp2
 go_loopw [2] (λv wr=>ziw n lv la lc g w0 P s 50 v wr) (λ_ wr=>n+1-XM g wr)
 case atStart=>exact⟨false,s,rfl,HM.out,hp,Nat.le_refl _,λ_ _ h=>h,λh=>by cases h⟩
 case round=>
  obtain⟨nm,r,rfl,hMr,hpr,har,hk1,hk2⟩:=hrel;obtain⟨rr,hrr⟩:∃b,vG n lv r=b:=⟨_,rfl⟩;obtain⟨ww,PM⟩:∃b,xh n lv r=b:=⟨_,rfl⟩;obtain⟨aa,jC⟩:∃b,decide (0<qN (yF n lv r.a).s)=b:=⟨_,rfl⟩;have HAS:=hid (PK ww aa PM jC);have hc:=Yi.out _ _ hMr;rw[hrr]at hc;have HC:=hid hc;have hc2:=λW (h:Mk (kP n lv la lc g) w0 P r W)=>dW.out W r h;rw[PM]at hc2;have HC2:=hid hc2;have hsz:=Je hMr.st.VF r.a;change(yF n lv r.a).s.size<=100 at hsz;obtain⟨t,ht⟩:∃t,(yF n lv r.a).s=t:=⟨_,rfl⟩;have hc3:=λW (h:Mk (kP n lv la lc g) w0 P r W)=>(show W.cell? ⟨g,3,none⟩=some (.string (yF n lv r.a).s)from by
   obtain⟨nv,hB,_⟩:=h.own;exact hB.cell 3)
  rw[ht]at jC hsz hc3;have hia:=λW=>ziu t W (by omega);rw[jC]at hia;have HIA:=hid hia;have jH:=hid hc3;have zq:=hid hMr;have uI:=hid hk1;have vK:=hid hk2;have HRR:=hid hrr;have LD:=hid PM;clear hMr hk1 hk2 hrr PM hc hc2 hc3 hia jC ht
  cases rr with
  |true=>
   cases nm with
   |false=>
    go_wp2_with fail
    refine(HC.out).mono ?_;rintro e w1 ⟨rfl,hb1⟩;have zt:=hid (zq.out.below hb1);clear hb1
    go_wp2_with fail
    refine(qF.out _ _ zt.out ⟨HRR.out,by omega⟩).mono ?_;rintro e w2 ⟨rfl,s2,he2,hM2⟩;have zo:=hid hM2;have HE2:=hid he2;have ha2:=he2.kp.a;have hp2:=zl he2 (by rfl) (c:= -28) (of_decide_eq_true (by rfl));clear hM2 he2;go_wp2
    go_roundw
    case rel=>exact⟨false,_,rfl,zo.out,by omega,by omega,λ_ s' h=>uI.out (by trivial) _ (zar HRR.out HE2.out h),λh=>by cases h⟩
    case measure=>
     have e1:=xJ zo.out;have e2:=xJ zq.out;have:=HE2.out.Vk;have:=zo.out.yM;change s2.a<=n at this;rw[e1,e2];omega
   |true=>
    go_wp2_with fail
    refine(HC.out).mono ?_;rintro e w1 ⟨rfl,hb1⟩;have zt:=hid (zq.out.below hb1);clear hb1
    go_wp2_with fail
    refine(qF.out _ _ zt.out ⟨HRR.out,by omega⟩).mono ?_;rintro e w2 ⟨rfl,s2,he2,hM2⟩;have zo:=hid hM2;have HE2:=hid he2;have ha2:=he2.kp.a;have hp2:=zl he2 (by rfl) (c:= -28) (of_decide_eq_true (by rfl));clear hM2 he2;go_wp2
    go_roundw
    case rel=>exact⟨true,_,rfl,zo.out,by omega,by omega,(λh=>by cases h),λ_ s' h=>vK.out (by trivial) _ (zat HRR.out HE2.out h)⟩
    case measure=>
     have e1:=xJ zo.out;have e2:=xJ zq.out;have:=HE2.out.Vk;have:=zo.out.yM;change s2.a<=n at this;rw[e1,e2];omega
  |false=>
   cases ww with
   |false=>
    cases nm with
    |false=>
     go_wp2_with fail
     refine(HC.out).mono ?_;rintro e w1 ⟨rfl,hb1⟩;have zt:=hid (zq.out.below hb1);clear hb1
     go_wp2_with fail
     refine(HC2.out _ zt.out).mono ?_;rintro e w2 ⟨rfl,hb2⟩;have zo:=hid (zt.out.below hb2);clear hb2;go_wp2;rw[Exit.noGoto_normal]
     go_end0
     exact⟨rfl,_,uI.out (by trivial) _ (PH HRR.out HAS.out (PI HRR.out LD.out)),zo.out⟩
    |true=>
     go_wp2_with fail
     refine(HC.out).mono ?_;rintro e w1 ⟨rfl,hb1⟩;have zt:=hid (zq.out.below hb1);clear hb1
     go_wp2_with fail
     refine(HC2.out _ zt.out).mono ?_;rintro e w2 ⟨rfl,hb2⟩;have zo:=hid (zt.out.below hb2);clear hb2;go_wp2;rw[Exit.noGoto_normal]
     go_end0
     exact⟨rfl,_,vK.out (by trivial) _ (PI HRR.out LD.out),zo.out⟩
   |true=>
    cases nm with
    |true=>
     go_wp2_with fail
     refine(HC.out).mono ?_;rintro e w1 ⟨rfl,hb1⟩;have zt:=hid (zq.out.below hb1);clear hb1
     go_wp2_with fail
     refine(HC2.out _ zt.out).mono ?_;rintro e w2 ⟨rfl,hb2⟩;have zo:=hid (zt.out.below hb2);clear hb2
     go_wp2_with fail
     refine(Q5.out _ _ zo.out ⟨ZR LD.out,xG zo.out (by omega)⟩).mono ?_;rintro e w3 ⟨rfl,s3,he3,zx⟩;have zn:=hid zx;have yN:=hid he3;have ji:=he3.kp.a;have hp3:=zl he3 (by rfl) (c:= -29) (of_decide_eq_true (by rfl));clear zx he3;go_wp2
     go_roundw
     case rel=>exact⟨true,_,rfl,zn.out,by omega,by omega,(λh=>by cases h),λ_ s' h=>vK.out (by trivial) _ (Ec HRR.out LD.out yN.out h)⟩
     case measure=>
      have e1:=xJ zn.out;have e2:=xJ zq.out;have:=yN.out.word_lt;have:=zn.out.yM;change s3.a<=n at this;rw[e1,e2];omega
    |false=>
     cases aa with
     |true=>
      go_wp2_with fail
      refine(HC.out).mono ?_;rintro e w1 ⟨rfl,hb1⟩;have zt:=hid (zq.out.below hb1);clear hb1
      go_wp2_with fail
      refine(HC2.out _ zt.out).mono ?_;rintro e w2 ⟨rfl,hb2⟩;have hM2:=zt.out.below hb2;have d3:=jH.out _ hM2;have zo:=hid hM2;clear hb2 hM2
      go_wp2_with fail
      refine(HIA.out _).mono ?_;rintro e w3 ⟨rfl,hb3⟩;have zn:=hid (zo.out.below hb3);clear hb3
      go_wp2_with fail
      refine(HNA.out _ _ zn.out ⟨ZR LD.out,xG zn.out (by omega)⟩).mono ?_;rintro e w4 ⟨rfl,s4,he4,zH⟩;have zK:=hid zH;have xA:=hid he4;have jM:=he4.kp.a;have qf:=zl he4 (by rfl) (c:= -29) (of_decide_eq_true (by rfl));clear zH he4;go_wp2
      go_roundw
      case rel=>exact⟨false,_,rfl,zK.out,by omega,by omega,λ_ s' h=>uI.out (by trivial) _ (zas HRR.out HAS.out xA.out h),λh=>by cases h⟩
      case measure=>
       have e1:=xJ zK.out;have e2:=xJ zq.out;have:=xA.out.word_lt;have:=zK.out.yM;change s4.a<=n at this;rw[e1,e2];omega
     |false=>
      go_wp2_with fail
      refine(HC.out).mono ?_;rintro e w1 ⟨rfl,hb1⟩;have zt:=hid (zq.out.below hb1);clear hb1
      go_wp2_with fail
      refine(HC2.out _ zt.out).mono ?_;rintro e w2 ⟨rfl,hb2⟩;have hM2:=zt.out.below hb2;have d3:=jH.out _ hM2;have zo:=hid hM2;clear hb2 hM2
      go_wp2_with fail
      refine(HIA.out _).mono ?_;rintro e w3 ⟨rfl,hb3⟩;have zn:=hid (zo.out.below hb3);clear hb3
      go_wp2_with fail
      refine(Q5.out _ _ zn.out ⟨ZR LD.out,xG zn.out (by omega)⟩).mono ?_;rintro e w4 ⟨rfl,s4,he4,zH⟩;have zK:=hid zH;have xA:=hid he4;have jM:=he4.kp.a;have qf:=zl he4 (by rfl) (c:= -29) (of_decide_eq_true (by rfl));clear zH he4;go_wp2
      go_roundw
      case rel=>exact⟨true,_,rfl,zK.out,by omega,by omega,(λh=>by cases h),λ_ s' h=>uI.out (by trivial) _ (PH HRR.out HAS.out (Ec HRR.out LD.out xA.out h))⟩
      case measure=>
       have e1:=xJ zK.out;have e2:=xJ zq.out;have:=xA.out.word_lt;have:=zK.out.yM;change s4.a<=n at this;rw[e1,e2];omega
end
open _root_.Nat renaming le_refl->waa
open _root_.Go.RowKit.Below renaming refl->wag
section
variable{n:Nat}{lv:Nat->Lf}{la:Option Addr}{lc g:Nat}{w0:World}{P:Nat->Prop}
theorem ziy:Ld (kP n lv la lc g) g 119 (JR n lv):=by
 intro w0 P w s hM;obtain⟨nv,hB,hO,h3,h4⟩:=hM.own;have c6:w.cell? ⟨g,6,none⟩=some (.int .u8 (zJ n lv s.a:Int)):=hB.cell 6;have c3:w.cell? ⟨g,3,none⟩=some (.string (yF n lv s.a).s):=hB.cell 3;have c9':=λW (hb:Below w.heap.size w W)=>(show W.cell? ⟨g,9,none⟩=some (.int .i64 (s.d:Int))from(hB.below hb).cell 9);have hsz:=Je hM.st.VF s.a;change(yF n lv s.a).s.size<=100 at hsz;have Ed:=Po hM;unfold JR;obtain⟨x,hx⟩:∃x,zJ n lv s.a=x:=⟨_,rfl⟩;rw[hx]at c6 ⊢;obtain⟨t,ht⟩:∃t,(yF n lv s.a).s=t:=⟨_,rfl⟩;rw[ht]at c3 hsz ⊢;have hin:=zaq t w (by omega);obtain⟨m,hm⟩:∃m,ui t=m:=⟨_,rfl⟩;rw[hm]at hin ⊢;obtain⟨y,hy⟩:∃y,zJ n lv (s.a+1)=y:=⟨_,rfl⟩;rw[hy]at Ed ⊢;obtain⟨z,hz⟩:∃z,(y==40)=z:=⟨_,rfl⟩;rw[hz];have hz2:((y:Int)==40)=z:=by rw[←hz,Bool.eq_iff_iff];simp;omega
 obtain⟨d,hd⟩:∃d,s.d=d:=⟨_,rfl⟩;rw[hd]at c9' ⊢;obtain⟨q,hq⟩:∃q,decide (d<200)=q:=⟨_,rfl⟩;rw[hq];have hq2:decide ((d:Int)<200)=q:=by rw[←hq,Bool.eq_iff_iff];simp;omega
 have xP:=hid hin;have Ee:=hid Ed;have Jr:=hid c9';clear hB hO h3 h4 hM hx ht hm hy hz hd hq hin Ed c9' hsz;by_cases Lp:x=120
 ·subst Lp
  cases m with
  |false=>
   go_enter func119,ntmps119
   go_wp2_with fail
   refine xP.out.mono ?_;rintro e w1 ⟨rfl,rfl⟩;go_wp2;go_ret;exact⟨rfl,wag _ _⟩
  |true=>
   cases z with
   |false=>
    go_enter func119,ntmps119
    go_wp2_with fail
    refine xP.out.mono ?_;rintro e w1 ⟨rfl,rfl⟩
    go_wp2_with fail
    refine Ee.out.mono ?_;rintro e w2 ⟨rfl,hb2⟩;have d9:=Jr.out _ hb2;have HB2:=hid hb2;clear hb2;go_wp2;go_ret;exact⟨rfl,HB2.out⟩
   |true=>
    cases q with
    |true=>
     go_enter func119,ntmps119
     go_wp2_with fail
     refine xP.out.mono ?_;rintro e w1 ⟨rfl,rfl⟩
     go_wp2_with fail
     refine Ee.out.mono ?_;rintro e w2 ⟨rfl,hb2⟩;have d9:=Jr.out _ hb2;have HB2:=hid hb2;clear hb2;go_wp2;go_ret;exact⟨rfl,HB2.out⟩
    |false=>
     go_enter func119,ntmps119
     go_wp2_with fail
     refine xP.out.mono ?_;rintro e w1 ⟨rfl,rfl⟩
     go_wp2_with fail
     refine Ee.out.mono ?_;rintro e w2 ⟨rfl,hb2⟩;have d9:=Jr.out _ hb2;have HB2:=hid hb2;clear hb2;go_wp2;go_ret;exact⟨rfl,HB2.out⟩
 ·have t1:((x:Int)==120)=false:=by simp;omega
  have e1:(x==120)=false:=by simpa using Lp
  rw[e1,Bool.false_and,Bool.false_and,Bool.false_and];clear e1 Lp;go_enter func119,ntmps119;go_wp2;go_ret;exact⟨rfl,wag _ _⟩
theorem ziz(t:ByteArray)(w:World):Calls prog 175 #[.pointer (some ⟨g,0,none⟩),.string t] w λe w'=>e=.returned (.func (.func 201) #[] #[.pointer (some ⟨w.heap.size,0,none⟩),.pointer (some ⟨w.heap.size+1,0,none⟩)])/\w'=(w.alloc (.cells #[.pointer (some ⟨g,0,none⟩)] 46)).alloc (.cells #[.string t] 9):=by
 have hmf:=Ji;go_enter func175,ntmps175;go_wp2;go_ret;exact⟨rfl,rfl⟩
def ziA(n:Nat)(lv:Nat->Lf)(la:Option Addr)(lc g a0:Nat)(s:PS)(w:World)(v:Value)(w':World):Prop:=
 ∃(kd:Int) (F:Nat) (first cap:Array Value) (wb:PP),v=.tuple #[.int .i64 kd,.func (.func F) first cap]/\Below w.heap.size w w'/\(∀(args:Array Value) (W:World),(callFunc F args).run prog W=.ok (.enter F args) W)/\
  (∀x y:PS,x.a=s.a->Ev n lv (wQ n lv kd wb) x y->Ev n lv (Jg n lv) x y)/\cst wb<=10/\YH wb=true/\
  ∀(w1:World) (P':Nat->Prop),(∀k,w.heap.size<=k->k<w'.heap.size->P' k/\w1.heap[k]?=w'.heap[k]?)->yT (kP n lv la lc g) w1 P' F (first++cap) wb (λr=>a0<r.a/\zC r<=0)
theorem xu{c k:Nat}{s:PS}(h:zJ n lv s.a=c):isS n lv [k] s=(c==k):=by
 unfold isS;rw[h,List.contains_cons,List.contains_nil,Bool.or_false]
theorem dZ{K:Kd}{w0:World}{P:Nat->Prop}{F:Nat}{args:Array Value}{p:PP}{pre pre':PS->Prop}(h:yT K w0 P F args p pre)(hp:∀s,pre' s->pre s):yT K w0 P F args p pre':=λw s hM hq=>h w s hM (hp s hq)
theorem ziB{a0:Nat}(HL:ZU n lv la lc g a0){w:World}{s:PS}(hM:Mk (kP n lv la lc g) w0 P s w)(hc:kZ n lv s=true):
  Calls prog 144 #[.pointer (some ⟨g,0,none⟩)] w λe w'=>∃v,e=.returned v/\ziA n lv la lc g a0 s w v w':=by
 obtain⟨nv,hB,hO,h3,h4⟩:=hM.own;have c6:w.cell? ⟨g,6,none⟩=some (.int .u8 (zJ n lv s.a:Int)):=hB.cell 6;have hmf:=Ji;have Gj:=hid (λt=>ziz (g:=g) t w);have kL:=hid HL;obtain⟨x,hx⟩:∃x,zJ n lv s.a=x:=⟨_,rfl⟩;unfold kZ at hc;rw[hx]at hc c6;have hsx:∀r:PS,r.a=s.a->zJ n lv r.a=x:=λr hr=>by rw[hr];exact hx
 have HS:=hid hsx;have h6:x=123\/x=40\/x=105\/x=119\/x=114\/x=99:=by
  rw[Bool.and_eq_true]at hc;have:=hc.1;simpa using this
 clear hB hO h3 h4 hM hc hx hsx HL;rcases h6 with rfl|rfl|rfl|rfl|rfl|rfl
 ·go_enter func144,ntmps144
  go_wp2_with fail
  refine(Gj.out _).mono ?_;rintro e w1 ⟨rfl,rfl⟩;go_wp2;go_ret2;refine⟨_,rfl,9,201,#[],_,Lh n lv 125,rfl,((wag _ w).alloc (waa _) _).alloc (by simp) _,Zy _ _ _ func201 (by kernel_rfl) rfl,λr y hr h=>?_,of_decide_eq_true (by rfl),by rfl,λw1 P' hk=>?_⟩
  ·exact .yes (by rw[xu (HS.out _ hr)];rfl) h
  ·have k1:zf ((w.alloc (.cells #[.pointer (some ⟨g,0,none⟩)] 46)).alloc (.cells #[.string ⟨#[125]⟩] 9)) w.heap.size #[.pointer (some ⟨g,0,none⟩)] 46:=(zf.new w _ _).alloc _
   have k2:zf ((w.alloc (.cells #[.pointer (some ⟨g,0,none⟩)] 46)).alloc (.cells #[.string ⟨#[125]⟩] 9)) (w.heap.size+1) #[.string ⟨#[125]⟩] 9:=by
    have:=zf.new (w.alloc (.cells #[.pointer (some ⟨g,0,none⟩)] 46)) #[.string ⟨#[125]⟩] 9
    rwa [World.size_alloc]at this
   have l1:=k1.lt;have l2:=k2.lt;exact dZ (zao kL.out w.heap.size (w.heap.size+1) 125 ⟨#[125]⟩ (by decide+kernel) ((hk _ (waa _) l1).2.trans k1) (hk _ (waa _) l1).1 ((hk _ (Nat.le_succ _) l2).2.trans k2) (hk _ (Nat.le_succ _) l2).1) (λr h=>⟨h.1,by have:=h.2;omega⟩)
 ·go_enter func144,ntmps144
  go_wp2_with fail
  refine(Gj.out _).mono ?_;rintro e w1 ⟨rfl,rfl⟩;go_wp2;go_ret2;refine⟨_,rfl,10,201,#[],_,Lh n lv 41,rfl,((wag _ w).alloc (waa _) _).alloc (by simp) _,Zy _ _ _ func201 (by kernel_rfl) rfl,λr y hr h=>?_,of_decide_eq_true (by rfl),by rfl,λw1 P' hk=>?_⟩
  ·exact .no (by rw[xu (HS.out _ hr)];rfl) (.yes (by rw[xu (HS.out _ hr)];rfl) h)
  ·have k1:zf ((w.alloc (.cells #[.pointer (some ⟨g,0,none⟩)] 46)).alloc (.cells #[.string ⟨#[41]⟩] 9)) w.heap.size #[.pointer (some ⟨g,0,none⟩)] 46:=(zf.new w _ _).alloc _
   have k2:zf ((w.alloc (.cells #[.pointer (some ⟨g,0,none⟩)] 46)).alloc (.cells #[.string ⟨#[41]⟩] 9)) (w.heap.size+1) #[.string ⟨#[41]⟩] 9:=by
    have:=zf.new (w.alloc (.cells #[.pointer (some ⟨g,0,none⟩)] 46)) #[.string ⟨#[41]⟩] 9
    rwa [World.size_alloc]at this
   have l1:=k1.lt;have l2:=k2.lt;exact dZ (zao kL.out w.heap.size (w.heap.size+1) 41 ⟨#[41]⟩ (by decide+kernel) ((hk _ (waa _) l1).2.trans k1) (hk _ (waa _) l1).1 ((hk _ (Nat.le_succ _) l2).2.trans k2) (hk _ (Nat.le_succ _) l2).1) (λr h=>⟨h.1,by have:=h.2;omega⟩)
 ·go_enter func144,ntmps144
  go_wp2;go_ret2;refine⟨_,rfl,11,176,#[.pointer (some ⟨g,0,none⟩)],#[],(Nb n lv),rfl,wag _ _,Zy _ _ _ func176 (by kernel_rfl) rfl,λr y hr h=>?_,of_decide_eq_true (by rfl),by rfl,λw1 P' hk=>?_⟩
  ·exact .no (by rw[xu (HS.out _ hr)];rfl) (.no (by rw[xu (HS.out _ hr)];rfl) (.yes (by rw[xu (HS.out _ hr)];rfl) h))
  ·exact dZ (zin kL.out) (λr h=>⟨h.1,by have:=h.2;omega⟩)
 ·go_enter func144,ntmps144
  go_wp2;go_ret2;refine⟨_,rfl,12,177,#[.pointer (some ⟨g,0,none⟩)],#[],(Ph n lv),rfl,wag _ _,Zy _ _ _ func177 (by kernel_rfl) rfl,λr y hr h=>?_,of_decide_eq_true (by rfl),by rfl,λw1 P' hk=>?_⟩
  ·exact .no (by rw[xu (HS.out _ hr)];rfl) (.no (by rw[xu (HS.out _ hr)];rfl) (.no (by rw[xu (HS.out _ hr)];rfl) (.yes (by rw[xu (HS.out _ hr)];rfl) h)))
  ·exact dZ (zim kL.out) (λr h=>⟨h.1,by have:=h.2;omega⟩)
 ·go_enter func144,ntmps144
  go_wp2;go_ret2;refine⟨_,rfl,13,178,#[.pointer (some ⟨g,0,none⟩)],#[],(Nc n lv),rfl,wag _ _,Zy _ _ _ func178 (by kernel_rfl) rfl,λr y hr h=>?_,of_decide_eq_true (by rfl),by rfl,λw1 P' hk=>?_⟩
  ·exact .no (by rw[xu (HS.out _ hr)];rfl) (.no (by rw[xu (HS.out _ hr)];rfl) (.no (by rw[xu (HS.out _ hr)];rfl) (.no (by rw[xu (HS.out _ hr)];rfl) (.yes (by rw[xu (HS.out _ hr)];rfl) h))))
  ·exact dZ (ziq kL.out) (λr h=>⟨h.1,by have:=h.2;omega⟩)
 ·go_enter func144,ntmps144
  go_wp2;go_ret2;refine⟨_,rfl,14,179,#[.pointer (some ⟨g,0,none⟩)],#[],(Nh n lv),rfl,wag _ _,Zy _ _ _ func179 (by kernel_rfl) rfl,λr y hr h=>?_,of_decide_eq_true (by rfl),by rfl,λw1 P' hk=>?_⟩
  ·exact .no (by rw[xu (HS.out _ hr)];rfl) (.no (by rw[xu (HS.out _ hr)];rfl) (.no (by rw[xu (HS.out _ hr)];rfl) (.no (by rw[xu (HS.out _ hr)];rfl) (.no (by rw[xu (HS.out _ hr)];rfl) (h)))))
  ·exact dZ (zit kL.out) (λr h=>⟨h.1,by have:=h.2;omega⟩)
theorem ziC{a0:Nat}(B C F:Nat)(first cap:Array Value)(wb:PP)(hE:∀(args:Array Value) (W:World),(callFunc F args).run prog W=.ok (.enter F args) W)(hcw:cst wb<=10)(how:YH wb=true)(hD:yT (kP n lv la lc g) w0 P F (first++cap) wb (λr=>a0<r.a/\zC r<=0))
 (hbox:zf w0 B #[.pointer (some ⟨g,0,none⟩)] 46)(Nr:P B)(Nv:zf w0 C #[.func (.func F) first cap] 1)(eU:P C):
  yT (kP n lv la lc g) w0 P 145 #[.pointer (some ⟨B,0,none⟩),.pointer (some ⟨C,0,none⟩)] (.seq .zu (.seq wb (Yf n lv))) (λs=>a0<=s.a/\s.a<n/\zC s<=25):=by
 intro w s hM ⟨ha,hn,hp⟩;have yh:=hid (λW r (h:Mk (kP n lv la lc g) w0 P r W)=>(show W.cell? ⟨B,0,none⟩=some (.pointer (some ⟨g,0,none⟩))from(h.blk hbox Nr).cell 0));have Vm:=hid (λW r (h:Mk (kP n lv la lc g) w0 P r W)=>(show W.cell? ⟨C,0,none⟩=some (.func (.func F) first cap)from(h.blk Nv eU).cell 0));have qg:=hid (dU (n:=n) (lv:=lv) (la:=la) (lc:=lc) (g:=g) (w0:=w0) (P:=P));have Yi:=hid (λw s (h:Mk (kP n lv la lc g) w0 P s w)=>CX (n:=n) (lv:=lv) (la:=la) (lc:=lc) (g:=g) w0 P w s h);have qF:=hid (zal (n:=n) (lv:=lv) (la:=la) (lc:=lc) (g:=g) (w0:=w0) (P:=P));have HD:=hid hD;have HCW:=hid (And.intro hcw how);have b0:=yh.out _ _ hM;have HM:=hid hM;clear hM hD hbox Nv hcw how;go_enter func145,ntmps145
 go_wp2_with fail
 refine(qg.out _ _ HM.out hn).mono ?_;rintro e w1 ⟨rfl,s1,he1,hM1⟩;cases he1;have hp1:=xk s;have ha1:(zA s).a=s.a+1:=rfl;have b1:=yh.out _ _ hM1;have c1:=Vm.out _ _ hM1;have zt:=hid hM1;clear hM1
 go_wp2_with fail
 refine(HD.out _ _ zt.out ⟨by omega,by omega⟩).mono ?_;rintro e w2 ⟨rfl,s2,he2,hM2⟩;have hp2:=zl he2 HCW.out.2 HCW.out.1;have ha2:=he2.kp.a;have zo:=hid hM2;have HE2:=hid he2;clear hM2 he2;go_wp2
 go_loopw [] (λwr=>Rl (kP n lv la lc g) w0 P (Yf n lv) s2 20 wr) (λwr=>n+1-XM g wr)
 case atStart=>exact⟨s2,zo.out,by omega,waa _,λ_ h=>h⟩
 case round=>
  obtain⟨r,hMr,hpr,har,hk⟩:=hrel;obtain⟨b,hb⟩:∃b,vG n lv r=b:=⟨_,rfl⟩;have hc:=Yi.out _ _ hMr;rw[hb]at hc;have HC:=hid hc;have b2:=yh.out _ _ hMr;have zq:=hid hMr;have HB:=hid hb;have HK:=hid hk;clear hMr hb hk hc
  cases b with
  |false=>
   go_wp2_with fail
   refine HC.out.mono ?_;rintro e w3 ⟨rfl,hb3⟩;have zn:=hid (zq.out.below hb3);have yN:=hid (HK.out _ (.stop HB.out));clear hb3;go_wp2
   go_end0
   exact⟨rfl,_,.seq .zu (.seq HE2.out yN.out),zn.out⟩
  |true=>
   go_wp2_with fail
   refine HC.out.mono ?_;rintro e w3 ⟨rfl,hb3⟩;have zx:=zq.out.below hb3;have b3:=yh.out _ _ zx;have zn:=hid zx;clear hb3 zx
   go_wp2_with fail
   refine(qF.out _ _ zn.out ⟨HB.out,by omega⟩).mono ?_;rintro e w4 ⟨rfl,s4,he4,zH⟩;have zK:=hid zH;have xA:=hid he4;have jM:=he4.kp.a;have qf:=zl he4 (by rfl) (c:= -28) (of_decide_eq_true (by rfl));clear zH he4;go_wp2
   go_roundw
   case rel=>exact⟨_,zK.out,by omega,by omega,λs' he=>HK.out s' (.go HB.out xA.out rfl .skip he)⟩
   case measure=>
    have e1:=xJ zK.out;have e2:=xJ zq.out;have:=xA.out.Vk;have:=zK.out.yM;change s4.a<=n at this;rw[e1,e2];omega
end
end Go.Proofs.YtkolpaonccmgiaaGreatDoor.Q

/- What the methods of a maker of layer 13 (parse) le -/
import Derived.Test.YtkolpaonccmgiaaGreatDoorSw
namespace Go.Proofs.YtkolpaonccmgiaaGreatDoor.Q
set_option linter.unusedSectionVars false
set_option linter.unusedVariables false
open Go.Proofs.Tryz
open Lib(hid)
set_option maxHeartbeats 8000000
set_option maxRecDepth 100000
open Go.RowKit
section
variable{n:Nat}{lv:Nat->Lf}{la:Option Addr}{lc g:Nat}{w0:World}{P:Nat->Prop}
def ZU(n:Nat)(lv:Nat->Lf)(la:Option Addr)(lc g a0:Nat):Prop:=
 ∀(w0:World) (P:Nat->Prop),yT (kP n lv la lc g) w0 P 79 #[.pointer (some ⟨g,0,none⟩)] (wR n lv) (λs=>a0<s.a/\xI n lv s=true/\zC s<=11)
def Rl(K:Kd)(w0:World)(P:Nat->Prop)(p:PP)(s:PS)(c:Int)(wr:World):Prop:=
 ∃r,Mk K w0 P r wr/\zC r<=c/\s.a<=r.a/\∀s',Ev K.n K.lv p r s'->Ev K.n K.lv p s s'
theorem Ji:∀(fn:Fn) (first cap:Array Value) (W:World),(Instr.makeFunc fn first cap).run prog W=.ok (.func fn first cap) W:=λ_ _ _ _=>rfl
theorem qC(k:Int)(dp:Bool)(s:PS):zC (zk k dp s)=zC s+1:=by simp only[zC,zk,List.length_append,List.length_singleton];omega
theorem xk(s:PS):zC (zA s)=zC s-30:=by simp only[zC,zA];omega
theorem Lt{w:World}{s:PS}(hM:Mk (kP n lv la lc g) w0 P s w)(b:Bool)(hb:isS n lv [110] s=b):
  Calls prog 72 #[.pointer (some ⟨g,0,none⟩)] w λe w'=>e=.returned (.bool b)/\∃s',Ev n lv (um n lv) s s'/\Mk (kP n lv la lc g) w0 P s' w':=by
 rw[←hb];exact zaf hM
theorem zam{a0:Nat}(HL:ZU n lv la lc g a0){w:World}{s:PS}(hM:Mk (kP n lv la lc g) w0 P s w)(ha:a0<s.a)(hp:zC s<=10)(b:Bool)(hb:xI n lv s=b):
  Calls prog 49 #[.pointer (some ⟨g,0,none⟩)] w λe w'=>e=.returned (.bool b)/\∃s',Ev n lv (.ite (xI n lv) .lst .skip) s s'/\Mk (kP n lv la lc g) w0 P s' w':=by
 have hc:=PD (n:=n) (lv:=lv) (la:=la) (lc:=lc) (g:=g) w0 P w s hM;rw[hb]at hc;have HC:=hid hc;have HM:=hid hM;have HB:=hid hb;have hmf:=Ji;clear hc
 cases b with
 |true=>
  have HN:=hid (λW (h:Mk (kP n lv la lc g) w0 P s W)=>VG 2 79 #[.pointer (some ⟨g,0,none⟩)] #[] (Zy _ _ _ func79 (by kernel_rfl) rfl) (wR n lv) _ (HL w0 P) W s h ⟨⟨ha,hb,by rw[qC];omega⟩,xG h (by omega)⟩);clear hM hb;go_enter func49,ntmps49
  go_wp2_with fail
  refine(HC.out).mono ?_;rintro e w1 ⟨rfl,hb1⟩;have zt:=hid (HM.out.below hb1);clear hb1
  go_wp2_with fail
  refine(HN.out _ zt.out).mono ?_;rintro e w2 ⟨rfl,s2,he2,hM2⟩;have zo:=hid hM2;have HE2:=hid he2;have ha2:=he2.kp.a;clear hM2 he2;go_wp2;go_ret;exact⟨rfl,_,.yes HB.out (.lst HE2.out),zo.out⟩
 |false=>
  clear hM hb;go_enter func49,ntmps49
  go_wp2_with fail
  refine(HC.out).mono ?_;rintro e w1 ⟨rfl,hb1⟩;have zt:=hid (HM.out.below hb1);clear hb1;go_wp2;go_ret;exact⟨rfl,_,.no HB.out .skip,zt.out⟩
theorem Nu{a0:Nat}(HL:ZU n lv la lc g a0):yT (kP n lv la lc g) w0 P 202 #[.pointer (some ⟨g,0,none⟩)] (wO n lv) (λs=>a0<s.a/\zC s<=10):=by
 intro w s hM ⟨ha,hp⟩;obtain⟨b0,hb0⟩:∃b0,isS n lv [110] s=b0:=⟨_,rfl⟩;have HN:=hid (Lt hM b0 hb0);have kL:=hid (λW r (h:Mk (kP n lv la lc g) w0 P r W)=>zam HL h);have uP:=hid (wS (n:=n) (lv:=lv) (la:=la) (lc:=lc) (g:=g) (w0:=w0) (P:=P));clear hM hb0;go_enter func202,ntmps202
 go_wp2_with fail
 refine HN.out.mono ?_;rintro e w1 ⟨rfl,s1,he1,hM1⟩;have hp1:=zl he1 (by rfl) (c:=0) (of_decide_eq_true (by rfl));have ha1:=he1.kp.a;obtain⟨b,hb⟩:∃b,xI n lv s1=b:=⟨_,rfl⟩;have Gf:=hid (kL.out w1 s1 hM1 (by omega) (by omega) b hb);have HB:=hid hb;have yU:=hid he1;clear hM1 hb he1 kL
 cases b with
 |true=>
  go_wp2_with fail
  refine Gf.out.mono ?_;rintro e w2 ⟨rfl,s2,he2,hM2⟩;have zo:=hid hM2
  cases he2 with
  |no hc _=>rw[HB.out]at hc;cases hc
  |yes _ he2=>
  have HE2:=hid he2;clear hM2 he2;go_wp2
  go_end0
  exact⟨rfl,_,.seq yU.out (.yes HB.out HE2.out),zo.out⟩
 |false=>
  go_wp2_with fail
  refine Gf.out.mono ?_;rintro e w2 ⟨rfl,s2,he2,hM2⟩
  cases he2 with
  |yes hc _=>rw[HB.out]at hc;cases hc
  |no _ he2=>
  cases he2;have zo:=hid hM2;clear hM2
  go_wp2_with fail
  refine(uP.out _ _ zo.out (xG zo.out (by omega))).mono ?_;rintro e w3 ⟨rfl,s3,he3,zx⟩;have zn:=hid zx;have yN:=hid he3;clear zx he3;go_wp2
  go_end0
  exact⟨rfl,_,.seq yU.out (.no HB.out yN.out),zn.out⟩
theorem zil{a0:Nat}(HL:ZU n lv la lc g a0):yT (kP n lv la lc g) w0 P 203 #[.pointer (some ⟨g,0,none⟩)] (Na n lv) (λs=>a0<s.a/\zC s<=5):=by
 intro w s hM ⟨ha,hp⟩;have ja:=hid (Nu (w0:=w0) (P:=P) HL);have Gg:=hid (gZ (n:=n) (lv:=lv) (la:=la) (lc:=lc) (g:=g) (w0:=w0) (P:=P) ⟨#[116]⟩ 116 (by decide+kernel));have HM:=hid hM;clear hM;go_enter func203,ntmps203
 go_wp2_with fail
 refine(ja.out _ _ HM.out ⟨by omega,by omega⟩).mono ?_;rintro e w1 ⟨rfl,s1,he1,hM1⟩;have zt:=hid hM1;have yU:=hid he1;have ha1:=he1.kp.a;have hp1:=zl he1 (by rfl) (c:=4) (of_decide_eq_true (by rfl));clear hM1 he1
 go_wp2_with fail
 refine(Gg.out _ _ zt.out (xG zt.out (by omega))).mono ?_;rintro e w2 ⟨rfl,s2,he2,hM2⟩;have zo:=hid hM2;have HE2:=hid he2;have ha2:=he2.kp.a;have hp2:=zl he2 (by rfl) (c:=1) (of_decide_eq_true (by rfl));clear hM2 he2
 go_wp2_with fail
 refine(ja.out _ _ zo.out ⟨by omega,by omega⟩).mono ?_;rintro e w3 ⟨rfl,s3,he3,zx⟩;have zn:=hid zx;have yN:=hid he3;have ji:=he3.kp.a;have hp3:=zl he3 (by rfl) (c:=4) (of_decide_eq_true (by rfl));clear zx he3;go_wp2
 go_end0
 exact⟨rfl,_,.seq yU.out (.seq HE2.out yN.out),zn.out⟩
theorem zan{a0:Nat}(HL:ZU n lv la lc g a0):yT (kP n lv la lc g) w0 P 204 #[.pointer (some ⟨g,0,none⟩)] (Pg n lv) (λs=>a0<s.a/\zC s<=9):=by
 intro w s hM ⟨ha,hp⟩;have ja:=hid (Nu (w0:=w0) (P:=P) HL);have eP:=hid (gZ (n:=n) (lv:=lv) (la:=la) (lc:=lc) (g:=g) (w0:=w0) (P:=P) ⟨#[100]⟩ 100 (by decide+kernel));have eQ:=hid (gZ (n:=n) (lv:=lv) (la:=la) (lc:=lc) (g:=g) (w0:=w0) (P:=P) ⟨#[103]⟩ 103 (by decide+kernel));have HM:=hid hM;clear hM;go_enter func204,ntmps204
 go_wp2_with fail
 refine(eP.out _ _ HM.out (xG HM.out (by omega))).mono ?_;rintro e w1 ⟨rfl,s1,he1,hM1⟩;have zt:=hid hM1;have yU:=hid he1;have ha1:=he1.kp.a;have hp1:=zl he1 (by rfl) (c:=1) (of_decide_eq_true (by rfl));clear hM1 he1
 go_wp2_with fail
 refine(ja.out _ _ zt.out ⟨by omega,by omega⟩).mono ?_;rintro e w2 ⟨rfl,s2,he2,hM2⟩;have zo:=hid hM2;have HE2:=hid he2;have ha2:=he2.kp.a;have hp2:=zl he2 (by rfl) (c:=4) (of_decide_eq_true (by rfl));clear hM2 he2
 go_wp2_with fail
 refine(eQ.out _ _ zo.out (xG zo.out (by omega))).mono ?_;rintro e w3 ⟨rfl,s3,he3,zx⟩;have zn:=hid zx;have yN:=hid he3;have ji:=he3.kp.a;have hp3:=zl he3 (by rfl) (c:=1) (of_decide_eq_true (by rfl));clear zx he3;go_wp2
 go_end0
 exact⟨rfl,_,.seq yU.out (.seq HE2.out yN.out),zn.out⟩
theorem zim{a0:Nat}(HL:ZU n lv la lc g a0):yT (kP n lv la lc g) w0 P 177 #[.pointer (some ⟨g,0,none⟩)] (Ph n lv) (λs=>a0<s.a/\zC s<=4):=by
 intro w s hM ⟨ha,hp⟩;have ja:=hid (Nu (w0:=w0) (P:=P) HL);have uA:=hid (zan (w0:=w0) (P:=P) HL);have HM:=hid hM;clear hM;go_enter func177,ntmps177
 go_wp2_with fail
 refine(ja.out _ _ HM.out ⟨by omega,by omega⟩).mono ?_;rintro e w1 ⟨rfl,s1,he1,hM1⟩;have zt:=hid hM1;have yU:=hid he1;have ha1:=he1.kp.a;have hp1:=zl he1 (by rfl) (c:=4) (of_decide_eq_true (by rfl));clear hM1 he1
 go_wp2_with fail
 refine(uA.out _ _ zt.out ⟨by omega,by omega⟩).mono ?_;rintro e w2 ⟨rfl,s2,he2,hM2⟩;have zo:=hid hM2;have HE2:=hid he2;have ha2:=he2.kp.a;clear hM2 he2;go_wp2
 go_end0
 exact⟨rfl,_,.seq yU.out HE2.out,zo.out⟩
theorem zao{a0:Nat}(HL:ZU n lv la lc g a0)(B C c:Nat)(t:ByteArray)(ht:Sg t [c])(hbox:zf w0 B #[.pointer (some ⟨g,0,none⟩)] 46)(Nr:P B)(Nv:zf w0 C #[.string t] 9)(eU:P C):
  yT (kP n lv la lc g) w0 P 201 #[.pointer (some ⟨B,0,none⟩),.pointer (some ⟨C,0,none⟩)] (Lh n lv c) (λs=>a0<s.a/\zC s<=10):=by
 intro w s hM ⟨ha,hp⟩;have yh:=hid (λW r (h:Mk (kP n lv la lc g) w0 P r W)=>(show W.cell? ⟨B,0,none⟩=some (.pointer (some ⟨g,0,none⟩))from(h.blk hbox Nr).cell 0));have Vm:=hid (λW r (h:Mk (kP n lv la lc g) w0 P r W)=>(show W.cell? ⟨C,0,none⟩=some (.string t)from(h.blk Nv eU).cell 0));have b0:=yh.out _ _ hM;have ja:=hid (Nu (w0:=w0) (P:=P) HL);have HW:=hid (gZ (n:=n) (lv:=lv) (la:=la) (lc:=lc) (g:=g) (w0:=w0) (P:=P) t c ht);have HM:=hid hM;clear hM hbox Nv ht;go_enter func201,ntmps201
 go_wp2_with fail
 refine(ja.out _ _ HM.out ⟨by omega,by omega⟩).mono ?_;rintro e w1 ⟨rfl,s1,he1,hM1⟩;have zt:=hid hM1;have yU:=hid he1;have ha1:=he1.kp.a;have hp1:=zl he1 (by rfl) (c:=4) (of_decide_eq_true (by rfl));clear hM1 he1;have b1:=yh.out _ _ zt.out;have c1:=Vm.out _ _ zt.out
 go_wp2_with fail
 refine(HW.out _ _ zt.out (xG zt.out (by omega))).mono ?_;rintro e w2 ⟨rfl,s2,he2,hM2⟩;have zo:=hid hM2;have HE2:=hid he2;have ha2:=he2.kp.a;clear hM2 he2;go_wp2
 go_end0
 exact⟨rfl,_,.seq yU.out HE2.out,zo.out⟩
theorem zin{a0:Nat}(HL:ZU n lv la lc g a0):yT (kP n lv la lc g) w0 P 176 #[.pointer (some ⟨g,0,none⟩)] (Nb n lv) (λs=>a0<s.a/\zC s<=0):=by
 intro w s hM ⟨ha,hp⟩;have qE:=hid (zil (w0:=w0) (P:=P) HL);have ja:=hid (Nu (w0:=w0) (P:=P) HL);have jk:=hid (λt l (hl:Sg t l) w s (h:Mk (kP n lv la lc g) w0 P s w)=>ZP t l hl h);have Q7:=hid (gZ (n:=n) (lv:=lv) (la:=la) (lc:=lc) (g:=g) (w0:=w0) (P:=P) ⟨#[102]⟩ 102 (by decide+kernel));have HM:=hid hM;clear hM;go_enter func176,ntmps176
 go_wp2_with fail
 refine(qE.out _ _ HM.out ⟨by omega,by omega⟩).mono ?_;rintro e w1 ⟨rfl,s1,he1,hM1⟩;have zt:=hid hM1;have yU:=hid he1;have ha1:=he1.kp.a;have hp1:=zl he1 (by rfl) (c:=9) (of_decide_eq_true (by rfl));clear hM1 he1;go_wp2
 go_loopw [] (λwr=>Rl (kP n lv la lc g) w0 P (.rep (isS n lv [101]) (.seq .zu (Na n lv)) qA .skip) s1 9 wr) (λwr=>n+1-XM g wr)
 case atStart=>exact⟨s1,zt.out,by omega,Nat.le_refl _,λ_ h=>h⟩
 case round=>
  obtain⟨r,hMr,hpr,har,hk⟩:=hrel;obtain⟨b,hb⟩:∃b,isS n lv [101] r=b:=⟨_,rfl⟩;have HC:=hid (jk.out ⟨#[101]⟩ [101] (by decide+kernel) _ _ hMr b hb);have zq:=hid hMr;have HB:=hid hb;have HK:=hid hk;clear hMr hb hk
  cases b with
  |true=>
   go_wp2_with fail
   refine HC.out.mono ?_;rintro e w2 ⟨rfl,hM2⟩;have zo:=hid (show Mk (kP n lv la lc g) w0 P (zA r) w2 from hM2);have hp2:=xk r;have ha2:(zA r).a=r.a+1:=rfl;clear hM2
   go_wp2_with fail
   refine(qE.out _ _ zo.out ⟨by omega,by omega⟩).mono ?_;rintro e w3 ⟨rfl,s3,he3,zx⟩;have zn:=hid zx;have yN:=hid he3;have ji:=he3.kp.a;have hp3:=zl he3 (by rfl) (c:=9) (of_decide_eq_true (by rfl));clear zx he3;go_wp2
   go_roundw
   case rel=>exact⟨_,zn.out,by omega,by omega,λs' he=>HK.out s' (.go HB.out (.seq .zu yN.out) rfl .skip he)⟩
   case measure=>
    have e1:=xJ zn.out;have e2:=xJ zq.out;have:=yV (lv:=lv) HB.out (by decide);rw[e1,e2];omega
  |false=>
   go_wp2_with fail
   refine HC.out.mono ?_;rintro e w2 ⟨rfl,hM2⟩;have zo:=hid (show Mk (kP n lv la lc g) w0 P r w2 from hM2);have HE2:=hid (HK.out _ (.stop HB.out));clear hM2;obtain⟨c,hc⟩:∃c,isS n lv [108] r=c:=⟨_,rfl⟩;have HC2:=hid (jk.out ⟨#[108]⟩ [108] (by decide+kernel) _ _ zo.out c hc);have uw:=hid hc;clear hc
   cases c with
   |true=>
    go_wp2_with fail
    refine HC2.out.mono ?_;rintro e w3 ⟨rfl,zx⟩;have zn:=hid (show Mk (kP n lv la lc g) w0 P (zA r) w3 from zx);have hp3:=xk r;have ji:(zA r).a=r.a+1:=rfl;clear zx
    go_wp2_with fail
    refine(ja.out _ _ zn.out ⟨by omega,by omega⟩).mono ?_;rintro e w4 ⟨rfl,s4,he4,zH⟩;have zK:=hid zH;have xA:=hid he4;have jM:=he4.kp.a;have qf:=zl he4 (by rfl) (c:=4) (of_decide_eq_true (by rfl));clear zH he4
    go_wp2_with fail
    refine(Q7.out _ _ zK.out (xG zK.out (by omega))).mono ?_;rintro e w5 ⟨rfl,s5,zW,yD⟩;have zX:=hid yD;have vX:=hid zW;have YJ:=zW.kp.a;have jU:=zl zW (by rfl) (c:=1) (of_decide_eq_true (by rfl));clear yD zW;go_wp2
    go_end0
    exact⟨rfl,_,.seq yU.out (.seq HE2.out (.seq (.yes uw.out (.seq .zu xA.out)) vX.out)),zX.out⟩
   |false=>
    go_wp2_with fail
    refine HC2.out.mono ?_;rintro e w3 ⟨rfl,zx⟩;have zn:=hid (show Mk (kP n lv la lc g) w0 P r w3 from zx);clear zx
    go_wp2_with fail
    refine(Q7.out _ _ zn.out (xG zn.out (by omega))).mono ?_;rintro e w5 ⟨rfl,s5,zW,yD⟩;have zX:=hid yD;have vX:=hid zW;have YJ:=zW.kp.a;have jU:=zl zW (by rfl) (c:=1) (of_decide_eq_true (by rfl));clear yD zW;go_wp2
    go_end0
    exact⟨rfl,_,.seq yU.out (.seq HE2.out (.seq (.no uw.out .skip) vX.out)),zX.out⟩
end
section
variable{n:Nat}{lv:Nat->Lf}{la:Option Addr}{lc g:Nat}{w0:World}{P:Nat->Prop}
theorem zio:yT (kP n lv la lc g) w0 P 205 #[.pointer (some ⟨g,0,none⟩)] (zab n lv) (λs=>zC s<=10):=by
 intro w s hM hp;have jk:=hid (λt l (hl:Sg t l) w s (h:Mk (kP n lv la lc g) w0 P s w)=>ZP t l hl h);have uP:=hid (wS (n:=n) (lv:=lv) (la:=la) (lc:=lc) (g:=g) (w0:=w0) (P:=P));have Q5:=hid (Nl (n:=n) (lv:=lv) (la:=la) (lc:=lc) (g:=g) (w0:=w0) (P:=P));have eX:=hid (λw s (h:Mk (kP n lv la lc g) w0 P s w)=>zah ⟨#[59]⟩ [59] [59,110] (by decide+kernel) (λc=>by simp only[List.contains_cons,List.contains_nil,Bool.or_false]) h);have dW:=hid (λw s (h:Mk (kP n lv la lc g) w0 P s w)=>Np (n:=n) (lv:=lv) (la:=la) (lc:=lc) (g:=g) w0 P w s h);have HM:=hid hM;clear hM;obtain⟨b0,hb0⟩:∃b,isS n lv [107] s=b:=⟨_,rfl⟩;have wX:=hid (jk.out ⟨#[107]⟩ [107] (by decide+kernel) _ _ HM.out b0 hb0);have HB0:=hid hb0;clear hb0
 cases b0 with
 |false=>
  go_enter func205,ntmps205
  go_wp2_with fail
  refine wX.out.mono ?_;rintro e w1 ⟨rfl,hM1⟩;have zt:=hid (show Mk (kP n lv la lc g) w0 P s w1 from hM1);clear hM1;go_wp2;refine bodyPost_ret (v:=.tuple #[]) (results_none rfl _ _ _) rfl ?_;exact⟨rfl,_,.no HB0.out .skip,zt.out⟩
 |true=>
  go_enter func205,ntmps205
  go_wp2_with fail
  refine wX.out.mono ?_;rintro e w1 ⟨rfl,hM1⟩;have zt:=hid (show Mk (kP n lv la lc g) w0 P (zA s) w1 from hM1);have hp1:=xk s;have ha1:(zA s).a=s.a+1:=rfl;clear hM1;go_wp2
  go_loopw [] (λwr=>Rl (kP n lv la lc g) w0 P (.rep (xh n lv) Jf qA .skip) (zA s) 0 wr) (λwr=>n+1-XM g wr)
  case atStart=>exact⟨zA s,zt.out,by omega,Nat.le_refl _,λ_ h=>h⟩
  case round=>
   obtain⟨r,hMr,hpr,har,hk⟩:=hrel;obtain⟨b,hb⟩:∃b,xh n lv r=b:=⟨_,rfl⟩;have hc:=dW.out _ _ hMr;rw[hb]at hc;have HC:=hid hc;have zq:=hid hMr;have HB:=hid hb;have HK:=hid hk;clear hMr hb hk hc
   cases b with
   |true=>
    go_wp2_with fail
    refine(HC.out).mono ?_;rintro e w2 ⟨rfl,hb2⟩;have zo:=hid (zq.out.below hb2);clear hb2
    go_wp2_with fail
    refine(Q5.out _ _ zo.out ⟨ZR HB.out,xG zo.out (by omega)⟩).mono ?_;rintro e w3 ⟨rfl,s3,he3,zx⟩;have zn:=hid zx;have yN:=hid he3;have ji:=he3.kp.a;have hp3:=zl he3 (by rfl) (c:= -29) (of_decide_eq_true (by rfl));clear zx he3;go_wp2
    go_roundw
    case rel=>exact⟨_,zn.out,by omega,by omega,λs' he=>HK.out s' (.go HB.out yN.out rfl .skip he)⟩
    case measure=>
     have e1:=xJ zn.out;have e2:=xJ zq.out;have:=yN.out.word_lt;have:=zn.out.yM;change s3.a<=n at this;rw[e1,e2];omega
   |false=>
    go_wp2_with fail
    refine(HC.out).mono ?_;rintro e w2 ⟨rfl,hb2⟩;have zo:=hid (zq.out.below hb2);clear hb2;have HE2:=hid (HK.out _ (.stop HB.out));obtain⟨c,hc⟩:∃c,isS n lv [59,110] r=c:=⟨_,rfl⟩;have HS:=hid (eX.out _ _ zo.out c hc);have uw:=hid hc;clear hc
    cases c with
    |true=>
     go_wp2_with fail
     refine(HS.out).mono ?_;rintro e w3 ⟨rfl,s3,he3,zx⟩;have zn:=hid zx;have yN:=hid he3;have ji:=he3.kp.a;clear zx he3;go_wp2
     go_end0
     refine⟨rfl,_,.yes HB0.out (.seq .zu (.seq HE2.out ?_)),zn.out⟩
     cases yN.out with
     |yes _ h=>exact .yes uw.out h
     |no h _=>rw[uw.out]at h;cases h
    |false=>
     go_wp2_with fail
     refine HS.out.mono ?_;rintro e w3 ⟨rfl,s3,he3,zx⟩
     cases he3 with
     |yes h _=>rw[uw.out]at h;cases h
     |no _ h=>
     cases h;have zn:=hid zx;clear zx
     go_wp2_with fail
     refine(uP.out _ _ zn.out (xG zn.out (by omega))).mono ?_;rintro e w4 ⟨rfl,s4,he4,zH⟩;have zK:=hid zH;have xA:=hid he4;have jM:=he4.kp.a;have qf:=zl he4 (by rfl) (c:=1) (of_decide_eq_true (by rfl));clear zH he4;go_wp2
     go_end0
     exact⟨rfl,_,.yes HB0.out (.seq .zu (.seq HE2.out (.no uw.out xA.out))),zK.out⟩
theorem ziq{a0:Nat}(HL:ZU n lv la lc g a0):yT (kP n lv la lc g) w0 P 178 #[.pointer (some ⟨g,0,none⟩)] (Nc n lv) (λs=>a0<s.a/\zC s<=0):=by
 intro w s hM ⟨ha,hp⟩;obtain⟨nv,hB,hO,h3,h4⟩:=hM.own;have c3:=λW (hb:Below w.heap.size w W)=>(show W.cell? ⟨g,3,none⟩=some (.string (yF n lv s.a).s)from(hB.below hb).cell 3);have hsz:=Je hM.st.VF s.a;change(yF n lv s.a).s.size<=100 at hsz;obtain⟨x,hx⟩:∃x,xh n lv s=x:=⟨_,rfl⟩;obtain⟨y,hy⟩:∃y,ui (yF n lv s.a).s=y:=⟨_,rfl⟩;have hxy:Zh n lv s=(x && y):=by unfold Zh;rw[hx,hy]
 obtain⟨t,ht⟩:∃t,(yF n lv s.a).s=t:=⟨_,rfl⟩;rw[ht]at hy hsz c3;have xP:=hid (λW=>zaq t W (by omega));rw[hy]at xP;have hc:=Np (n:=n) (lv:=lv) (la:=la) (lc:=lc) (g:=g) w0 P w s hM;rw[hx]at hc;have HC:=hid hc;have HX:=hid hx;have dX:=hid hxy;have jH:=hid c3;have dY:=hid (zio (n:=n) (lv:=lv) (la:=la) (lc:=lc) (g:=g) (w0:=w0) (P:=P));have uA:=hid (zan (w0:=w0) (P:=P) HL);have eY:=hid hM;have jk:=hid (λt l (hl:Sg t l) w s (h:Mk (kP n lv la lc g) w0 P s w)=>ZP t l hl h);have Zi:=hid (λw s (h:Mk (kP n lv la lc g) w0 P s w)=>Lt h);have uP:=hid (wS (n:=n) (lv:=lv) (la:=la) (lc:=lc) (g:=g) (w0:=w0) (P:=P));have Q5:=hid (Nl (n:=n) (lv:=lv) (la:=la) (lc:=lc) (g:=g) (w0:=w0) (P:=P));clear hM hB hO h3 h4 hx hy ht hc c3 hxy hsz
 cases x with
 |false=>
  go_enter func178,ntmps178
  go_wp2_with fail
  refine(HC.out).mono ?_;rintro e w1 ⟨rfl,hb1⟩;have zt:=hid (eY.out.below hb1);clear hb1
  go_wp2_with fail
  refine(uP.out _ _ zt.out (xG zt.out (by omega))).mono ?_;rintro e w2 ⟨rfl,s2,he2,hM2⟩;have zo:=hid hM2;have HE2:=hid he2;have ha2:=he2.kp.a;have hp2:=zl he2 (by rfl) (c:=1) (of_decide_eq_true (by rfl));clear hM2 he2;obtain⟨b5,hb5⟩:∃b,isS n lv [59] s2=b:=⟨_,rfl⟩;have Vo:=hid (jk.out ⟨#[59]⟩ [59] (by decide+kernel) _ _ zo.out b5 hb5);have uH:=hid hb5;clear hb5
  cases b5 with
  |true=>
   go_wp2_with fail
   refine Vo.out.mono ?_;rintro e w6 ⟨rfl,zG⟩;have zL:=hid (show Mk (kP n lv la lc g) w0 P (zA s2) w6 from zG);have ku:=xk s2;have ha6:(zA s2).a=s2.a+1:=rfl;clear zG;obtain⟨z7,jc⟩:∃z,isS n lv [110] (zA s2)=z:=⟨_,rfl⟩;have XN:=hid (Zi.out _ _ zL.out z7 jc);clear jc
   go_wp2_with fail
   refine(XN.out).mono ?_;rintro e w7 ⟨rfl,s7,xK,yX⟩;have yJ:=hid yX;have jl:=hid xK;have VI:=xK.kp.a;have VJ:=zl xK (by rfl) (c:=0) (of_decide_eq_true (by rfl));clear yX xK
   go_wp2_with fail
   refine(uA.out _ _ yJ.out ⟨by omega,by omega⟩).mono ?_;rintro e w8 ⟨rfl,s8,zS,yj⟩;have yQ:=hid yj;have vJ:=hid zS;have ZV:=zS.kp.a;clear yj zS;go_wp2
   go_end0
   exact⟨rfl,_,.seq (.no dX.out HE2.out) (.seq (.yes uH.out (.seq .zu jl.out)) vJ.out),yQ.out⟩
  |false=>
   go_wp2_with fail
   refine Vo.out.mono ?_;rintro e w6 ⟨rfl,zG⟩;have zL:=hid (show Mk (kP n lv la lc g) w0 P s2 w6 from zG);clear zG;obtain⟨z7,jc⟩:∃z,isS n lv [110] s2=z:=⟨_,rfl⟩;have XN:=hid (Zi.out _ _ zL.out z7 jc);clear jc
   go_wp2_with fail
   refine(XN.out).mono ?_;rintro e w7 ⟨rfl,s7,xK,yX⟩;have yJ:=hid yX;have jl:=hid xK;have VI:=xK.kp.a;have VJ:=zl xK (by rfl) (c:=0) (of_decide_eq_true (by rfl));clear yX xK
   go_wp2_with fail
   refine(dY.out _ _ yJ.out (by omega)).mono ?_;rintro e w8 ⟨rfl,s8,zS,yj⟩;have yQ:=hid yj;have vJ:=hid zS;have ZV:=zS.kp.a;have Xe:=zl zS (by rfl) (c:=0) (of_decide_eq_true (by rfl));clear yj zS
   go_wp2_with fail
   refine(uA.out _ _ yQ.out ⟨by omega,by omega⟩).mono ?_;rintro e w9 ⟨rfl,s9,xX,xY⟩;have yl:=hid xY;have qW:=hid xX;have Q8:=xX.kp.a;clear xY xX;go_wp2
   go_end0
   exact⟨rfl,_,.seq (.no dX.out HE2.out) (.seq (.no uH.out (.seq jl.out vJ.out)) qW.out),yl.out⟩
 |true=>
  cases y with
  |true=>
   go_enter func178,ntmps178
   go_wp2_with fail
   refine HC.out.mono ?_;rintro e w1 ⟨rfl,hb1⟩;have c3:=jH.out _ hb1;have zt:=hid (eY.out.below hb1);clear hb1
   go_wp2_with fail
   refine(xP.out _).mono ?_;rintro e w2 ⟨rfl,hb2⟩;have zo:=hid (show Mk (kP n lv la lc g) w0 P s w2 from by rw[hb2];exact zt.out);clear hb2
   go_wp2_with fail
   refine(Q5.out _ _ zo.out ⟨ZR HX.out,xG zo.out (by omega)⟩).mono ?_;rintro e w3 ⟨rfl,s3,he3,zx⟩;have zn:=hid zx;have yN:=hid he3;have ji:=he3.kp.a;have hp3:=zl he3 (by rfl) (c:= -29) (of_decide_eq_true (by rfl));clear zx he3;obtain⟨b5,hb5⟩:∃b,isS n lv [59] s3=b:=⟨_,rfl⟩;have Vo:=hid (jk.out ⟨#[59]⟩ [59] (by decide+kernel) _ _ zn.out b5 hb5);have uH:=hid hb5;clear hb5
   cases b5 with
   |true=>
    go_wp2_with fail
    refine Vo.out.mono ?_;rintro e w6 ⟨rfl,zG⟩;have zL:=hid (show Mk (kP n lv la lc g) w0 P (zA s3) w6 from zG);have ku:=xk s3;have ha6:(zA s3).a=s3.a+1:=rfl;clear zG;obtain⟨z7,jc⟩:∃z,isS n lv [110] (zA s3)=z:=⟨_,rfl⟩;have XN:=hid (Zi.out _ _ zL.out z7 jc);clear jc
    go_wp2_with fail
    refine(XN.out).mono ?_;rintro e w7 ⟨rfl,s7,xK,yX⟩;have yJ:=hid yX;have jl:=hid xK;have VI:=xK.kp.a;have VJ:=zl xK (by rfl) (c:=0) (of_decide_eq_true (by rfl));clear yX xK
    go_wp2_with fail
    refine(uA.out _ _ yJ.out ⟨by omega,by omega⟩).mono ?_;rintro e w8 ⟨rfl,s8,zS,yj⟩;have yQ:=hid yj;have vJ:=hid zS;have ZV:=zS.kp.a;clear yj zS;go_wp2
    go_end0
    exact⟨rfl,_,.seq (.yes dX.out yN.out) (.seq (.yes uH.out (.seq .zu jl.out)) vJ.out),yQ.out⟩
   |false=>
    go_wp2_with fail
    refine Vo.out.mono ?_;rintro e w6 ⟨rfl,zG⟩;have zL:=hid (show Mk (kP n lv la lc g) w0 P s3 w6 from zG);clear zG;obtain⟨z7,jc⟩:∃z,isS n lv [110] s3=z:=⟨_,rfl⟩;have XN:=hid (Zi.out _ _ zL.out z7 jc);clear jc
    go_wp2_with fail
    refine(XN.out).mono ?_;rintro e w7 ⟨rfl,s7,xK,yX⟩;have yJ:=hid yX;have jl:=hid xK;have VI:=xK.kp.a;have VJ:=zl xK (by rfl) (c:=0) (of_decide_eq_true (by rfl));clear yX xK
    go_wp2_with fail
    refine(dY.out _ _ yJ.out (by omega)).mono ?_;rintro e w8 ⟨rfl,s8,zS,yj⟩;have yQ:=hid yj;have vJ:=hid zS;have ZV:=zS.kp.a;have Xe:=zl zS (by rfl) (c:=0) (of_decide_eq_true (by rfl));clear yj zS
    go_wp2_with fail
    refine(uA.out _ _ yQ.out ⟨by omega,by omega⟩).mono ?_;rintro e w9 ⟨rfl,s9,xX,xY⟩;have yl:=hid xY;have qW:=hid xX;have Q8:=xX.kp.a;clear xY xX;go_wp2
    go_end0
    exact⟨rfl,_,.seq (.yes dX.out yN.out) (.seq (.no uH.out (.seq jl.out vJ.out)) qW.out),yl.out⟩
  |false=>
   go_enter func178,ntmps178
   go_wp2_with fail
   refine HC.out.mono ?_;rintro e w1 ⟨rfl,hb1⟩;have c3:=jH.out _ hb1;have zt:=hid (eY.out.below hb1);clear hb1
   go_wp2_with fail
   refine(xP.out _).mono ?_;rintro e w2 ⟨rfl,hb2⟩;have zo:=hid (show Mk (kP n lv la lc g) w0 P s w2 from by rw[hb2];exact zt.out);clear hb2
   go_wp2_with fail
   refine(uP.out _ _ zo.out (xG zo.out (by omega))).mono ?_;rintro e w3 ⟨rfl,s3,he3,zx⟩;have zn:=hid zx;have yN:=hid he3;have ji:=he3.kp.a;have hp3:=zl he3 (by rfl) (c:=1) (of_decide_eq_true (by rfl));clear zx he3;obtain⟨b5,hb5⟩:∃b,isS n lv [59] s3=b:=⟨_,rfl⟩;have Vo:=hid (jk.out ⟨#[59]⟩ [59] (by decide+kernel) _ _ zn.out b5 hb5);have uH:=hid hb5;clear hb5
   cases b5 with
   |true=>
    go_wp2_with fail
    refine Vo.out.mono ?_;rintro e w6 ⟨rfl,zG⟩;have zL:=hid (show Mk (kP n lv la lc g) w0 P (zA s3) w6 from zG);have ku:=xk s3;have ha6:(zA s3).a=s3.a+1:=rfl;clear zG;obtain⟨z7,jc⟩:∃z,isS n lv [110] (zA s3)=z:=⟨_,rfl⟩;have XN:=hid (Zi.out _ _ zL.out z7 jc);clear jc
    go_wp2_with fail
    refine(XN.out).mono ?_;rintro e w7 ⟨rfl,s7,xK,yX⟩;have yJ:=hid yX;have jl:=hid xK;have VI:=xK.kp.a;have VJ:=zl xK (by rfl) (c:=0) (of_decide_eq_true (by rfl));clear yX xK
    go_wp2_with fail
    refine(uA.out _ _ yJ.out ⟨by omega,by omega⟩).mono ?_;rintro e w8 ⟨rfl,s8,zS,yj⟩;have yQ:=hid yj;have vJ:=hid zS;have ZV:=zS.kp.a;clear yj zS;go_wp2
    go_end0
    exact⟨rfl,_,.seq (.no dX.out yN.out) (.seq (.yes uH.out (.seq .zu jl.out)) vJ.out),yQ.out⟩
   |false=>
    go_wp2_with fail
    refine Vo.out.mono ?_;rintro e w6 ⟨rfl,zG⟩;have zL:=hid (show Mk (kP n lv la lc g) w0 P s3 w6 from zG);clear zG;obtain⟨z7,jc⟩:∃z,isS n lv [110] s3=z:=⟨_,rfl⟩;have XN:=hid (Zi.out _ _ zL.out z7 jc);clear jc
    go_wp2_with fail
    refine(XN.out).mono ?_;rintro e w7 ⟨rfl,s7,xK,yX⟩;have yJ:=hid yX;have jl:=hid xK;have VI:=xK.kp.a;have VJ:=zl xK (by rfl) (c:=0) (of_decide_eq_true (by rfl));clear yX xK
    go_wp2_with fail
    refine(dY.out _ _ yJ.out (by omega)).mono ?_;rintro e w8 ⟨rfl,s8,zS,yj⟩;have yQ:=hid yj;have vJ:=hid zS;have ZV:=zS.kp.a;have Xe:=zl zS (by rfl) (c:=0) (of_decide_eq_true (by rfl));clear yj zS
    go_wp2_with fail
    refine(uA.out _ _ yQ.out ⟨by omega,by omega⟩).mono ?_;rintro e w9 ⟨rfl,s9,xX,xY⟩;have yl:=hid xY;have qW:=hid xX;have Q8:=xX.kp.a;clear xY xX;go_wp2
    go_end0
    exact⟨rfl,_,.seq (.no dX.out yN.out) (.seq (.no uH.out (.seq jl.out vJ.out)) qW.out),yl.out⟩
theorem zir:Ld (kP n lv la lc g) g 206 (QY n lv):=by
 intro w0 P w s hM;obtain⟨nv,hB,hO,h3,h4⟩:=hM.own;have c6:w.cell? ⟨g,6,none⟩=some (.int .u8 (zJ n lv s.a:Int)):=hB.cell 6;have Ea:=λW (hb:Below w.heap.size w W)=>(show W.cell? ⟨g,6,none⟩=some (.int .u8 (zJ n lv s.a:Int))from(hB.below hb).cell 6);have hr:=Np (n:=n) (lv:=lv) (la:=la) (lc:=lc) (g:=g) w0 P w s hM;unfold QY;obtain⟨x,hx⟩:∃x,zJ n lv s.a=x:=⟨_,rfl⟩;rw[hx]at c6 Ea ⊢;obtain⟨r,hr2⟩:∃r,xh n lv s=r:=⟨_,rfl⟩;rw[hr2]at hr ⊢;have HR:=hid hr;have Lu:=hid Ea;clear hB hO h3 h4 hM hx hr hr2 Ea;by_cases yZ:x=40
 ·subst yZ
  go_enter func206,ntmps206;go_wp2;go_ret;exact⟨rfl,Below.refl _ _⟩
 ·have t1:((x:Int)==40)=false:=by simp;omega
  have e1:(x==40)=false:=by simpa using yZ
  rw[e1,Bool.false_or];clear e1 yZ
  cases r with
  |false=>
   go_enter func206,ntmps206
   go_wp2_with fail
   refine HR.out.mono ?_;rintro e w1 ⟨rfl,hb1⟩;have HB1:=hid hb1;clear hb1;go_wp2;go_ret;exact⟨rfl,HB1.out⟩
  |true=>
   obtain⟨y,hy⟩:∃y,(x==122)=y:=⟨_,rfl⟩;have t2:((x:Int)==122)=y:=by rw[←hy,Bool.eq_iff_iff];simp;omega
   have t3:((x:Int)!=122)=!y:=by rw[bne,t2]
   rw[hy];clear hy;go_enter func206,ntmps206
   go_wp2_with fail
   refine HR.out.mono ?_;rintro e w1 ⟨rfl,hb1⟩;have d6:=Lu.out _ hb1;have HB1:=hid hb1;clear hb1;go_wp2;go_ret;exact⟨rfl,HB1.out⟩
theorem zis{a0:Nat}(HL:ZU n lv la lc g a0):yT (kP n lv la lc g) w0 P 207 #[.pointer (some ⟨g,0,none⟩)] (Lj n lv) (λs=>a0<s.a/\zC s<=5):=by
 intro w s hM ⟨ha,hp⟩;have jk:=hid (λt l (hl:Sg t l) w s (h:Mk (kP n lv la lc g) w0 P s w)=>ZP t l hl h);have Zi:=hid (λw s (h:Mk (kP n lv la lc g) w0 P s w)=>Lt h);have XO:=hid (ed (n:=n) (lv:=lv) (la:=la) (lc:=lc) (g:=g) (w0:=w0) (P:=P));have Xf:=hid (gZ (n:=n) (lv:=lv) (la:=la) (lc:=lc) (g:=g) (w0:=w0) (P:=P) ⟨#[41]⟩ 41 (by decide+kernel));have kL:=hid (λW r (h:Mk (kP n lv la lc g) w0 P r W)=>zam HL h);have HM:=hid hM;clear hM;obtain⟨b0,hb0⟩:∃b,isS n lv [40] s=b:=⟨_,rfl⟩;have wX:=hid (jk.out ⟨#[40]⟩ [40] (by decide+kernel) _ _ HM.out b0 hb0);have HB0:=hid hb0;clear hb0
 cases b0 with
 |true=>
  go_enter func207,ntmps207
  go_wp2_with fail
  refine wX.out.mono ?_;rintro e w1 ⟨rfl,hM1⟩;have zt:=hid (show Mk (kP n lv la lc g) w0 P (zA s) w1 from hM1);have hp1:=xk s;have ha1:(zA s).a=s.a+1:=rfl;clear hM1
  go_wp2_with fail
  refine(XO.out _ _ zt.out (xG zt.out (by omega))).mono ?_;rintro e w2 ⟨rfl,s2,he2,hM2⟩;have zo:=hid hM2;have HE2:=hid he2;have ha2:=he2.kp.a;have hp2:=zl he2 (by rfl) (c:=1) (of_decide_eq_true (by rfl));clear hM2 he2;go_wp2
  go_loopw [] (λwr=>Rl (kP n lv la lc g) w0 P (.rep (isS n lv [124]) (.seq .zu (JU n lv)) qA .skip) s2 6 wr) (λwr=>n+1-XM g wr)
  case atStart=>exact⟨s2,zo.out,by omega,Nat.le_refl _,λ_ h=>h⟩
  case round=>
   obtain⟨r,hMr,hpr,har,hk⟩:=hrel;obtain⟨b,hb⟩:∃b,isS n lv [124] r=b:=⟨_,rfl⟩;have HC:=hid (jk.out ⟨#[124]⟩ [124] (by decide+kernel) _ _ hMr b hb);have zq:=hid hMr;have HB:=hid hb;have HK:=hid hk;clear hMr hb hk
   cases b with
   |true=>
    go_wp2_with fail
    refine HC.out.mono ?_;rintro e w3 ⟨rfl,zx⟩;have zn:=hid (show Mk (kP n lv la lc g) w0 P (zA r) w3 from zx);have hp3:=xk r;have ji:(zA r).a=r.a+1:=rfl;clear zx
    go_wp2_with fail
    refine(XO.out _ _ zn.out (xG zn.out (by omega))).mono ?_;rintro e w4 ⟨rfl,s4,he4,zH⟩;have zK:=hid zH;have xA:=hid he4;have jM:=he4.kp.a;have qf:=zl he4 (by rfl) (c:=1) (of_decide_eq_true (by rfl));clear zH he4;go_wp2
    go_roundw
    case rel=>exact⟨_,zK.out,by omega,by omega,λs' he=>HK.out s' (.go HB.out (.seq .zu xA.out) rfl .skip he)⟩
    case measure=>
     have e1:=xJ zK.out;have e2:=xJ zq.out;have:=yV (lv:=lv) HB.out (by decide);rw[e1,e2];omega
   |false=>
    go_wp2_with fail
    refine HC.out.mono ?_;rintro e w3 ⟨rfl,zx⟩;have zn:=hid (show Mk (kP n lv la lc g) w0 P r w3 from zx);have yN:=hid (HK.out _ (.stop HB.out));clear zx
    go_wp2_with fail
    refine(Xf.out _ _ zn.out (xG zn.out (by omega))).mono ?_;rintro e w4 ⟨rfl,s4,he4,zH⟩;have zK:=hid zH;have xA:=hid he4;have jM:=he4.kp.a;have qf:=zl he4 (by rfl) (c:=1) (of_decide_eq_true (by rfl));clear zH he4;obtain⟨z5,Y6⟩:∃z,isS n lv [110] s4=z:=⟨_,rfl⟩;have Eb:=hid (Zi.out _ _ zK.out z5 Y6);clear Y6
    go_wp2_with fail
    refine(Eb.out).mono ?_;rintro e w5 ⟨rfl,s5,zW,yD⟩;have zX:=hid yD;have vX:=hid zW;have YJ:=zW.kp.a;have jU:=zl zW (by rfl) (c:=0) (of_decide_eq_true (by rfl));clear yD zW;obtain⟨c,hc⟩:∃c,xI n lv s5=c:=⟨_,rfl⟩;have Gf:=hid (kL.out w5 s5 zX.out (by omega) (by omega) c hc);clear hc
    go_wp2_with fail
    refine(Gf.out).mono ?_;rintro e w6 ⟨rfl,s6,zD,zG⟩;have zL:=hid zG;have y8:=hid zD;have ha6:=zD.kp.a;clear zG zD;go_wp2
    go_end0
    exact⟨rfl,_,.seq (.yes HB0.out .zu) (.seq HE2.out (.seq yN.out (.seq xA.out (.seq vX.out y8.out)))),zL.out⟩
 |false=>
  go_enter func207,ntmps207
  go_wp2_with fail
  refine wX.out.mono ?_;rintro e w1 ⟨rfl,hM1⟩;have zt:=hid (show Mk (kP n lv la lc g) w0 P s w1 from hM1);clear hM1
  go_wp2_with fail
  refine(XO.out _ _ zt.out (xG zt.out (by omega))).mono ?_;rintro e w2 ⟨rfl,s2,he2,hM2⟩;have zo:=hid hM2;have HE2:=hid he2;have ha2:=he2.kp.a;have hp2:=zl he2 (by rfl) (c:=1) (of_decide_eq_true (by rfl));clear hM2 he2;go_wp2
  go_loopw [] (λwr=>Rl (kP n lv la lc g) w0 P (.rep (isS n lv [124]) (.seq .zu (JU n lv)) qA .skip) s2 6 wr) (λwr=>n+1-XM g wr)
  case atStart=>exact⟨s2,zo.out,by omega,Nat.le_refl _,λ_ h=>h⟩
  case round=>
   obtain⟨r,hMr,hpr,har,hk⟩:=hrel;obtain⟨b,hb⟩:∃b,isS n lv [124] r=b:=⟨_,rfl⟩;have HC:=hid (jk.out ⟨#[124]⟩ [124] (by decide+kernel) _ _ hMr b hb);have zq:=hid hMr;have HB:=hid hb;have HK:=hid hk;clear hMr hb hk
   cases b with
   |true=>
    go_wp2_with fail
    refine HC.out.mono ?_;rintro e w3 ⟨rfl,zx⟩;have zn:=hid (show Mk (kP n lv la lc g) w0 P (zA r) w3 from zx);have hp3:=xk r;have ji:(zA r).a=r.a+1:=rfl;clear zx
    go_wp2_with fail
    refine(XO.out _ _ zn.out (xG zn.out (by omega))).mono ?_;rintro e w4 ⟨rfl,s4,he4,zH⟩;have zK:=hid zH;have xA:=hid he4;have jM:=he4.kp.a;have qf:=zl he4 (by rfl) (c:=1) (of_decide_eq_true (by rfl));clear zH he4;go_wp2
    go_roundw
    case rel=>exact⟨_,zK.out,by omega,by omega,λs' he=>HK.out s' (.go HB.out (.seq .zu xA.out) rfl .skip he)⟩
    case measure=>
     have e1:=xJ zK.out;have e2:=xJ zq.out;have:=yV (lv:=lv) HB.out (by decide);rw[e1,e2];omega
   |false=>
    go_wp2_with fail
    refine HC.out.mono ?_;rintro e w3 ⟨rfl,zx⟩;have zn:=hid (show Mk (kP n lv la lc g) w0 P r w3 from zx);have yN:=hid (HK.out _ (.stop HB.out));clear zx
    go_wp2_with fail
    refine(Xf.out _ _ zn.out (xG zn.out (by omega))).mono ?_;rintro e w4 ⟨rfl,s4,he4,zH⟩;have zK:=hid zH;have xA:=hid he4;have jM:=he4.kp.a;have qf:=zl he4 (by rfl) (c:=1) (of_decide_eq_true (by rfl));clear zH he4;obtain⟨z5,Y6⟩:∃z,isS n lv [110] s4=z:=⟨_,rfl⟩;have Eb:=hid (Zi.out _ _ zK.out z5 Y6);clear Y6
    go_wp2_with fail
    refine(Eb.out).mono ?_;rintro e w5 ⟨rfl,s5,zW,yD⟩;have zX:=hid yD;have vX:=hid zW;have YJ:=zW.kp.a;have jU:=zl zW (by rfl) (c:=0) (of_decide_eq_true (by rfl));clear yD zW;obtain⟨c,hc⟩:∃c,xI n lv s5=c:=⟨_,rfl⟩;have Gf:=hid (kL.out w5 s5 zX.out (by omega) (by omega) c hc);clear hc
    go_wp2_with fail
    refine(Gf.out).mono ?_;rintro e w6 ⟨rfl,s6,zD,zG⟩;have zL:=hid zG;have y8:=hid zD;have ha6:=zD.kp.a;clear zG zD;go_wp2
    go_end0
    exact⟨rfl,_,.seq (.no HB0.out .skip) (.seq HE2.out (.seq yN.out (.seq xA.out (.seq vX.out y8.out)))),zL.out⟩
theorem zit{a0:Nat}(HL:ZU n lv la lc g a0):yT (kP n lv la lc g) w0 P 179 #[.pointer (some ⟨g,0,none⟩)] (Nh n lv) (λs=>a0<s.a/\zC s<=0):=by
 intro w s hM ⟨ha,hp⟩;have HIT:=hid (λw s (h:Mk (kP n lv la lc g) w0 P s w)=>zir (n:=n) (lv:=lv) (la:=la) (lc:=lc) (g:=g) w0 P w s h);have Nw:=hid (VG 15 207 #[.pointer (some ⟨g,0,none⟩)] #[] (Zy _ _ _ func207 (by kernel_rfl) rfl) (Lj n lv) _ (zis (w0:=w0) (P:=P) HL));have hmf:=Ji;have jk:=hid (λt l (hl:Sg t l) w s (h:Mk (kP n lv la lc g) w0 P s w)=>ZP t l hl h);have Zi:=hid (λw s (h:Mk (kP n lv la lc g) w0 P s w)=>Lt h);have XO:=hid (ed (n:=n) (lv:=lv) (la:=la) (lc:=lc) (g:=g) (w0:=w0) (P:=P));have HWk:=hid (gZ (n:=n) (lv:=lv) (la:=la) (lc:=lc) (g:=g) (w0:=w0) (P:=P) ⟨#[107]⟩ 107 (by decide+kernel));have PG:=hid (gZ (n:=n) (lv:=lv) (la:=la) (lc:=lc) (g:=g) (w0:=w0) (P:=P) ⟨#[122]⟩ 122 (by decide+kernel));have HM:=hid hM;clear hM;go_enter func179,ntmps179
 go_step3
 go_wp2_with fail
 refine(XO.out _ _ HM.out (xG HM.out (by omega))).mono ?_;rintro e w1 ⟨rfl,s1,he1,hM1⟩;have zt:=hid hM1;have yU:=hid he1;have ha1:=he1.kp.a;have hp1:=zl he1 (by rfl) (c:=1) (of_decide_eq_true (by rfl));clear hM1 he1;obtain⟨z2,hz2⟩:∃z,isS n lv [110] s1=z:=⟨_,rfl⟩;have HZ2:=hid (Zi.out _ _ zt.out z2 hz2);clear hz2
 go_wp2_with fail
 refine(HZ2.out).mono ?_;rintro e w2 ⟨rfl,s2,he2,hM2⟩;have zo:=hid hM2;have HE2:=hid he2;have ha2:=he2.kp.a;have hp2:=zl he2 (by rfl) (c:=0) (of_decide_eq_true (by rfl));clear hM2 he2
 go_wp2_with fail
 refine(HWk.out _ _ zo.out (xG zo.out (by omega))).mono ?_;rintro e w3 ⟨rfl,s3,he3,zx⟩;have zn:=hid zx;have yN:=hid he3;have ji:=he3.kp.a;have hp3:=zl he3 (by rfl) (c:=1) (of_decide_eq_true (by rfl));clear zx he3;obtain⟨z4,ZW⟩:∃z,isS n lv [110] s3=z:=⟨_,rfl⟩;have JX:=hid (Zi.out _ _ zn.out z4 ZW);clear ZW
 go_wp2_with fail
 refine(JX.out).mono ?_;rintro e w4 ⟨rfl,s4,he4,zH⟩;have zK:=hid zH;have xA:=hid he4;have jM:=he4.kp.a;have qf:=zl he4 (by rfl) (c:=0) (of_decide_eq_true (by rfl));clear zH he4;go_wp2;try go_step3
 try go_wp2
 go_loopw [] (λwr=>Rl (kP n lv la lc g) w0 P (dO n lv) s4 2 wr) (λwr=>n+1-XM g wr)
 case atStart=>exact⟨s4,zK.out,by omega,Nat.le_refl _,λ_ h=>h⟩
 case round=>
  obtain⟨r,hMr,hpr,har,hk⟩:=hrel;obtain⟨b,hb⟩:∃b,QY n lv r=b:=⟨_,rfl⟩;have hc:=HIT.out _ _ hMr;rw[hb]at hc;have HC:=hid hc;have zq:=hid hMr;have HB:=hid hb;have HK:=hid hk;clear hMr hb hk hc
  cases b with
  |false=>
   go_wp2_with fail
   refine(HC.out).mono ?_;rintro e w5 ⟨rfl,hb5⟩;have zX:=hid (zq.out.below hb5);clear hb5;have vX:=hid (HK.out _ (.stop HB.out))
   go_wp2_with fail
   refine(PG.out _ _ zX.out (xG zX.out (by omega))).mono ?_;rintro e w6 ⟨rfl,s6,zD,zG⟩;have zL:=hid zG;have y8:=hid zD;have ha6:=zD.kp.a;have ku:=zl zD (by rfl) (c:=1) (of_decide_eq_true (by rfl));clear zG zD;go_wp2;rw[Exit.noGoto_normal]
   go_end0
   exact⟨rfl,_,.seq yU.out (.seq HE2.out (.seq yN.out (.seq xA.out (.seq vX.out y8.out)))),zL.out⟩
  |true=>
   go_wp2_with fail
   refine(HC.out).mono ?_;rintro e w5 ⟨rfl,hb5⟩;have zX:=hid (zq.out.below hb5);clear hb5;have hpb:=qC 15 false r;have hab:(zk 15 false r).a=r.a:=rfl
   go_wp2_with fail
   refine(Nw.out _ _ zX.out ⟨⟨by omega,by omega⟩,xG zX.out (by omega)⟩).mono ?_;rintro e w6 ⟨rfl,s6,zD,zG⟩;have zL:=hid zG;have y8:=hid zD;have ha6:=zD.kp.a;have ku:=zl zD (by rfl) (c:=7) (of_decide_eq_true (by rfl));clear zG zD;obtain⟨b7,hb7⟩:∃b,isS n lv [121] s6=b:=⟨_,rfl⟩;have Ny:=hid (jk.out ⟨#[121]⟩ [121] (by decide+kernel) _ _ zL.out b7 hb7);have Gh:=hid hb7;clear hb7
   cases b7 with
   |false=>
    go_wp2_with fail
    refine Ny.out.mono ?_;rintro e w7 ⟨rfl,yX⟩;have yJ:=hid (show Mk (kP n lv la lc g) w0 P s6 w7 from yX);clear yX;have jl:=hid (HK.out _ (.out HB.out y8.out Gh.out))
    go_wp2_with fail
    refine(PG.out _ _ yJ.out (xG yJ.out (by omega))).mono ?_;rintro e w8 ⟨rfl,s8,zS,yj⟩;have yQ:=hid yj;have vJ:=hid zS;have ZV:=zS.kp.a;have Xe:=zl zS (by rfl) (c:=1) (of_decide_eq_true (by rfl));clear yj zS;go_wp2;rw[Exit.noGoto_normal]
    go_end0
    exact⟨rfl,_,.seq yU.out (.seq HE2.out (.seq yN.out (.seq xA.out (.seq jl.out vJ.out)))),yQ.out⟩
   |true=>
    go_wp2_with fail
    refine Ny.out.mono ?_;rintro e w7 ⟨rfl,yX⟩;have yJ:=hid (show Mk (kP n lv la lc g) w0 P (zA s6) w7 from yX);have VJ:=xk s6;have VI:(zA s6).a=s6.a+1:=rfl;clear yX;obtain⟨z8,Q9⟩:∃z,isS n lv [110] (zA s6)=z:=⟨_,rfl⟩;have Nz:=hid (Zi.out _ _ yJ.out z8 Q9);clear Q9
    go_wp2_with fail
    refine(Nz.out).mono ?_;rintro e w8 ⟨rfl,s8,zS,yj⟩;have yQ:=hid yj;have vJ:=hid zS;have ZV:=zS.kp.a;have Xe:=zl zS (by rfl) (c:=0) (of_decide_eq_true (by rfl));clear yj zS;go_wp2
    go_roundw
    case rel=>exact⟨_,yQ.out,by omega,by omega,λs' he=>HK.out s' (.go HB.out y8.out Gh.out (.seq .zu vJ.out) he)⟩
    case measure=>
     have e1:=xJ yQ.out;have e2:=xJ zq.out;have:=yV (lv:=lv) Gh.out (by decide);rw[e1,e2];omega
end
end Go.Proofs.YtkolpaonccmgiaaGreatDoor.Q

/- What the document's own Parse of layer 13 (parse)  -/
import Derived.Test.YtkolpaonccmgiaaGreatDoorPk
import Derived.Test.YtkolpaonccmgiaaGreatDoorRuAic
import Derived.Test.YtkolpaonccmgiaaGreatDoorPbE
import Derived.Test.YtkolpaonccmgiaaGreatDoorTv
namespace Go.Proofs.YtkolpaonccmgiaaGreatDoor.Q
set_option linter.unusedSectionVars false
set_option linter.unusedVariables false
open Lib(hid)
set_option maxHeartbeats 8000000
set_option maxRecDepth 100000
open Go.RowKit
def zj0(n:Nat)(lv:Nat->Lf)(w:World)(v3 v4:Value)(wr:World):Prop:=
 ∃(k:Nat) (T:ByteArray),k<=n/\v4=.int .i64 (k:Int)/\v3=.string T/\T.size=k/\(∀i,i<k->(bt T i).toNat=zJ n lv i)/\Below w.heap.size w wr
section
variable{n:Nat}{lv:Nat->Lf}{la:Option Addr}{lc g:Nat}{S:ByteArray}{w0:World}{P:Nat->Prop}
theorem zj1{w wr:World}{i:Nat}(hi:i<=n)(hL:ZQ w la n lv)(hT:Tx w)(hs:∀i,i<n->(lv i).s.size<=100)(hn:n<=10000)(hb:Below w.heap.size w wr):
  Mk (kN n lv la lc S wr.heap.size) w (λk=>k<w.heap.size) ⟨i,[],-1,0⟩ (wr.alloc (.cells (Kv (.slice la n lc) S (.slice none 0 0) (i:Int) (-1) 0) 54)):=by
 have hb2:Below w.heap.size w (wr.alloc (.cells (Kv (.slice la n lc) S (.slice none 0 0) (i:Int) (-1) 0) 54)):=hb.alloc hb.size _;refine⟨⟨λk hk=>hk,hL,λb off h0 hl=>?_,hT,hT.1,hs,hn⟩,?_,hi,λh=>?_,.slice none 0 0,?_,World.ownsRow_nil _ _ _ _,by simp[Value.ownBlock],by simp[Value.ownBlock]⟩
 ·obtain⟨b',off',e1,e2,_⟩:=hL 0 h0
  change la=some ⟨b,off,none⟩at hl;rw[hl]at e1;cases e1;exact e2
 ·exact⟨hb2.os,hb2.tape,hb2.output,hb2.size,λk hk hk2=>hb2.block k (by simpa using hk2)⟩
 ·have:=hb.size
  change wr.heap.size<w.heap.size at h;omega
 ·exact zf.new wr _ _
theorem zj2{w w':World}{s:PS}(h:Mk (kN n lv la lc S g) w (λk=>k<w.heap.size) s w'):Below w.heap.size w w':=h.zh.below (Nat.le_refl _) (λk hk=>by omega)
theorem zj3{w w':World}{s:PS}(h:Mk (kN n lv la lc S g) w (λk=>k<w.heap.size) s w'):∃oa oc,zf w' g (Kv (.slice la n lc) S (.slice oa s.L.length oc) (s.a:Int) s.u (s.d:Int)) 54/\w'.ownsRow w.heap.size 32 4 (.slice oa s.L.length oc) s.L.length (vS s.L):=by
 obtain⟨nv,h1,h2,h3,h4⟩:=h.own;obtain⟨oa,oc,rfl⟩:=nV h2;exact⟨oa,oc,h1,Df h2 (λk hk=>by have:=h4 k hk;omega)⟩
def zj4(n:Nat)(lv:Nat->Lf)(la:Option Addr)(lc:Nat)(S:ByteArray)(g:Nat)(w0:World)(P:Nat->Prop)(s:PS)(v:Value)(wr:World):Prop:=
 ∃(l:Int) (r:PS),v=.int .i64 l/\Mk (kN n lv la lc S g) w0 P r wr/\zC r<=(if l=2 then 5 else 1)/\s.a<=r.a/\(l≠2->∀s',Ev n lv (uZ n lv) r s'->Ev n lv (uZ n lv) s s')/\(l=2->∀s',Ev n lv (.seq (wW n lv) (uZ n lv)) r s'->Ev n lv (uZ n lv) s s')
theorem zj5(w:World)(hL:ZQ w la n lv)(hT:Tx w)(hs:∀i,i<n->(lv i).s.size<=100)(hn:n<=10000):
  Calls Tryz.prog 14 #[.slice la n lc] w λe w'=>∃L oa oc,e=.returned (.slice oa L.length oc)/\Jh n lv L/\w'.ownsRow w.heap.size 32 4 (.slice oa L.length oc) L.length (vS L)/\Below w.heap.size w w':=by
 have Yb:=hid hL;have Xg:=hid hs;have RN:=hid hT;clear hL hT hs;go_enter Tryz.func14,Tryz.ntmps14;go_wp2
 go_loopw [3,4] (λv3 v4 wr=>zj0 n lv w v3 v4 wr) (λ_ v4 _=>n-(intOf v4).toNat)
 case atStart=>exact⟨0,⟨#[]⟩,Nat.zero_le _,rfl,rfl,rfl,λi h=>by omega,Below.refl _ _⟩
 case round=>
  obtain⟨k,T,hk,rfl,rfl,uz,jG,hbr⟩:=hrel;have qE:=hid hbr;have Qo:=hid jG;clear jG;by_cases hlt:k<n
  ·obtain⟨b,off,hao,hbw,c0,c1,c2,c3⟩:=(Yb.out.below hbr) k hlt
   have hsm:=Xg.out k hlt;have hsg:zJ n lv k=XJ (lv k).k (lv k).s:=by unfold zJ yF;rw[if_pos hlt]
   obtain⟨X,hX⟩:∃X,lv k=X:=⟨_,rfl⟩;rw[hX]at c0 c1 c2 c3 hsm hsg;obtain⟨pk,ps,pf,pt⟩:=X;simp only at c0 c1 c2 c3 hsm hsg;have wL:=hid (λW=>zj6 W ⟨pk,ps,pf,pt⟩ hsm);unfold Xc at wL;simp only at wL;have hz1:(KA pk ps).size=1:=rfl;have hz0:(bt (KA pk ps) 0).toNat=zJ n lv k:=by rw[hsg];show(XJ pk ps).toUInt8.toNat=_;have:=CW pk ps;rw[Nat.toUInt8];simp;omega
   obtain⟨Z,hZ⟩:∃Z,KA pk ps=Z:=⟨_,rfl⟩;rw[hZ]at wL hz1 hz0;have HZ0:=hid hz0;have q0:(0:Int)<=(k:Int):=by omega
   have q1:(k:Int)<(n:Int):=by omega
   have e1:IntKind.i64.wrap ((k:Int)+1)=((k+1:Nat):Int):=by rw[IntWalk.i64_in _ (by omega)];rfl
   have Tj:=hid uz;have zoI:¬9223372036854775807<T.size+Z.size:=by omega
   have HZ1:=hid hz1;clear hX hsm hsg hz0 hZ hbr uz hz1;subst hao
   go_wp2_with fail
   refine(wL.out _).mono ?_;rintro e w1 ⟨rfl,hb1⟩;have HB1:=hid (qE.out.trans (hb1.mono qE.out.size));clear hb1;go_wp2
   go_roundw
   case rel=>
    refine⟨k+1,T++Z,by omega,rfl,rfl,?_,?_,HB1.out⟩
    ·rw[ByteArray.size_append,Tj.out,HZ1.out]
    ·intro i hi
     have hz:=Tj.out;have hz1:=HZ1.out;by_cases h:i<k
     ·rw[zhJ (by omega)]
      exact Qo.out i h
     ·obtain rfl:i=k:=by omega
      rw[zhK (by omega) (by omega),hz,Nat.sub_self];exact HZ0.out
   case measure=>simp[intOf];omega
  ·obtain rfl:k=n:=by omega
   have hS:Hid (qi k lv T):=hid ⟨uz,Qo.out⟩;have hM:=zj1 (lc:=lc) (S:=T) (i:=0) (Nat.zero_le _) Yb.out RN.out Xg.out hn qE.out;obtain⟨s,hs0⟩:∃s:PS,s=⟨0,[],-1,0⟩:=⟨_,rfl⟩;rw[←hs0]at hM;have Ff:=hid hs0;obtain⟨g,hg⟩:∃g,wr.heap.size=g:=⟨_,rfl⟩;obtain⟨W1,hW1⟩:∃W,wr.alloc (.cells #[.slice la k lc,.string T,.slice none 0 0,.int .i64 0,.int .i64 (-1),.int .i64 0] 54)=W:=⟨_,rfl⟩;have HG:=hid hg;have HW1:=hid hW1;rw[hg]at hM;change Mk _ _ _ _ (wr.alloc (.cells #[.slice la k lc,.string T,.slice none 0 0,.int .i64 0,.int .i64 (-1),.int .i64 0] 54))at hM;rw[hW1]at hM;have HM:=hid hM;clear hM hs0 uz;have hsa:s.a=0:=by rw[Ff.out]
   have hpt:zC s<=0:=by rw[Ff.out];simp[zC]
   have qg:=hid (λk' hk=>PZ (n:=k) (lv:=lv) (la:=la) (lc:=lc) (S:=T) (g:=g) (w0:=w) (P:=λj=>j<w.heap.size) k' hk);have YK:=hid (λw1 s (h:Mk (kN k lv la lc T g) w (λj=>j<w.heap.size) s w1)=>NI hS.out w (λj=>j<w.heap.size) w1 s h);have kL:=hid (λa0=>zbJ (w0:=w) (P:=λj=>j<w.heap.size) (a0:=a0) hS (zjZ (la:=la) (lc:=lc) (g:=g) hS a0));clear hk hlt Xg RN Yb hn hbr
   go_wp2_with fail
   refine(Xh 1 HM.out (xH HM.out (by omega)) (λh=>absurd h (by decide))).mono ?_;rintro e w1 ⟨rfl,hM1⟩;have zt:Hid (Mk (kN k lv la lc T g) w (λj=>j<w.heap.size) (zk 1 false s) w1):=hid hM1;have hp1:=qC 1 false s;have ha1:(zk 1 false s).a=s.a:=rfl;clear hM1;go_wp2
   go_loopw [7] (λv wr=>zj4 k lv la lc T g w (λj=>j<w.heap.size) (zk 1 false s) v wr) (λ_ wr=>k+1-Zb g wr)
   case atStart=>exact⟨0,_,rfl,zt.out,by rw[if_neg (by decide)];omega,Nat.le_refl _,λ_ _ h=>h,λh=>absurd h (by decide)⟩
   case round=>
    obtain⟨l,r,rfl,hMr,hpr,har,hk1,hk2⟩:=hrel;have c0:=Gn hMr;have c3:=(VN hMr).1;have kW:=hMr.yM;change r.a<=k at kW;have zq:=hid hMr;have uI:=hid hk1;have vK:=hid hk2;obtain⟨ra,hra⟩:∃ra,r.a=ra:=⟨_,rfl⟩;rw[hra]at c3;have Gl:=hid hra;clear hMr hk1 hk2 hra;by_cases hlt:r.a<k
    ·have t1:(ra:Int)<(k:Int):=by have:=Gl.out;omega
     have t2:decide (ra<k)=true:=by have:=Gl.out;simp;omega
     have HL:=hid (show JW k r=true from decide_eq_true hlt);have Tm:=zq;obtain⟨b3,hb3⟩:∃b,isS k lv [110] r=b:=⟨_,rfl⟩;have jH:=hid (vH hS.out ⟨#[110]⟩ [110] (by decide+kernel) Tm.out b3 hb3);have HB3:=hid hb3;clear hb3
     cases b3 with
     |true=>
      go_wp2_with fail
      refine(jH.out).mono ?_;rintro e w4 ⟨rfl,hm4⟩;have zK:Hid (Mk (kN k lv la lc T g) w (λj=>j<w.heap.size) r w4):=hid (by obtain⟨m,rfl⟩:=hm4;exact zB Tm.out m);clear hm4;obtain⟨Ey,Ez,EC,ED,hw5,yD⟩:=uM zK.out (yV (lv:=lv) HB3.out (by decide));have zX:=hid yD;clear yD;have jU:=xk r;have YJ:(zA r).a=r.a+1:=rfl;go_wp2
      go_roundw
      case rel=>exact⟨l,_,rfl,zX.out,Int.le_trans (show zC (zA r)<=zC r by omega) hpr,by omega,λh s' e=>uI.out h _ (zaz HL.out HB3.out e),λh s' e=>vK.out h _ (zaw HB3.out e)⟩
      case measure=>
       have e1:=zZ zX.out;have e2:=zZ zq.out;have:=yV (lv:=lv) HB3.out (by decide);have hmm:=zX.out.yM;change(zA r).a<=k at hmm;rw[e1,e2];omega
     |false=>
      go_wp2_with fail
      refine(jH.out).mono ?_;rintro e w4 ⟨rfl,hm4⟩;have zK:Hid (Mk (kN k lv la lc T g) w (λj=>j<w.heap.size) r w4):=hid (by obtain⟨m,rfl⟩:=hm4;exact zB Tm.out m);clear hm4;by_cases hl2:l=2
      ·subst hl2
       rw[if_pos rfl]at hpr;have qK:=zK
       go_wp2_with fail
       refine(qg.out 17 rfl _ _ qK.out ⟨hlt,xH qK.out (by omega)⟩).mono ?_;rintro e w6 ⟨rfl,s6,zD,zG⟩;have zL:=hid zG;have y8:=hid zD;have ha6:=zD.kp.a;have ku:=zl zD (by rfl) (c:= -29) (of_decide_eq_true (by rfl));clear zG zD;go_wp2
       go_roundw
       case rel=>exact⟨17,_,rfl,zL.out,by rw[if_neg (by decide)];omega,by omega,λ_ s' e=>vK.out (by trivial) _ (zax HL.out HB3.out y8.out e),λh=>absurd h (by decide)⟩
       case measure=>
        have e1:=zZ zL.out;have e2:=zZ zq.out;have:=PO y8.out;have hmm:=zL.out.yM;change s6.a<=k at hmm;rw[e1,e2];omega
      ·rw[if_neg hl2]at hpr
       have u1:(l !=2)=true:=by simpa using hl2
       have u2:(l==2)=false:=by simpa using hl2
       obtain⟨b,hb⟩:∃b,xI k lv r=b:=⟨_,rfl⟩;have hc:=YK.out _ _ zK.out;rw[hb]at hc;have HC:=hid hc;have HB:=hid hb;have HL2:=hid hl2;clear hb hc hl2
       cases b with
       |true=>
        go_wp2_with fail
        refine(HC.out).mono ?_;rintro e w9 ⟨rfl,vz⟩;have yl:Hid (Mk (kN k lv la lc T g) w (λj=>j<w.heap.size) r w9):=hid (by obtain⟨m,rfl⟩:=vz;exact zB zK.out m);clear vz;have qK:=yl
        go_wp2_with fail
        refine(kL.out r.a _ _ qK.out ⟨Nat.le_refl _,by omega⟩).mono ?_;rintro e w6 ⟨rfl,s6,zD,zG⟩;have zL:=hid zG;have y8:=hid zD;have ha6:=zD.kp.a;have ku:=zl zD (by rfl) (c:=4) (of_decide_eq_true (by rfl));clear zG zD;have zj7:=y8.out.zac HB.out;go_wp2
        go_roundw
        case rel=>exact⟨2,_,rfl,zL.out,by rw[if_pos rfl];omega,by omega,λh=>absurd rfl h,λ_ s' e=>uI.out HL2.out _ (zaB HL.out HB3.out HB.out (.lst y8.out) e)⟩
        case measure=>
         have e1:=zZ zL.out;have e2:=zZ zq.out;have:=zj7;have hmm:=zL.out.yM;change s6.a<=k at hmm;rw[e1,e2];omega
       |false=>
        go_wp2_with fail
        refine(HC.out).mono ?_;rintro e w9 ⟨rfl,vz⟩;have yl:Hid (Mk (kN k lv la lc T g) w (λj=>j<w.heap.size) r w9):=hid (by obtain⟨m,rfl⟩:=vz;exact zB zK.out m);clear vz;have qK:=yl
        go_wp2_with fail
        refine(qg.out 17 rfl _ _ qK.out ⟨hlt,xH qK.out (by omega)⟩).mono ?_;rintro e w6 ⟨rfl,s6,zD,zG⟩;have zL:=hid zG;have y8:=hid zD;have ha6:=zD.kp.a;have ku:=zl zD (by rfl) (c:= -29) (of_decide_eq_true (by rfl));clear zG zD;go_wp2
        go_roundw
        case rel=>exact⟨17,_,rfl,zL.out,by rw[if_neg (by decide)];omega,by omega,λ_ s' e=>uI.out HL2.out _ (zaA HL.out HB3.out HB.out y8.out e),λh=>absurd h (by decide)⟩
        case measure=>
         have e1:=zZ zL.out;have e2:=zZ zq.out;have:=PO y8.out;have hmm:=zL.out.yM;change s6.a<=k at hmm;rw[e1,e2];omega
    ·have t1:¬(ra:Int)<(k:Int):=by have:=Gl.out;omega
     have t2:decide (ra<k)=false:=by have:=Gl.out;simp;omega
     have qW:Hid (Ev k lv (uZ k lv) (zk 1 false s) r):=hid (by
      have hl:=show JW k r=false from decide_eq_false hlt
      have hx:=zaC (n:=k) (lv:=lv) (l:=[110]) (by decide) (r:=r) (by omega);by_cases h:l=2
      ·exact vK.out h _ (zay hl hx)
      ·exact uI.out h _ (.stop hl))
     have Tm:=zq;have zbK:Hid (Ev k lv (uZ k lv) (zk 1 false s) r):=hid (qW.out)
     go_wp2_with fail
     refine(jO (k:=1) (s:=s) zbK.out Tm.out (λh=>absurd h (by decide))).mono ?_;rintro e w3 ⟨rfl,zx⟩;have zn:=hid zx;clear zx;obtain⟨oa,oc,hB3,hO3⟩:=zj3 zn.out;have hTR:Jh k lv (fin 1 s r).L:=⟨fin 1 s r,by have:=Ev.node zbK.out;rw[Ff.out]at this ⊢;exact this,by show r.a=k;omega,rfl⟩;have hBL:=zj2 zn.out;obtain⟨z,hz⟩:∃z,(fin 1 s r).L.length=z:=⟨_,rfl⟩;have HX:=hid (And.intro hTR (And.intro hO3 (And.intro hBL hz)));rw[hz]at hB3;have c2:w3.cell? ⟨g,2,none⟩=some (.slice oa z oc):=hB3.cell 2;clear hB3 hO3 hTR hBL hz;go_wp2;go_ret;exact⟨_,oa,oc,by rw[HX.out.2.2.2];rfl,HX.out.1,HX.out.2.1,HX.out.2.2.1⟩
end
open Go.Proofs.Tryz
theorem zj8(a b c d a' b' c' d':Int)(w:World):(Op.equalIn 10000 32 (.agg #[.int .i64 a,.int .i64 b,.int .i64 c,.int .i64 d]) (.agg #[.int .i64 a',.int .i64 b',.int .i64 c',.int .i64 d'])).run prog w=.ok (a==a' &&(b==b' &&(c==c' && d==d'))) w:=by
 have u3:=underlying3;have a3:=isAgg3;have z3:=sizeOf3;have hS:prog.underlying 32=some (.struct (prog.fieldsOf 32)):=by kernel_rfl
 rw[show(10000:Nat)=9999+1 from rfl,run_equalIn_agg w 9999 32 _ _ hS (by kernel_rfl)];simp only[Program.fieldsOf,underlying32]
 go_simp
 by_cases h1:a=a'<;>by_cases h2:b=b'<;>by_cases h3:c=c'<;>by_cases h4:d=d'<;>simp[h1,h2,h3,h4]
theorem zj9(a b c d:Int)(w:World):(binOp .neq 32 (.agg #[.int .i64 a,.int .i64 b,.int .i64 c,.int .i64 d]) (.agg #[.int .i64 a,.int .i64 b,.int .i64 c,.int .i64 d])).run prog w=.ok (.bool false) w:=by
 rw[run_neq_struct,zj8];simp[Result.andThen]
def zbL(m:Nat)(w:World)(v:Value)(wr:World):Prop:=∃k:Nat,k<=m/\v=.int .i64 (k:Int)/\Below w.heap.size w wr
theorem zka(w:World)(oa ob:Option Addr)(m ca cb:Nat)(nv:Nat->Nd)(h1:kz w oa m nv)(h2:kz w ob m nv)(hm:m<=1000000):
  Calls prog 12 #[.slice oa m ca,.slice ob m cb] w λe w'=>e=.returned (.bool true)/\Below w.heap.size w w':=by
 have H1:=Lib.hid h1;have H2:=Lib.hid h2;clear h1 h2;go_enter func12,ntmps12;go_wp2
 go_loopw [5] (λv wr=>zbL m w v wr) (λv _=>m-(intOf v).toNat)
 case atStart=>exact⟨0,Nat.zero_le _,rfl,Below.refl _ _⟩
 case round=>
  obtain⟨k,hk,rfl,hbr⟩:=hrel;have qE:=Lib.hid hbr;by_cases hlt:k<m
  ·obtain⟨b1,o1,hao,hbw,c0,c1,c2,c3⟩:=(H1.out.below hbr) k hlt
   obtain⟨b2,o2,JZ,hbw2,d0,d1,d2,d3⟩:=(H2.out.below hbr) k hlt;subst hao;subst JZ;obtain⟨X,hX⟩:∃X,nv k=X:=⟨_,rfl⟩;rw[hX]at c0 c1 c2 c3 d0 d1 d2 d3;obtain⟨pk,pf,pt,pu⟩:=X;simp only at c0 c1 c2 c3 d0 d1 d2 d3;have hneq:=zj9 pk pf pt pu;have q0:(0:Int)<=(k:Int):=by omega
   have q1:(k:Int)<(m:Int):=by omega
   have e1:IntKind.i64.wrap ((k:Int)+1)=((k+1:Nat):Int):=by rw[IntWalk.i64_in _ (by omega)];rfl
   clear hX hbr hbw hbw2;go_wp2
   go_quiet (fail)
   go_wp2
   go_roundw
   case rel=>exact⟨k+1,by omega,rfl,zbM qE.out _⟩
   case measure=>simp[intOf];omega
  ·obtain rfl:k=m:=by omega
   clear hlt hbr;go_wp2;go_ret;exact⟨rfl,qE.out⟩
section
variable(w:World)
theorem texts_law(hT:Tx w)(s:ByteArray)(hmax:s.size<=9223372036854775807):
  Calls Tryz.prog 6 #[.string s] w λe w'=>e=.returned (.bool true)/\Below w.heap.size w w':=by
 have HA:=hid (zja w hT);have HT:=hid hT;clear hT;go_enter Tryz.func6,Tryz.ntmps6
 go_wp2_with fail
 refine HA.out.mono ?_;rintro e w1 ⟨rfl,hb1⟩;have HB1:=hid hb1;clear hb1;by_cases hs:s.size<=100
 ·have t1:¬(100:Int)<(s.size:Int):=by omega
  have t2:¬100<s.size:=by omega
  have HO:=hid (zaP w1 s hs (HT.out.b HB1.out));have KC:=hid (λW=>zkb W s (by omega));have hn:=zaN s;have Xg:=hid (zaO hs)
  go_wp2_with fail
  refine HO.out.mono ?_;rintro e w2 ⟨fa,fc,L,oa,oc,rfl,hTr,hF,hN,hb2⟩;have HB2:=hid (HB1.out.trans (hb2.mono HB1.out.size));obtain⟨N,hN0⟩:∃N,(Zk s).length=N:=⟨_,rfl⟩;have rH:=hid hN0;rw[hN0]at hTr hF hn Xg ⊢;obtain⟨m,hm⟩:∃m,L.length=m:=⟨_,rfl⟩;have hlen:=hTr.len;rw[hm]at hN hlen ⊢;have HM:=hid hm;have Eg:=hid hTr;have HF:=hid hF;have HN:=hid hN;have zoJ:N<=100:=by omega
  have hml:m<=1000000:=by omega
  clear hTr hF hN hb2 hN0 hm hn hlen HO
  go_wp2_with fail
  refine(KC.out _).mono ?_;rintro e w3 ⟨v,rfl,ho3,hb3⟩;obtain⟨ga,gc,rfl,hG⟩:=J3.Y2 rfl ho3;change J3 w3 ga (Zk s).length (Zk s)at hG;rw[show(uJ s (((vY s).map Prod.fst).map Tk.z)).length=N from rH.out];rw[rH.out]at hG;have HG:=hid hG;have HF3:=hid (HF.out.below hb3);have HN3:=hid (HN.out.below hb3);have HB3:=hid (HB2.out.trans (hb3.mono HB2.out.size));clear ho3 hb3 hG KC;go_wp2
  go_loopw [6] (λv wr=>zbL N w3 v wr) (λv _=>N-(intOf v).toNat)
  case atStart=>exact⟨0,Nat.zero_le _,rfl,Below.refl _ _⟩
  case round=>
   obtain⟨j,hj,rfl,hbl⟩:=hrel;have qG:=hid hbl;by_cases hlt:j<N
   ·have q1:(j:Int)<(N:Int):=by omega
    have q0:(0:Int)<=(j:Int):=by omega
    have hxa:(Zk s)[j]?=some ((Zk s)[j]'(by have:=rH.out;omega)):=List.getElem?_eq_getElem _;generalize(Zk s)[j]'(by have:=rH.out;omega)=x at hxa;obtain⟨g1,o1,rfl,h1,c0,c1,c2,c3⟩:=(HF3.out.below hbl).cells j x hxa;obtain⟨g2,o2,rfl,h2,d0,d1,d2,d3⟩:=(HG.out.below hbl).cells j x hxa;obtain⟨tk,tx,tf,te⟩:=x;have hneq:=zkc tk tf te tx;have e1:IntKind.i64.wrap ((j:Int)+1)=((j+1:Nat):Int):=by rw[IntWalk.i64_in _ (by omega)];rfl
    dsimp only at c0 c1 c2 c3 d0 d1 d2 d3;clear hxa hbl h1 h2;go_wp2
    go_quiet (fail)
    go_wp2
    go_roundw
    case rel=>exact⟨j+1,by omega,rfl,zbM qG.out _⟩
    case measure=>simp[intOf];omega
   ·obtain rfl:j=N:=by omega
    have HP:=hid (zj5 (lc:=gc) wr (zaM (HG.out.below hbl)) (HT.out.b (HB3.out.trans (hbl.mono HB3.out.size))) Xg.out (by omega));have HN4:=hid (HN3.out.below hbl);have HB4:=hid (HB3.out.trans (hbl.mono HB3.out.size));clear hlt hbl Xg HG HF3
    go_wp2_with fail
    refine HP.out.mono ?_;rintro e w4 ⟨L2,ob,cb,rfl,zbN,hO2,hb4⟩;have GZ:=Eg.out.one zbN;subst GZ;have hR2:=(zaQ hO2).2;rw[HM.out]at hR2 ⊢;have Ep:=hid (zka w4 oa ob m oc cb (nl L) (HN4.out.below hb4) hR2 hml);have uH:=hid (HB4.out.trans (hb4.mono HB4.out.size));clear zbN hO2 hb4 hR2
    go_wp2_with fail
    refine Ep.out.mono ?_;rintro e w5 ⟨rfl,hb5⟩;have Qn:=hid (uH.out.trans (hb5.mono uH.out.size));clear hb5;go_wp2;go_ret;exact⟨rfl,Qn.out⟩
 ·have t1:(100:Int)<(s.size:Int):=by omega
  have t2:100<s.size:=by omega
  go_wp2;go_ret;exact⟨rfl,HB1.out⟩
end
end Go.Proofs.YtkolpaonccmgiaaGreatDoor.Q

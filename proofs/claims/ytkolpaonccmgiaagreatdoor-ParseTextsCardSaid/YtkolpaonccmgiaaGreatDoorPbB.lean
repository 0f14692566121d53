/- What Parse, Begins and Command of layer 13 (parse) -/
import Derived.Test.YtkolpaonccmgiaaGreatDoorSz
namespace Go.Proofs.YtkolpaonccmgiaaGreatDoor.Q
set_option linter.unusedSectionVars false
set_option linter.unusedVariables false
open Go.Proofs.Tryz
open Lib(hid)
set_option maxHeartbeats 8000000
set_option maxRecDepth 100000
open Go.RowKit
section
variable{n:Nat}{lv:Nat->Lf}{la:Option Addr}{lc g:Nat}{w0:World}{P:Nat->Prop}
def ziK(n:Nat)(lv:Nat->Lf)(la:Option Addr)(lc g:Nat)(w0:World)(P:Nat->Prop)(s:PS)(v:Value)(wr:World):Prop:=
 ∃(fl:Bool) (r:PS),v=.bool fl/\Mk (kP n lv la lc g) w0 P r wr/\zC r<=(cond fl 5 1)/\s.a<=r.a/\(fl=false->∀s',Ev n lv (uZ n lv) r s'->Ev n lv (uZ n lv) s s')/\(fl=true->∀s',Ev n lv (.seq (wW n lv) (uZ n lv)) r s'->Ev n lv (uZ n lv) s s')
theorem zaw{r s':PS}(hn:isS n lv [110] r=true)(h:Ev n lv (.seq (wW n lv) (uZ n lv)) (zA r) s'):Ev n lv (.seq (wW n lv) (uZ n lv)) r s':=by
 cases h with|seq h1 h2=>cases h1 with|seq h1 h3=>exact .seq (.seq (.go hn .zu rfl .skip h1) h3) h2
theorem zax{r r1 s':PS}(hl:JW n r=true)(hn:isS n lv [110] r=false)(he:Ev n lv Lm r r1)(h:Ev n lv (uZ n lv) r1 s'):Ev n lv (.seq (wW n lv) (uZ n lv)) r s':=
 .seq (.seq (.stop hn) (.yes hl he)) h
theorem zay{r:PS}(hl:JW n r=false)(hn:isS n lv [110] r=false):Ev n lv (.seq (wW n lv) (uZ n lv)) r r:=
 .seq (.seq (.stop hn) (.no hl .skip)) (.stop hl)
theorem zaz{r s':PS}(hl:JW n r=true)(hn:isS n lv [110] r=true)(h:Ev n lv (uZ n lv) (zA r) s'):Ev n lv (uZ n lv) r s':=.go hl (.yes hn .zu) rfl .skip h
theorem zaA{r r1 s':PS}(hl:JW n r=true)(hn:isS n lv [110] r=false)(hp:xI n lv r=false)(he:Ev n lv Lm r r1)(h:Ev n lv (uZ n lv) r1 s'):Ev n lv (uZ n lv) r s':=.go hl (.no hn (.no hp he)) rfl .skip h
theorem zaB{r r1 s':PS}(hl:JW n r=true)(hn:isS n lv [110] r=false)(hp:xI n lv r=true)(he:Ev n lv .lst r r1)(h:Ev n lv (.seq (wW n lv) (uZ n lv)) r1 s'):Ev n lv (uZ n lv) r s':=by
 cases h with|seq h1 h2=>exact .go hl (.no hn (.yes hp (.seq he h1))) rfl .skip h2
theorem zaC{l:List Nat}(hl:63∉l){r:PS}(h:n<=r.a):isS n lv l r=false:=by
 cases e:isS n lv l r with
 |false=>rfl
 |true=>have:=yV (lv:=lv) e hl;omega
theorem PO{r r1:PS}(h:Ev n lv Lm r r1):r.a<r1.a:=h.word_lt
theorem ziL{w:World}{s:PS}(hM:Mk (kP n lv la lc g) w0 P s w)(hp:zC s<=10)(b:Bool)(hb:xI n lv s=b):
  Calls prog 49 #[.pointer (some ⟨g,0,none⟩)] w λe w'=>e=.returned (.bool b)/\∃s',Ev n lv (.ite (xI n lv) .lst .skip) s s'/\Mk (kP n lv la lc g) w0 P s' w':=by
 have hc:=PD (n:=n) (lv:=lv) (la:=la) (lc:=lc) (g:=g) w0 P w s hM;rw[hb]at hc;have HC:=hid hc;have HM:=hid hM;have HB:=hid hb;have hmf:=Ji;clear hc
 cases b with
 |true=>
  have HN:=hid (λW (h:Mk (kP n lv la lc g) w0 P s W)=>VG 2 79 #[.pointer (some ⟨g,0,none⟩)] #[] (Zy _ _ _ func79 (by kernel_rfl) rfl) (wR n lv) _ (zav (ziJ s.a)) W s h ⟨⟨Nat.le_refl _,by rw[qC];omega⟩,xG h (by omega)⟩);clear hM hb;go_enter func49,ntmps49
  go_wp2_with fail
  refine(HC.out).mono ?_;rintro e w1 ⟨rfl,hb1⟩;have zt:=hid (HM.out.below hb1);clear hb1
  go_wp2_with fail
  refine(HN.out _ zt.out).mono ?_;rintro e w2 ⟨rfl,s2,he2,hM2⟩;have zo:=hid hM2;have HE2:=hid he2;have ha2:=he2.kp.a;clear hM2 he2;go_wp2;go_ret;exact⟨rfl,_,.yes HB.out (.lst HE2.out),zo.out⟩
 |false=>
  clear hM hb;go_enter func49,ntmps49
  go_wp2_with fail
  refine(HC.out).mono ?_;rintro e w1 ⟨rfl,hb1⟩;have zt:=hid (HM.out.below hb1);clear hb1;go_wp2;go_ret;exact⟨rfl,_,.no HB.out .skip,zt.out⟩
theorem ziM:yT (kP n lv la lc g) w0 P 29 #[.pointer (some ⟨g,0,none⟩)] (uZ n lv) (λs=>zC s<=1):=by
 intro w s hM hp;have lh:=hid (λw s (h:Mk (kP n lv la lc g) w0 P s w)=>ziL h);have HER:=hid (VG 17 50 #[.pointer (some ⟨g,0,none⟩)] #[] (Zy _ _ _ func50 (by kernel_rfl) rfl) .zu _ (dU (n:=n) (lv:=lv) (la:=la) (lc:=lc) (g:=g) (w0:=w0) (P:=P)));have hmf:=Ji;have jk:=hid (λt l (hl:Sg t l) w s (h:Mk (kP n lv la lc g) w0 P s w)=>ZP t l hl h);have HM:=hid hM;clear hM;go_enter func29,ntmps29;go_wp2
 go_loopw [2] (λv wr=>ziK n lv la lc g w0 P s v wr) (λ_ wr=>n+1-XM g wr)
 case atStart=>exact⟨false,s,rfl,HM.out,hp,Nat.le_refl _,λ_ _ h=>h,λh=>by cases h⟩
 case round=>
  obtain⟨fl,r,rfl,hMr,hpr,har,hk1,hk2⟩:=hrel;obtain⟨nv,hB,hO,h3,h4⟩:=hMr.own;have c0:wr.cell? ⟨g,0,none⟩=some (.slice la n lc):=hB.cell 0;have c1:wr.cell? ⟨g,1,none⟩=some (.int .i64 (r.a:Int)):=hB.cell 1;have kW:=hMr.yM;change r.a<=n at kW;have zq:=hid hMr;have uI:=hid hk1;have vK:=hid hk2;obtain⟨ra,hra⟩:∃ra,r.a=ra:=⟨_,rfl⟩;rw[hra]at c1;have Gl:=hid hra;clear hMr hk1 hk2 hB hO h3 h4 hra;by_cases hlt:r.a<n
  ·have t1:(ra:Int)<(n:Int):=by have:=Gl.out;omega
   have t2:decide (ra<n)=true:=by have:=Gl.out;simp;omega
   have HL:=hid (show JW n r=true from decide_eq_true hlt);go_wp2
   go_quiet (fail)
   obtain⟨W,hW⟩:∃W,wr.drewN nq=W:=⟨_,rfl⟩;have hbW:Below wr.heap.size wr W:=by rw[←hW];exact below_drewN (Below.refl _ _) _
   have wM:=hid (zq.out.below hbW);rw[hW];clear hW hbW c0 c1;obtain⟨b3,hb3⟩:∃b,isS n lv [110] r=b:=⟨_,rfl⟩;have jH:=hid (jk.out ⟨#[110]⟩ [110] (by decide+kernel) _ _ wM.out b3 hb3);have HB3:=hid hb3;clear hb3
   cases b3 with
   |true=>
    go_wp2_with fail
    refine jH.out.mono ?_;rintro e w3 ⟨rfl,zx⟩;have zn:=hid (show Mk (kP n lv la lc g) w0 P (zA r) w3 from zx);have hp3:=xk r;have ji:(zA r).a=r.a+1:=rfl;clear zx
    cases fl with
    |false=>
     change zC r<=1 at hpr;go_wp2
     go_roundw
     case rel=>exact⟨false,_,rfl,zn.out,by show zC (zA r)<=1;omega,by omega,λ_ s' h=>uI.out (by trivial) _ (zaz HL.out HB3.out h),λh=>by cases h⟩
     case measure=>
      have e1:=xJ zn.out;have e2:=xJ zq.out;have:=yV (lv:=lv) HB3.out (by decide);rw[e1,e2];omega
    |true=>
     change zC r<=5 at hpr;go_wp2
     go_roundw
     case rel=>exact⟨true,_,rfl,zn.out,by show zC (zA r)<=5;omega,by omega,(λh=>by cases h),λ_ s' h=>vK.out (by trivial) _ (zaw HB3.out h)⟩
     case measure=>
      have e1:=xJ zn.out;have e2:=xJ zq.out;have:=yV (lv:=lv) HB3.out (by decide);rw[e1,e2];omega
   |false=>
    go_wp2_with fail
    refine jH.out.mono ?_;rintro e w3 ⟨rfl,zx⟩;have zn:=hid (show Mk (kP n lv la lc g) w0 P r w3 from zx);clear zx
    cases fl with
    |true=>
     change zC r<=5 at hpr
     go_wp2_with fail
     refine(HER.out _ _ zn.out ⟨hlt,xG zn.out (by omega)⟩).mono ?_;rintro e w4 ⟨rfl,s4,he4,zH⟩;have zK:=hid zH;have xA:=hid he4;have jM:=he4.kp.a;have qf:=zl he4 (by rfl) (c:= -29) (of_decide_eq_true (by rfl));clear zH he4;go_wp2
     go_roundw
     case rel=>exact⟨false,_,rfl,zK.out,by show zC s4<=1;omega,by omega,λ_ s' h=>vK.out (by trivial) _ (zax HL.out HB3.out xA.out h),λh=>by cases h⟩
     case measure=>
      have e1:=xJ zK.out;have e2:=xJ zq.out;have:=PO xA.out;rw[e1,e2];omega
    |false=>
     change zC r<=1 at hpr;obtain⟨b,hb⟩:∃b,xI n lv r=b:=⟨_,rfl⟩;have Gf:=hid (lh.out _ _ zn.out (by omega) b hb);have HB:=hid hb;clear hb
     cases b with
     |true=>
      go_wp2_with fail
      refine Gf.out.mono ?_;rintro e w4 ⟨rfl,s4,he4,zH⟩
      cases he4 with
      |no h _=>rw[HB.out]at h;cases h
      |yes _ he4=>
      have qf:=zl he4 (by rfl) (c:=4) (of_decide_eq_true (by rfl));have jM:r.a<s4.a:=by cases he4 with|lst h=>exact h.zac HB.out
      have zK:=hid zH;have xA:=hid he4;clear zH he4;go_wp2
      go_roundw
      case rel=>exact⟨true,_,rfl,zK.out,by show zC s4<=5;omega,by omega,(λh=>by cases h),λ_ s' h=>uI.out (by trivial) _ (zaB HL.out HB3.out HB.out xA.out h)⟩
      case measure=>
       have e1:=xJ zK.out;have e2:=xJ zq.out;have:=jM;rw[e1,e2];omega
     |false=>
      go_wp2_with fail
      refine Gf.out.mono ?_;rintro e w4 ⟨rfl,s4,he4,zH⟩
      cases he4 with
      |yes h _=>rw[HB.out]at h;cases h
      |no _ he4=>
      cases he4;have zK:=hid zH;clear zH
      go_wp2_with fail
      refine(HER.out _ _ zK.out ⟨hlt,xG zK.out (by omega)⟩).mono ?_;rintro e w5 ⟨rfl,s5,zW,yD⟩;have zX:=hid yD;have vX:=hid zW;have YJ:=zW.kp.a;have jU:=zl zW (by rfl) (c:= -29) (of_decide_eq_true (by rfl));clear yD zW;go_wp2
      go_roundw
      case rel=>exact⟨false,_,rfl,zX.out,by show zC s5<=1;omega,by omega,λ_ s' h=>uI.out (by trivial) _ (zaA HL.out HB3.out HB.out vX.out h),λh=>by cases h⟩
      case measure=>
       have e1:=xJ zX.out;have e2:=xJ zq.out;have:=PO vX.out;rw[e1,e2];omega
  ·have t1:¬(ra:Int)<(n:Int):=by have:=Gl.out;omega
   have t2:decide (ra<n)=false:=by have:=Gl.out;simp;omega
   have HL:=hid (show JW n r=false from decide_eq_false hlt);go_wp2
   go_quiet (fail)
   obtain⟨W,hW⟩:∃W,wr.drewN nq=W:=⟨_,rfl⟩;have hbW:Below wr.heap.size wr W:=by rw[←hW];exact below_drewN (Below.refl _ _) _
   have wM:=hid (zq.out.below hbW);rw[hW];clear hW hbW c0 c1;have HN:=hid (zaC (n:=n) (lv:=lv) (l:=[110]) (by decide) (r:=r) (by omega))
   cases fl with
   |false=>
    go_wp2
    go_end0
    exact⟨rfl,_,uI.out (by trivial) _ (.stop HL.out),wM.out⟩
   |true=>
    go_wp2
    go_end0
    exact⟨rfl,_,vK.out (by trivial) _ (zay HL.out HN.out),wM.out⟩
theorem ziN{w:World}(hL:ZQ w la n lv)(hT:Tx w)(hs:∀i,i<n->(lv i).s.size<=100)(i:Int):
  Calls prog 27 #[.slice la n lc,.int .i64 i] w λe w'=>e=.returned (.pointer (some ⟨w.heap.size,0,none⟩))/\zf w' w.heap.size (Xb (.slice la n lc) i (Ye n lv i) (XJ (Ye n lv i).k (Ye n lv i).s) (.slice none 0 0) (-1) 0) 50/\Below w.heap.size w w':=by
 have hb1:Below w.heap.size w (w.alloc (.cells (Xb (.slice la n lc) 0 ⟨0,⟨#[]⟩,0,0⟩ 0 (.slice none 0 0) (-1) 0) 50)):=(Below.refl _ w).alloc (Nat.le_refl _) _;have hbx:=zf.new w (Xb (.slice la n lc) 0 ⟨0,⟨#[]⟩,0,0⟩ 0 (.slice none 0 0) (-1) 0) 50;have hsz:(Ye n lv i).s.size<=1000000:=by
  unfold Ye;split
  ·rename_i h
   have:=hs i.toNat (by omega);omega
  ·exact Nat.zero_le _
 have h0:=hT.1;have hC:=U3 _ w.heap.size n la lc lv 0 ⟨0,⟨#[]⟩,0,0⟩ 0 (.slice none 0 0) (-1) 0 hbx (hL.below hb1) (λb off h0 hl=>by
  obtain⟨b',off',e1,e2,_⟩:=hL 0 h0;rw[hl]at e1;cases e1;omega) (hT.b hb1) (by omega) i hsz
 have HC:=hid hC;have HB1:=hid hb1;unfold Xb at HC;simp only[Int.natCast_zero]at HC;clear hb1 hbx hsz hC hL hT hs h0;go_enter func27,ntmps27
 go_wp2_with fail
 refine HC.out.mono ?_;rintro e w1 ⟨rfl,hB,hF⟩;have HB:=hid hB;have HF:=hid (HB1.out.trans (hF.below HB1.out.size (λk hk=>by omega)));clear hB hF;go_wp2;go_ret;exact⟨rfl,HB.out,HF.out⟩
theorem ziO{w w':World}{i:Nat}(hi:i<=n)(hL:ZQ w la n lv)(hT:Tx w)(hs:∀i,i<n->(lv i).s.size<=100)(hn:n<=10000)(hB:zf w' w.heap.size (Xb (.slice la n lc) (i:Int) (Ye n lv i) (XJ (Ye n lv i).k (Ye n lv i).s) (.slice none 0 0) (-1) 0) 50)(hb:Below w.heap.size w w'):
  Mk (kP n lv la lc w.heap.size) w (λk=>k<w.heap.size) ⟨i,[],-1,0⟩ w':=by
 refine⟨⟨λk hk=>hk,hL,λb off h0 hl=>?_,hT,hT.1,hs,hn⟩,?_,hi,Nat.lt_irrefl _,.slice none 0 0,?_,World.ownsRow_nil _ _ _ _,by simp[Value.ownBlock],by simp[Value.ownBlock]⟩
 ·obtain⟨b',off',e1,e2,_⟩:=hL 0 h0
  change la=some ⟨b,off,none⟩at hl;rw[hl]at e1;cases e1;exact e2
 ·exact⟨hb.os,hb.tape,hb.output,hb.size,λk hk _=>hb.block k hk⟩
 ·rw[pY]at hB
  exact hB
theorem ziP{g:Nat}{w w':World}{s:PS}(h:Mk (kP n lv la lc g) w (λk=>k<w.heap.size) s w'):Below w.heap.size w w':=h.zh.below (Nat.le_refl _) (λk hk=>by omega)
theorem ziQ{g:Nat}{w w':World}{s:PS}(h:Mk (kP n lv la lc g) w (λk=>k<w.heap.size) s w'):∃oa oc,zf w' g (Xb (.slice la n lc) (s.a:Int) (yF n lv s.a) (zJ n lv s.a) (.slice oa s.L.length oc) s.u (s.d:Int)) 50/\w'.ownsRow w.heap.size 32 4 (.slice oa s.L.length oc) s.L.length (vS s.L):=by
 obtain⟨nv,h1,h2,h3,h4⟩:=h.own;obtain⟨oa,oc,rfl⟩:=nV h2;exact⟨oa,oc,h1,Df h2 (λk hk=>by have:=h4 k hk;omega)⟩
theorem ziR(w:World)(hL:ZQ w la n lv)(hT:Tx w)(hs:∀i,i<n->(lv i).s.size<=100)(hn:n<=10000):
  Calls prog 13 #[.slice la n lc] w λe w'=>∃L oa oc,e=.returned (.slice oa L.length oc)/\Jh n lv L/\w'.ownsRow w.heap.size 32 4 (.slice oa L.length oc) L.length (vS L)/\Below w.heap.size w w':=by
 have HN:=hid (ziN (lc:=lc) hL hT hs (0:Int));have HND:=hid (fun(w0:World) (P:Nat->Prop) (g:Nat)=>VG 1 29 #[.pointer (some ⟨g,0,none⟩)] #[] (Zy _ _ _ func29 (by kernel_rfl) rfl) (uZ n lv) _ (ziM (n:=n) (lv:=lv) (la:=la) (lc:=lc) (g:=g) (w0:=w0) (P:=P)));have HX:=hid (λw' h1 h2=>ziO (w':=w') (lc:=lc) (i:=0) (Nat.zero_le n) hL hT hs hn h1 h2);have hmf:=Ji;clear hL hT hs hn;go_enter func13,ntmps13
 go_wp2_with fail
 refine HN.out.mono ?_;rintro e w1 ⟨rfl,hB1,hb1⟩;have zt:=hid (HX.out w1 hB1 hb1);clear hB1 hb1
 go_wp2_with fail
 refine(HND.out _ _ _ _ _ zt.out ⟨by simp[zC,zk],by simp⟩).mono ?_;rintro e w2 ⟨rfl,s2,he2,hM2⟩;have ha2:=hM2.yM;change s2.a<=n at ha2;have hge:n<=s2.a:=by cases he2 with|node h=>have h2:=zid h rfl;exact h2
 have Eg:=hid (show Jh n lv s2.L from⟨s2,he2,by omega,rfl⟩);obtain⟨oa,oc,hB2,hO2⟩:=ziQ hM2;have c7:w2.cell? ⟨w.heap.size,7,none⟩=some (.slice oa s2.L.length oc):=hB2.cell 7;have HO:=hid hO2;have qG:=hid (ziP hM2);obtain⟨z,hz⟩:∃z,s2.L.length=z:=⟨_,rfl⟩;rw[hz]at c7;have HZ:=hid hz;clear hM2 he2 ha2 hge hB2 hO2 hz;go_wp2;go_ret;exact⟨s2.L,oa,oc,by rw[HZ.out];rfl,Eg.out,HO.out,qG.out⟩
end
end Go.Proofs.YtkolpaonccmgiaaGreatDoor.Q

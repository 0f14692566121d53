/- What Apply of a Doc of layer 10 (relex) returns. C -/
import Derived.Test.YtdjcidackkogjaaGreatDoorRxD
import Derived.Test.YtdjcidackkogjaaGreatDoorRf
import Derived.Test.YtdjcidackkogjaaGreatDoorRj
namespace Go.Proofs.YtdjcidackkogjaaGreatDoor
set_option linter.unusedSectionVars false
set_option linter.unusedVariables false
open Lib(hid)
set_option maxHeartbeats 8000000
set_option maxRecDepth 100000
open Go Go.RowKit
theorem zl.inv{s:ByteArray}{D:List Dl}:∀{I:List (Tk×Mk)} {a b:Nat} {m n:Mk},zl s D a m I b n→m.await≤1000→m.zf≤m.en→m.en≤D.length→m.en≤a→((zi m D).body=true→(zi m D).pend≠ [])→n.await≤1000∧n.en≤b∧((zi n D).body=true→(zi n D).pend≠ [])
 | [],a,b,m,n,h,h1,_,_,h2,h3=>by
  obtain⟨rfl,rfl⟩:=h;exact⟨h1,h2,h3⟩
 |q::I,a,b,m,n,⟨g1,g2,g3,u,g4,g5⟩,h1,hle,hD,h2,h3=>by
  have hok:=jB (zi m D) g1;rw[←g3]at hok;have hlen:=Vz hD;have hn:=OA (zi m D) g1 (by rw[hlen];omega) h1;have hl:=g4.l;have ha:=congrArg Lx.await hl;have he:=g4.e;have hps:uB s a (zi m D)≤1:=by
   unfold uB;split
   ·exact Nat.le_refl _
   ·exact Nat.zero_le _
  refine zl.inv g5 ?_ g4.le g4.en (by omega) ?_
  ·have:u.await=(zy s a (zi m D)).await:=ha
   rw[this];exact hn.2
  ·rw[hl]
   exact Ak h3
theorem zl.start{s:ByteArray}{D:List Dl}{I:List (Tk×Mk)}{b:Nat}{n:Mk}(h:zl s D 0 Mk.zero I b n):n.await≤1000∧n.en≤b∧((zi n D).body=true→(zi n D).pend≠ []):=
 h.inv (Nat.zero_le _) (Nat.le_refl _) (Nat.zero_le _) (Nat.zero_le _) (λh=>by cases h)
theorem zhT{w:World}{b:Nat}{s:ByteArray}{I:List (Tk×Mk)}{E:Mk}{D:List Dl}{oi:Option Addr}{ni ci:Nat}{od:Option Addr}{nd cd:Nat}(hV:jH w b s I E D oi ni ci od nd cd){k rb:Nat}(hk:k≤ni){T:ByteArray}{base:Nat}(hkr:zh w rb (yT b T (kN I k) (zH I E k) (.slice od (zH I E k).en (zH I E k).en) (-1)) 97)(hd:∀g off,od=some ⟨g,off,none⟩→g≠rb)(hle:kN I k≤T.size):
  Rz w base b rb T (kN I k) (zH I E k) (D.take (zH I E k).en) [] (kN I k) (zH I E k) (D.take (zH I E k).en) od (zH I E k).en (zH I E k).en (-1):=by
 have hl:=hV.its.len;obtain⟨h1,h2⟩:=hV.path.cut (show k≤I.length by omega);have hm:=(zl.le h1).2.2.2.2 (Nat.le_refl _) (Nat.zero_le _);obtain⟨a1,a2,a3⟩:=h1.start;have hlen:(D.take (zH I E k).en).length=(zH I E k).en:=by rw[List.length_take];omega
 have hln:=hV.ln;have hsrc:Src w (.slice od (zH I E k).en (zH I E k).en) (zH I E k).en (zx (D.take (zH I E k).en)):=by
  have e9:zx (D.take (zH I E k).en)=(zx D).take ((zH I E k).en*2):=by
   have:=rQ (D:=D) (a:=0) (b:=(zH I E k).en) hm.2;simpa using this
  rw[e9];generalize(zH I E k).en=z at*;rcases hV.del with⟨e1,e2,e3⟩|⟨g,off,c,e1,e2,e3⟩
  ·injection e1 with f1 f2 f3
   have:z=0:=by omega
   subst this;exact .inl ⟨by rw[f1],rfl,by simp⟩
  ·injection e1 with f1 f2 f3
   refine .inr ⟨g,off,z,by rw[f1],e2,λj u hj=>e3 j u ?_⟩;rw[List.getElem?_take]at hj;split at hj
   ·exact hj
   ·cases hj
 refine⟨⟨hkr,hsrc,hlen.symm,hlen.symm,hm.1,Nat.le_refl _,.inl rfl,λg hg=>?_⟩,⟨rfl,rfl⟩,?_,hle,a2,a1,?_⟩
 ·rcases hV.del with⟨e1,_,_⟩|⟨g',off,c,e1,_,_⟩
  ·injection e1 with f1
   rw[f1]at hg;cases hg
  ·injection e1 with f1
   rw[f1]at hg;injection hg with hg;subst hg;exact hd g' off f1
 ·rw[List.take_take,Nat.min_self]
 ·have:zi (zH I E k) (D.take (zH I E k).en)=zi (zH I E k) D:=VA (by rw[List.take_take,Nat.min_self])
  rw[this];exact a3
section
variable(w:World)(b:Nat)(s:ByteArray)(I:List (Tk×Mk))(E:Mk)(D:List Dl)(oi:Option Addr)(ni ci:Nat)(od:Option Addr)(nd cd:Nat)(hV:jH w b s I E D oi ni ci od nd cd)
include hV
def ShT(I I':List (Tk×Mk))(hd tail a b:Nat):Prop:=∃m:List Tk,I'.map Prod.fst=(I.take hd).map Prod.fst++m++(I.drop (I.length-tail)).map λq=>q.1.mv a b
def Am(w:World)(b:Nat)(s:ByteArray)(I:List (Tk×Mk))(D:List Dl)(at':Nat)(d n:ByteArray)(e:Ending)(w':World):Prop:=
 ∃(hd tail:Nat) (I':List (Tk×Mk)) (E':Mk) (D':List Dl) (g Qg ci':Nat) (Qh:Option Addr) (KE KF:Nat),e=.returned (.tuple #[.agg #[.int .i64 (hd:Int),.int .i64 (tail:Int)],.int .i64 0])∧jH w' b (xP s at' d n) I' E' D' (some ⟨g,0,none⟩) Qg ci' Qh KE KF∧Qg≤ci'∧w.heap.size≤g∧(∀g off,Qh=some ⟨g,off,none⟩→w.heap.size≤g)∧zg (λk=>k=b) w w'∧OB I D I' D' at' d.size ((n.size:Int)-(d.size:Int)) hd tail∧ShT I I' hd tail s.size (xP s at' d n).size
theorem OC(hic:ni≤ci)(hin:(oi=none∧ci=0)∨∃g off,oi=some ⟨g,off,none⟩)(h0:0<b)(hT:Tx w)(at':Nat)(d n:ByteArray)(hk:vF s at' d n=0)(hd:d.size≤1000000)(hn:n.size≤1000000)(Vt:(xP s at' d n).size≤900):
  Calls Tryz.prog 13 #[.pointer (some ⟨b,0,none⟩),.agg #[.int .i64 (at':Int),.string d,.string n]] w λe w'=>Am w b s I D at' d n e w':=by
 have hsz:=hV.sz;obtain⟨_,hat,Ap,_⟩:=G7 hk;have hfit:at'+d.size≤s.size:=by simpa using Ap.1
 have rZ:=hid hfit;obtain⟨z,hz⟩:∃z,w.heap.size=z:=⟨_,rfl⟩;obtain⟨T,xk⟩:∃T,xP s at' d n=T:=⟨_,rfl⟩;obtain⟨W0,hW0⟩:∃X,(w.alloc (.cells #[.int .i64 (at':Int),.string d,.string n] 35)).alloc (.cells #[.int .i64 0,.int .i64 0] 31)=X:=⟨_,rfl⟩;have hB0:Below w.heap.size w W0:=by rw[←hW0];exact jd w _ _
 have k1:zh W0 z #[.int .i64 (at':Int),.string d,.string n] 35:=by rw[←hW0,←hz];exact(zh.new _ _ _).alloc _
 have k2:zh W0 (z+1) #[.int .i64 0,.int .i64 0] 31:=by rw[←hW0,←hz];exact xU w _ _ _
 have hV0:=hV.below hB0;have kb:=hV0.blk;have ZY:=hid (λW=>show Calls Tryz.prog 29 #[.string s,.agg #[.int .i64 (at':Int),.string d,.string n]] W λe w'=>∃v,e=.returned v∧v=.tuple #[.string T,.int .i64 0]∧Below W.heap.size W w' from(zhW s d n W at' hk (by omega) (by omega) (by omega)).mono (λe w' ⟨h1,h2⟩=>⟨_,h1,by rw[xk],h2⟩));have hkp:∀W,Below W0.heap.size W0 W→W.cell? ⟨b,0,none⟩=some (.string s)∧W.cell? ⟨z,0,none⟩=some (.int .i64 (at':Int))∧W.cell? ⟨z,1,none⟩=some (.string d)∧W.cell? ⟨z,2,none⟩=some (.string n):=λW hW=>⟨(kb.below hW).cell 0,(k1.below hW).cell 0,(k1.below hW).cell 1,(k1.below hW).cell 2⟩;have yS:=hid hkp;have HB0:=hid hB0;have HK:=hid (And.intro k1 (And.intro k2 hV0));have HV:=hid (And.intro hV (And.intro xk (hT.b hB0)));rw[xk]at Vt;clear hV hk hB0 k1 k2 kb hkp hV0 xk Ap hat hT;go_enter Tryz.func13,Tryz.ntmps13
 go_upto_region 1 with fail
 have HW0:=hid (And.intro hW0 hz);clear hW0 hz
 go_cut [6,7]from 12 to 20 (λv u wx=>v=.string T∧u=.int .i64 0∧Below W0.heap.size W0 wx)
 case first=>
  go_region_held_law (λW=>W.cell? ⟨b,0,none⟩=some (.string s)∧W.cell? ⟨z,0,none⟩=some (.int .i64 (at':Int))∧W.cell? ⟨z,1,none⟩=some (.string d)∧W.cell? ⟨z,2,none⟩=some (.string n)) (exact yS.out _ (by first|exact(Below.refl _ _).drew|exact zA)) (first
   |(refine um (by rfl) Tryz.func29 (by kernel_rfl) (by kernel_rfl) _ _ (by rfl) [.string s,.agg #[.int .i64 (at':Int),.string d,.string n]] (by rfl) _ (ZY.out W0.drew) ?_;intro v w4 hh;obtain⟨hv4,hb4⟩:=hh;subst hv4;have zA:Below W0.heap.size W0 w4:=(Below.refl W0.heap.size W0).drew.trans hb4))
  all_goals
   go_step;go_step;go_meet;case rel=>exact⟨rfl,rfl,zA⟩
 case rest=>
  obtain⟨rfl,rfl,hb4⟩:=hcut;generalize wc=w4 at*;have KC:=HK.out.2.2.below hb4;have Aq:=hid (zhX w4 b s I E D oi ni ci od nd cd KC at' d n z (HK.out.1.below hb4) (by omega) hd);have kQ:=hid (And.intro (HK.out.1.below hb4) (And.intro (HK.out.2.1.below hb4) KC));have HB4:=hid (HB0.out.trans (hb4.mono HB0.out.size));have HT4:=hid (HV.out.2.2.b hb4);clear KC hb4 HK yS ZY HB0
  go_wp2_with fail
  refine(Aq.out).mono ?_;rintro e1 w5 ⟨k,rfl,hk,hlo,hlo2,hb5⟩;have XB:=hid (And.intro hlo hlo2);have Vr:=hid (And.intro (kQ.out.1.below hb5) (And.intro (kQ.out.2.1.below hb5) (kQ.out.2.2.below hb5)));have qK:=hid (HB4.out.trans (hb5.mono HB4.out.size));have DT:=hid (HT4.out.b hb5);clear hlo hlo2 hb5 kQ HB4 HT4 Aq
  go_wp2_with fail
  refine(Ar T _ (by omega)).mono ?_;rintro e2 w6 ⟨rfl,hb6⟩;have jK:=hid (And.intro (Vr.out.1.below hb6) (And.intro (Vr.out.2.1.below hb6) (Vr.out.2.2.below hb6)));have jI:=hid (qK.out.trans (hb6.mono qK.out.size));have HT6:=hid (DT.out.b hb6);clear hb6 Vr qK DT
  go_wp2_with fail
  refine(zhY w6 b s I E D oi ni ci od nd cd jK.out.2.2 k hk T).mono ?_;rintro e3 w7 ⟨rb,rfl,kr,hb7,hrb⟩;obtain⟨hlo,hlo2⟩:=XB.out;have hlen:=HV.out.1.its.len;obtain⟨hA0,hAd⟩:=HV.out.1.path.cut (show k≤I.length by omega);have wK:=zl.le hA0;have hak:kN I k≤at':=by
   match k,hk,hlo with
   |0,_,_=>exact Nat.zero_le _
   |j+1,hk,hlo=>
    have hg:I[j]?=some (I[j]'(by omega)):=List.getElem?_eq_getElem _;have h9:=hlo j _ (by omega) hg;unfold qM at h9;show(match I[j]? with|some q=>q.1.en|none=>0)≤at';rw[hg];simp at h9;show(I[j]'(by omega)).1.en≤at';omega
  have vz:T.size=s.size-d.size+n.size:=by rw[←HV.out.2.1];exact J4 rZ.out
  have hs7:=hb7.size;have Rf:=jK.out.2.2.below hb7;have hob:∀g off,od=some ⟨g,off,none⟩→g<w6.heap.size:=jK.out.2.2.dl;have hbl:b<w6.heap.size:=jK.out.2.2.blk.lt;have hz0:=zhT (base:=w7.heap.size) Rf hk kr (λg off hg=>by have:=hob g off hg;omega) (by have:=rZ.out;omega);have Qi:=hid (jI.out.trans (hb7.mono jI.out.size));have Au:=hid (And.intro (jK.out.1.below hb7) (And.intro (jK.out.2.1.below hb7) Rf));have HRR:=hid (zhZ w7 b s I E D oi ni ci od nd cd Rf rb T (kN I k) (zH I E k) (D.take (zH I E k).en) od (zH I E k).en (zH I E k).en hz0 (λg hg=>by
   cases od with
   |none=>cases hg
   |some q=>
    obtain⟨g2,o2,sp⟩:=q;rcases Rf.del with⟨e1,_,_⟩|⟨g',off,c,e1,e2,_⟩
    ·cases e1
    ·injection e1 with f1
     injection f1 with f1;injection f1 with f2 f3 f4;injection hg with hg;rw[←hg,f2];exact e2) (by omega) (λg off hg=>by have:=jK.out.2.2.il g off hg;omega) (λg off hg=>by have:=hob g off hg;omega) (by omega) (HT6.out.b hb7) Vt at' d n (by omega) hd hn)
  have qy:=(jK.out.1.below hb7);have c0:=qy.cell 0;have c1:=qy.cell 1;have c2:=qy.cell 2;have Aw:=hid (And.intro hk (And.intro hlen (And.intro hak (And.intro vz (And.intro hrb hbl)))));clear hz0 qy Rf hb7 kr hob hA0 hAd wK hak hlo hlo2 hlen
  go_wp2_with fail
  refine(HRR.out).mono ?_;rintro e4 w8 ⟨n0,hn0,hm0,hm1,its,n1,yN,a',m',F',jZ,ZJ,YP,zK,fo,fc,tail,rfl,hown,uJ,qP,Rh,OD,zh0,jC,nR,OE,Jn,hRr,hend⟩;clear c0 c1 c2
  go_wp2_with fail
  obtain⟨hk,hlen,hak,vz,hrb,hbl⟩:=Aw.out;have Qe:=Au.out.2.2.zf Jn (show ¬b=rb by omega) (λg off hg=>show ¬g=rb by have:=jK.out.2.2.il g off hg;omega) (λg off hg=>show ¬g=rb by have:=jK.out.2.2.dl g off hg;omega);have hTe:=HV.out.2.1;have OG:zl (xP s at' d n) F' (kN I k) (zH I E k) its a' m':=by rw[hTe];exact nR
  have nS:=aJ HV.out.1.path HV.out.1.en rZ.out (show k≤I.length by omega) XB.out.1 OG OE OD (n0:=n0) (tail:=tail) hm1 (by
   rcases hend with⟨h1,h2⟩|⟨q,n2,h1,h2,h3,h4,h5⟩
   ·exact .inl ⟨h1,by rw[hTe];exact h2⟩
   ·exact .inr ⟨q,n1,yN,n2,zK,hRr.le.1,h1,h2,h3,h4,h5⟩)
  have hkept:=zh1 HV.out.1.path HV.out.1.en rZ.out (show k≤I.length by omega) XB.out.1 XB.out.2 OG OE OD hm0 hm1 hRr (by
   rcases hend with⟨h1,h2⟩|⟨q,n2,h1,h2,h3,h4,h5⟩
   ·exact .inl ⟨h1,by rw[hTe];exact h2⟩
   ·exact .inr ⟨q,n2,zK,h1,h2,h3,h4,h5⟩)
  rw[hTe,←hlen]at nS hkept;have hBl:=zl.le nR;have hBe:=zl.Kz nR;have hA0:=(HV.out.1.path.cut (show k≤I.length by omega)).1.start;have haT:a'≤T.size:=hBl.2.2.2.1 (by clear hend;have:=rZ.out;omega);have f1:its.length≤900:=by clear hend nS hkept;omega
  have f2:F'.length≤900:=by clear hend nS hkept;omega
  obtain⟨p1,p2,p3,p4,p5⟩:=nS;have HDC:=hid (zhJ w8 b s I E D oi ni ci od nd cd Qe hic hin rb T a' m' F' jZ ZJ YP zK uJ qP Rh fo its.length fc its (Src.uT hown) rfl k tail p3 Vt f1 f2 p4 p5);have hs8:=Jn.size;have HP:=hid (And.intro p1 (And.intro p2 (And.intro hkept (And.intro Rh Jn))));have Ad:=hid Qe;have Az:=Au.out.2.1.zf Jn (show ¬z+1=rb by have:=jK.out.2.1.lt;omega);have OH:=hid Az;clear hkept p1 p2 p4 p5 hBl hBe hA0 haT nR OG OE hRr hend Jn hown uJ qP Rh OD zh0 jC hm0 hm1 hTe Qe Az;refine(HDC.out).mono ?_;rintro e5 w9 ⟨E',oa,oc,gi,rfl,hE',Yo,YQ,vH⟩;unfold rP;obtain⟨eA,eB,ef,ee⟩:=E';dsimp only;obtain⟨NN,hNN⟩:∃N,k+its.length+tail=N:=⟨_,rfl⟩;obtain⟨nD,hnD⟩:∃N,ZJ+(nd-(zH I E (ni-tail)).en)=N:=⟨_,rfl⟩;rw[hNN]at Yo ⊢;rw[hnD]at YQ ⊢;have xx:=Ad.out.blk.below vH;have k29:=OH.out.below vH;have b0:=xx.cell 0;have b1:=xx.cell 1;have b2:=xx.cell 2;have b3:=xx.cell 3;have b4:=xx.cell 4;have b5:=xx.cell 5;have b6:=xx.cell 6;have g0:=xx.frozen 0;have g1:=xx.frozen 1;have g2:=xx.frozen 2;have g3:=xx.frozen 3;have g4:=xx.frozen 4;have g5:=xx.frozen 5;have g6:=xx.frozen 6;have HE:=hid (And.intro hE' (And.intro Yo (And.intro YQ (And.intro vH (And.intro hNN (And.intro hnD (And.intro xx k29)))))));clear hE' Yo YQ vH hNN hnD xx k29
  go_upto_region 8 with fail
  obtain⟨hE',Yo,YQ,vH,hNN,hnD,xx,k29⟩:=HE.out;have ka:=((((((xx.set 0 (.string T)).set 1 (.slice (some ⟨gi,0,none⟩) NN NN)).set 2 (.int .i64 (eA:Int))).set 3 (.bool eB)).set 4 (.int .i64 (ef:Int))).set 5 (.int .i64 (ee:Int))).set 6 (.slice oa nD oc);have hfa:zg (λk=>k=b) w9 (((((((w9.setCell ⟨b,0,none⟩ (.string T)).setCell ⟨b,1,none⟩ (.slice (some ⟨gi,0,none⟩) NN NN)).setCell ⟨b,2,none⟩ (.int .i64 (eA:Int))).setCell ⟨b,3,none⟩ (.bool eB)).setCell ⟨b,4,none⟩ (.int .i64 (ef:Int))).setCell ⟨b,5,none⟩ (.int .i64 (ee:Int))).setCell ⟨b,6,none⟩ (.slice oa nD oc)):=
   ((((((zg.put (zg.refl _ w9) 0 _).put 1 _).put 2 _).put 3 _).put 4 _).put 5 _).put 6 _
  obtain⟨wa,AA⟩:∃X,(((((((w9.setCell ⟨b,0,none⟩ (.string T)).setCell ⟨b,1,none⟩ (.slice (some ⟨gi,0,none⟩) NN NN)).setCell ⟨b,2,none⟩ (.int .i64 (eA:Int))).setCell ⟨b,3,none⟩ (.bool eB)).setCell ⟨b,4,none⟩ (.int .i64 (ef:Int))).setCell ⟨b,5,none⟩ (.int .i64 (ee:Int))).setCell ⟨b,6,none⟩ (.slice oa nD oc))=X:=⟨_,rfl⟩;rw[AA]at ka hfa ⊢;have nT:zh wa b #[.string T,.slice (some ⟨gi,0,none⟩) NN NN,.int .i64 (eA:Int),.bool eB,.int .i64 (ef:Int),.int .i64 (ee:Int),.slice oa nD oc] 68:=by simpa using ka
  have wU:=k29.zf hfa (show ¬z+1=b by have:=HV.out.1.blk.lt;have:=HW0.out.2;omega);have c0:=wU.cell 0;have c1:=wU.cell 1;have d0:=wU.frozen 0;have d1:=wU.frozen 1;have kk:=(wU.set 0 (.int .i64 (k:Int))).set 1 (.int .i64 (tail:Int));have wV:zh ((wa.setCell ⟨z+1,0,none⟩ (.int .i64 (k:Int))).setCell ⟨z+1,1,none⟩ (.int .i64 (tail:Int))) (z+1) #[.int .i64 (k:Int),.int .i64 (tail:Int)] 31:=by simpa using kk
  have hfk:zg (λj=>j=z+1) wa ((wa.setCell ⟨z+1,0,none⟩ (.int .i64 (k:Int))).setCell ⟨z+1,1,none⟩ (.int .i64 (tail:Int))):=(zg.put (zg.refl _ wa) 0 _).put 1 _;have HA:=hid (And.intro nT (And.intro hfa (And.intro wV (And.intro hfk (And.intro hE' (And.intro Yo (And.intro YQ (And.intro vH (And.intro hNN hnD)))))))));clear ka nT hfa kk wV hfk AA hE' Yo YQ vH hNN hnD xx k29 wU b0 b1 b2 b3 b4 b5 b6 g0 g1 g2 g3 g4 g5 g6;go_wp2;obtain⟨nT,hfa,wV,hfk,hE',Yo,YQ,vH,hNN,hnD⟩:=HA.out;obtain⟨wf,hwf⟩:∃X,(wa.setCell ⟨z+1,0,none⟩ (.int .i64 (k:Int))).setCell ⟨z+1,1,none⟩ (.int .i64 (tail:Int))=X:=⟨_,rfl⟩;rw[hwf]at wV hfk ⊢;have v0:=wV.cell 0;have v1:=wV.cell 1;refine bodyPost_ret (v:=.tuple #[.agg #[.int .i64 (k:Int),.int .i64 (tail:Int)],.int .i64 0]) (by simp[results,Tryz.results13,go_sem,v0,v1]) rfl ?_;obtain⟨p1,p2,hkept,Rh,Jn⟩:=HP.out;have hzb:z+1≠b:=by have:=HV.out.1.blk.lt;have:=HW0.out.2;omega
  have hbz:b<z:=by have:=HV.out.1.blk.lt;have:=HW0.out.2;omega
  have hzz:=HW0.out.2;have hz8:w.heap.size≤w8.heap.size:=by have:=Qi.out.size;have:=Jn.size;omega
  have hz2:z+1<w6.heap.size:=jK.out.2.1.lt;have zmN:w6.heap.size≤rb:=Aw.out.2.2.2.2.1;have hgI:=yH Yo gi rfl;have hlI:=ji Yo gi rfl;have zh2:=zQ hfk (zQ hfa Yo (λj hj=>by cases hj;show ¬gi=b;omega)) (λj hj=>by cases hj;show ¬gi=z+1;have:=Qi.out.size;have:=Jn.size;have zh3:=OH.out.lt;omega);have AB:=zQ hfk (zQ hfa YQ (λj hj=>show ¬j=b by have:=yH YQ j hj;omega)) (λj hj=>show ¬j=z+1 by have:=yH YQ j hj;have zh3:=OH.out.lt;omega);have hFr:zg (λj=>j=b) w wf:=by
   have e1:zg (λj=>j=b) w w7:=zg.of_below Qi.out;have e2:=e1.trans Jn (λj hj e=>by omega);have e3:=e2.trans (zg.of_below (p:=λj=>j=b) vH) (λj _ e=>e);have e4:=e3.trans hfa (λj _ e=>e);exact e4.trans hfk (λj hj e=>by omega)
  have hiI:ZI wf (some ⟨gi,0,none⟩) NN (I.take k++its++(I.drop (ni-tail)).map λq=>(q.1.mv s.size T.size,q.2.mv F'.length (zH I E (ni-tail)).en)):=ZI.wW (by
   have h1:=Yo.1;rw[jc]at h1;omega) (Src.uT zh2)
  refine⟨k,tail,_,⟨eA,eB,ef,ee⟩,_,gi,NN,NN,oa,nD,oc,rfl,⟨by rw[HV.out.2.1];exact nT.zf hfk hzb.symm,hiI,Src.uT AB,?_,nU AB,?_,?_,?_,?_,?_,?_⟩,Nat.le_refl _,by omega,?_,hFr,?_⟩
  ·rw[←hnD,List.length_append,List.length_drop,Rh,HV.out.1.ln]
  ·intro g off h
   cases h;have:=hfa.size;have:=hfk.size;omega
  ·intro g off h
   cases h;omega
  ·intro g off h
   have:=yH YQ g (by rw[h];rfl);omega
  ·rw[HV.out.2.1,hE'];exact p1
  ·rw[hE'];exact p2
  ·rw[HV.out.2.1];exact Vt
  ·intro g off h
   have:=yH YQ g (by rw[h];rfl);omega
  ·refine⟨hkept,its.map Prod.fst,?_⟩
   rw[List.map_append,List.map_append,List.map_map,HV.out.2.1,←HV.out.1.its.len];rfl
end
theorem zl.ahead{s:ByteArray}{D:List Dl}{I:List (Tk×Mk)}{E:Mk}(h:zl s D 0 Mk.zero I s.size E){i:Nat}{q:Tk×Mk}(hi:I[i]?=some q):(Lx.zero::(ui s).map Prod.snd)[i]?=some (zi q.2 D):=by
 obtain⟨L,h1,h2,h3,h4⟩:=h.nV;rw[nX,nY _ (Nat.lt_irrefl _),List.append_nil]at h1;have e:ui s=L:=h1;rw[e]
 cases i with
 |zero=>
  match I,h,hi with
  |q0::I,⟨_,g2,_⟩,hi=>
   have e0:q0=q:=by simpa using hi
   rw[←e0,g2,nX];rfl
 |succ i=>
  obtain⟨r,hr1,hr2⟩:=h4 i q hi;rw[List.getElem?_cons_succ,List.getElem?_map,hr1];simp[hr2]
def ZK(W:World)(b:Nat)(Av:Nat→Prop)(s:ByteArray):Prop:=
 ∃(I:List (Tk×Mk)) (E:Mk) (D:List Dl) (g ni ci:Nat) (od:Option Addr) (nd cd:Nat),jH W b s I E D (some ⟨g,0,none⟩) ni ci od nd cd∧ni≤ci∧¬Av g∧(∀h off,od=some ⟨h,off,none⟩→¬Av h)
theorem ZK.zf{p:Nat→Prop}{W W':World}{b:Nat}{Av:Nat→Prop}{s:ByteArray}(h:ZK W b Av s)(hf:zg p W W')(hb:¬p b)(hp:∀k,k<W.heap.size→p k→Av k):ZK W' b Av s:=by
 obtain⟨I,E,D,g,ni,ci,od,nd,cd,hV,h1,h2,h3⟩:=h;exact⟨I,E,D,g,ni,ci,od,nd,cd,hV.zf hf hb (λg' off e hh=>by cases e;exact h2 (hp _ (hV.il _ _ rfl) hh)) (λg' off e hh=>h3 g' off e (hp _ (hV.dl _ _ e) hh)),h1,h2,h3⟩
theorem ZK.below{W W':World}{b:Nat}{Av:Nat→Prop}{s:ByteArray}(h:ZK W b Av s)(hb:Below W.heap.size W W'):ZK W' b Av s:=h.zf (zg.of_below (p:=λ_=>False) hb) id (λ_ _ h=>h.elim)
theorem ZK.lt{W:World}{b:Nat}{Av:Nat→Prop}{s:ByteArray}(h:ZK W b Av s):b<W.heap.size:=by
 obtain⟨I,E,D,g,ni,ci,od,nd,cd,hV,_⟩:=h;exact hV.blk.lt
theorem AV(s:ByteArray):xP ⟨#[]⟩ 0 ⟨#[]⟩ s=s:=by
 refine LZ ?_ (λi hi=>?_)
 ·rw[J4 (by decide)]
  show 0-0+s.size=s.size;omega
 ·rw[J4 (by decide)]at hi
  rw[oG (by decide) i hi,if_neg (by omega)];have hi2:i<s.size:=by
   have:(⟨#[]⟩:ByteArray).size=0:=rfl;omega
  rw[if_pos (by omega)];simp
theorem zih(s:ByteArray)(h:s.size≤1048576):vF ⟨#[]⟩ ((0:Nat):Int) ⟨#[]⟩ s=0:=
 iF (by omega) (by show((0:Nat):Int)≤((⟨#[]⟩:ByteArray).size:Int);decide) ⟨by decide,by rfl⟩ (by have:(⟨#[]⟩:ByteArray).size=0:=rfl;omega)
theorem OI(w:World)(hT:Tx w)(s:ByteArray)(hs:s.size≤900):Calls Tryz.prog 11 #[.string s] w λe w'=>e=.returned (.tuple #[.pointer (some ⟨w.heap.size,0,none⟩),.int .i64 0])∧(∀Av:Nat→Prop,(∀k,Av k→k≤w.heap.size)→ZK w' w.heap.size Av s)∧Below w.heap.size w w':=by
 obtain⟨z,hz⟩:∃z,w.heap.size=z:=⟨_,rfl⟩;obtain⟨W0,hW0⟩:∃X,w.alloc (.cells #[.string ⟨#[]⟩,.slice none 0 0,.int .i64 0,.bool false,.int .i64 0,.int .i64 0,.slice none 0 0] 68)=X:=⟨_,rfl⟩;have hB0:Below w.heap.size w W0:=by rw[←hW0];exact(Below.refl _ _).alloc (Nat.le_refl _) _
 have hz0:W0.heap.size=z+1:=by rw[←hW0,World.size_alloc,hz]
 have kz:zh W0 z #[.string ⟨#[]⟩,.slice none 0 0,.int .i64 0,.bool false,.int .i64 0,.int .i64 0,.slice none 0 0] 68:=by rw[←hW0,←hz];exact zh.new _ _ _
 have hV:jH W0 z ⟨#[]⟩ [] Mk.zero [] none 0 0 none 0 0:=⟨kz,⟨rfl,λj q hj=>by simp at hj⟩,.inl ⟨rfl,rfl,rfl⟩,rfl,Nat.le_refl _,(λg off h=>by cases h),(λg off h=>by cases h),(λg off h=>by cases h),⟨rfl,rfl⟩,rfl,Nat.zero_le _⟩;have h0:0<z:=by have:=hT.1;omega
 have hA:Calls Tryz.prog 13 #[.pointer (some ⟨z,0,none⟩),.agg #[.int .i64 0,.string ⟨#[]⟩,.string s]] W0 λe w'=>Am W0 z ⟨#[]⟩ [] [] 0 ⟨#[]⟩ s e w':=
  OC W0 z ⟨#[]⟩ [] Mk.zero [] none 0 0 none 0 0 hV (Nat.le_refl _) (.inl ⟨rfl,rfl⟩) h0 (hT.b hB0) 0 ⟨#[]⟩ s (zih s (by omega)) (Nat.zero_le _) (by omega) (by rw[AV];exact hs)
 have HA:=hid hA;have HB0:=hid (And.intro hB0 hz0);clear hV kz hB0 hz0 hA;go_enter Tryz.func11,Tryz.ntmps11
 go_wp2_with fail
 refine(HA.out).mono ?_;rintro e w' ⟨h,t,I',E',D',g',Qg,ci',Qh,KE,KF,rfl,hV',q1,q2,q3,hF,_⟩;have HV':=hid (And.intro hV' (And.intro q1 (And.intro q2 (And.intro q3 hF))));have HW0:=hid (And.intro hW0 hz);clear hV' q1 q2 q3 hF;go_wp2;go_ret2;obtain⟨hV',q1,q2,q3,hF⟩:=HV'.out;have hs':=HB0.out.2;have hal:=(Below.refl w'.heap.size w').alloc (Nat.le_refl _) (.cells #[.int .i64 (h:Int),.int .i64 (t:Int)] 31);have hV2:=hV'.below hal;rw[AV]at hV2;have KG:Below w.heap.size w w':=HB0.out.1.trans (hF.below HB0.out.1.size (λj hj=>by have:=HW0.out.2;omega));rw[HW0.out.2]at KG ⊢;refine⟨rfl,λAv hAv=>⟨I',E',D',g',Qg,ci',Qh,KE,KF,hV2,q1,λhh=>?_,λg2 off e hh=>?_⟩,KG.trans (hal.mono (by have:=KG.size;have:=HW0.out.2;omega))⟩
 ·have:=hAv _ hh
  omega
 ·have:=hAv _ hh
  have:=q3 g2 off e;omega
end Go.Proofs.YtdjcidackkogjaaGreatDoor

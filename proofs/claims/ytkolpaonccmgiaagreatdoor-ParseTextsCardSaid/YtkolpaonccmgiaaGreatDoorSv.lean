/- A maker of layer 13 (parse) in memory, and what it -/
import Derived.Test.YtkolpaonccmgiaaGreatDoorSu
import Derived.Test.YtkolpaonccmgiaaGreatDoorRo
namespace Go.Proofs.YtkolpaonccmgiaaGreatDoor.Q
set_option linter.unusedSectionVars false
set_option linter.unusedVariables false
open _root_.Nat renaming lt_of_lt_of_le->wae
open Go.RowKit
def ZQ(w:World)(ao:Option Addr)(n:Nat)(lv:Nat->Lf):Prop:=
 ∀i,i<n->∃b off,ao=some ⟨b,off,none⟩/\b<w.heap.size/\w.cell? ⟨b,off+i*4,none⟩=some (.int .i64 (lv i).k)/\w.cell? ⟨b,off+i*4+1,none⟩=some (.string (lv i).s)/\w.cell? ⟨b,off+i*4+2,none⟩=some (.int .i64 (lv i).f)/\w.cell? ⟨b,off+i*4+3,none⟩=some (.int .i64 (lv i).t)
theorem ZQ.kept{w w':World}{ao:Option Addr}{n:Nat}{lv:Nat->Lf}(h:ZQ w ao n lv)(hs:w.heap.size<=w'.heap.size)(hc:∀b off,ao=some ⟨b,off,none⟩->b<w.heap.size->w'.heap[b]?=w.heap[b]?):ZQ w' ao n lv:=λi hi=>by
 obtain⟨b,off,h1,h2,c0,c1,c2,c3⟩:=h i hi;have hcc:∀o,w'.cell? ⟨b,o,none⟩=w.cell? ⟨b,o,none⟩:=λo=>World.cell?_of_block (hc b off h1 h2);exact⟨b,off,h1,wae h2 hs,(hcc _).trans c0,(hcc _).trans c1,(hcc _).trans c2,(hcc _).trans c3⟩
theorem ZQ.below{w w':World}{ao:Option Addr}{n:Nat}{lv:Nat->Lf}(h:ZQ w ao n lv)(hb:Below w.heap.size w w'):ZQ w' ao n lv:=h.kept hb.size (λb off _ h2=>hb.block b h2)
structure CE(n:Nat)(lv:Nat->Lf)(la:Option Addr)(w0:World)(P:Nat->Prop):Prop where
 lt:∀k,P k->k<w0.heap.size
 row:ZQ w0 la n lv
 rowP:∀b off,0<n->la=some ⟨b,off,none⟩->P b
 tx:Tx w0
 CG:P 0
 VF:∀i,i<n->(lv i).s.size<=100
 nle:n<=10000
structure Kd where
 n:Nat
 lv:Nat->Lf
 la:Option Addr
 g:Nat
 C:PS->Value->Array Value
 T:TypeId
structure Mk(K:Kd)(w0:World)(P:Nat->Prop)(s:PS)(w:World):Prop where
 st:CE K.n K.lv K.la w0 P
 zh:zg (λk=>¬P k) w0 w
 yM:s.a<=K.n
 XI:¬P K.g
 own:∃nv,zf w K.g (K.C s nv) K.T/\w.ownsRow 0 32 4 nv s.L.length (vS s.L)/\nv.ownBlock≠some K.g/\∀k,nv.ownBlock=some k->¬P k
theorem Tx.zh{p:Nat->Prop}{w w':World}(h:Tx w)(hf:zg p w w')(hp:¬p 0):Tx w':=
 ⟨wae h.1 hf.size,λi hi=>(hf.cell (a:=⟨0,i,none⟩) h.1 hp).trans (h.2 i hi)⟩
theorem CE.rowAt{n:Nat}{lv:Nat->Lf}{la:Option Addr}{w0:World}{P:Nat->Prop}(h:CE n lv la w0 P){w:World}(hf:zg (λk=>¬P k) w0 w):ZQ w la n lv:=λi hi=>by
 obtain⟨b,off,h1,h2,c0,c1,c2,c3⟩:=h.row i hi;have hb:P b:=h.rowP b off (by omega) h1;have hcc:∀o,w.cell? ⟨b,o,none⟩=w0.cell? ⟨b,o,none⟩:=λo=>World.cell?_of_block (hf.block b h2 (λh=>h hb));exact⟨b,off,h1,wae h2 hf.size,(hcc _).trans c0,(hcc _).trans c1,(hcc _).trans c2,(hcc _).trans c3⟩
theorem Je{n:Nat}{lv:Nat->Lf}(h:∀i,i<n->(lv i).s.size<=100)(i:Nat):(yF n lv i).s.size<=100:=by
 unfold yF;split
 ·exact h i (by assumption)
 ·exact Nat.zero_le _
section
variable{K:Kd}{w0:World}{P:Nat->Prop}{s:PS}{w:World}
theorem Mk.tx(h:Mk K w0 P s w):Tx w:=h.st.tx.zh h.zh (λk=>k h.st.CG)
theorem Mk.row(h:Mk K w0 P s w):ZQ w K.la K.n K.lv:=h.st.rowAt h.zh
theorem Mk.glt(h:Mk K w0 P s w):K.g<w.heap.size:=by obtain⟨nv,hb,_⟩:=h.own;exact hb.lt
theorem Mk.below(h:Mk K w0 P s w){w':World}(hb:Below w.heap.size w w'):Mk K w0 P s w':=by
 obtain⟨nv,h1,h2,h3,h4⟩:=h.own;exact⟨h.st,h.zh.trans (zg.of_below (p:=λ_=>False) hb) (λ_ _ h=>h.elim),h.yM,h.XI,nv,h1.below hb,uh h2 hb,h3,h4⟩
def U1(g:Nat)(nv:Value)(w:World)(k:Nat):Prop:=k<w.heap.size/\k≠g/\nv.ownBlock≠some k
theorem Mk.base(h:Mk K w0 P s w){w1:World}(hb:Below w.heap.size w w1):∃P',Mk K w1 P' s w1/\(∀k,P k->P' k)/\(∀k,w.heap.size<=k->k<w1.heap.size->P' k)/\∀W s',Mk K w1 P' s' W->Mk K w0 P s' W:=by
 have hg:=h.glt;have h1:=h.below hb;obtain⟨nv,k1,k2,k3,k4⟩:=h.own;have j1:=k1.below hb;have j2:=uh k2 hb;have hP:∀k,P k->U1 K.g nv w1 k:=λk hk=>⟨wae (h.st.lt k hk) h1.zh.size,λe=>h.XI (e▸hk),λe=>k4 k e hk⟩;refine⟨U1 K.g nv w1,⟨⟨λk hk=>hk.1,h1.row,λb off h0 hl=>hP b (h.st.rowP b off h0 hl),h1.tx,hP 0 h.st.CG,h.st.VF,h.st.nle⟩,zg.refl _ _,h.yM,λhh=>hh.2.1 rfl,nv,j1,j2,k3,λk e hk=>hk.2.2 e⟩,hP,?_,?_⟩
 ·intro k h2 h3
  refine⟨h3,by omega,λe=>?_⟩;have:=kK k2 k e;omega
 ·intro W s' hW
  obtain⟨nv',g1,g2,g3,g4⟩:=hW.own;exact⟨h.st,h1.zh.trans hW.zh (λi _ hi hp=>hi (hP i hp)),hW.yM,h.XI,nv',g1,g2,g3,λk e hk=>g4 k e (hP k hk)⟩
theorem Mk.blk(h:Mk K w0 P s w){b:Nat}{cs:Array Value}{t:TypeId}(hb:zf w0 b cs t)(hp:P b):zf w b cs t:=hb.zh h.zh (λk=>k hp)
theorem Mk.turn(h:Mk K w0 P s w){w':World}{s':PS}(hL:s'.L=s.L)(ha:s'.a<=K.n)(hf:zg (λk=>k=K.g) w w')(hb:∀nv,zf w K.g (K.C s nv) K.T->zf w' K.g (K.C s' nv) K.T):Mk K w0 P s' w':=by
 obtain⟨nv,h1,h2,h3,h4⟩:=h.own;refine⟨h.st,h.zh.trans hf (λi _ hi hp=>h.XI (hi▸hp)),ha,h.XI,nv,hb nv h1,?_,h3,h4⟩;rw[hL];exact xq hf h2 (λk hk e=>h3 (e▸hk))
end
def yT(K:Kd)(w0:World)(P:Nat->Prop)(F:Nat)(args:Array Value)(p:PP)(pre:PS->Prop):Prop:=
 ∀(w:World) (s:PS),Mk K w0 P s w->pre s->Calls Tryz.prog F args w λe w'=>e=.returned (.tuple #[])/\∃s',Ev K.n K.lv p s s'/\Mk K w0 P s' w'
def Ld(K:Kd)(g:Nat)(F:Nat)(b:PS->Bool):Prop:=
 ∀(w0:World) (P:Nat->Prop) (w:World) (s:PS),Mk K w0 P s w->Calls Tryz.prog F #[.pointer (some ⟨g,0,none⟩)] w λe w'=>e=.returned (.bool (b s))/\Below w.heap.size w w'
def Xb(lo:Value)(a:Int)(x:Lf)(sg:Nat)(nv:Value)(u d:Int):Array Value:=#[lo,.int .i64 a,.int .i64 x.k,.string x.s,.int .i64 x.f,.int .i64 x.t,.int .u8 (sg:Int),nv,.int .i64 u,.int .i64 d]
open Go.Proofs.Tryz
open Lib(hid)
set_option maxHeartbeats 8000000
set_option maxRecDepth 100000
def Ye(n:Nat)(lv:Nat->Lf)(i:Int):Lf:=if 0<=i/\i<(n:Int)then lv i.toNat else lf0
theorem pY(n:Nat)(lv:Nat->Lf)(i:Nat):Ye n lv (i:Int)=yF n lv i:=by
 unfold Ye yF;by_cases h:i<n
 ·rw[if_pos (by omega),if_pos h];rfl
 ·rw[if_neg (by omega),if_neg h]
section
variable(w:World)
theorem zhN(g n:Nat)(la:Option Addr)(lc:Nat)(lv:Nat->Lf)(h0:w.cell? ⟨g,0,none⟩=some (.slice la n lc))(hg:g<w.heap.size)(hL:ZQ w la n lv)(at':Nat)(h:at'<n):
  Calls prog 76 #[.pointer (some ⟨g,0,none⟩),.int .i64 (at':Int)] w λr w'=>r=.returned (Xc (lv at'))/\Below w.heap.size w w':=by
 obtain⟨lb,lo,hla,Pe,l0,l1,l2,l3⟩:=hL at' h;obtain⟨P,hP⟩:∃P,lv at'=P:=⟨_,rfl⟩;rw[hP]at l0 l1 l2 l3 ⊢;obtain⟨pk,ps,pf,pt⟩:=P;simp only at l0 l1 l2 l3;have hB:=((Below.refl w.heap.size w).alloc (Nat.le_refl _) (.cells #[.int .i64 0,.string ⟨#[]⟩,.int .i64 0,.int .i64 0] 37));have q0:(0:Int)<=(at':Int):=by omega
 have q1:(at':Int)<(n:Int):=by omega
 have d0:decide ((at':Int)<0)=false:=by simp
 have d1:decide ((n:Int)<=(at':Int))=false:=by simp;omega
 have d1':decide (n<=at')=false:=by simp;omega
 have m0:=(hB.cell (p:=⟨lb,lo+at'*4,none⟩) Pe).trans l0;have m1:=(hB.cell (p:=⟨lb,lo+at'*4+1,none⟩) Pe).trans l1;have m2:=(hB.cell (p:=⟨lb,lo+at'*4+2,none⟩) Pe).trans l2;have m3:=(hB.cell (p:=⟨lb,lo+at'*4+3,none⟩) Pe).trans l3;have v0:=(hB.cell (p:=⟨g,0,none⟩) hg).trans h0;rw[hla]at v0;have kR:=zf.new w #[.int .i64 0,.string ⟨#[]⟩,.int .i64 0,.int .i64 0] 37;have HB:=hid hB;obtain⟨W2,hW2⟩:∃X,w.alloc (.cells #[.int .i64 0,.string ⟨#[]⟩,.int .i64 0,.int .i64 0] 37)=X:=⟨_,rfl⟩;rw[hW2]at HB kR m0 m1 m2 m3 v0;have r0:=kR.cell 0;have r1:=kR.cell 1;have r2:=kR.cell 2;have r3:=kR.cell 3;have f0:=kR.frozen 0;have f1:=kR.frozen 1;have f2:=kR.frozen 2;have f3:=kR.frozen 3;simp only[List.getElem?_toArray,List.getElem?_cons_zero,List.getElem?_cons_succ]at r0 r1 r2 r3;have CJ:=hid kR;have HW2:=hid hW2;clear kR hB l0 l1 l2 l3 hL hP h0 hla;go_enter func76,ntmps76
 go_upto_region 1 with fail
 clear HW2 hW2;go_wp2;have k4:=(((CJ.out.set 0 (.int .i64 pk)).set 1 (.string ps)).set 2 (.int .i64 pf)).set 3 (.int .i64 pt);have u0:=k4.cell 0;have u1:=k4.cell 1;have u2:=k4.cell 2;have u3:=k4.cell 3;simp at u0 u1 u2 u3;refine bodyPost_ret (v:=Xc ⟨pk,ps,pf,pt⟩) (by simp[results,results76,go_sem,u0,u1,u2,u3,Xc]) rfl ?_;exact⟨rfl,HB.out.trans (zg.below ((((zg.setCell (p:=λb=>b=w.heap.size) (zg.refl _ W2) 0 (.inl rfl) _).setCell 1 (.inl rfl) _).setCell 2 (.inl rfl) _).setCell 3 (.inl rfl) _) HB.out.size (λb hb=>by omega))⟩
theorem zhO(g n:Nat)(la:Option Addr)(lc:Nat)(h0:w.cell? ⟨g,0,none⟩=some (.slice la n lc))(hg:g<w.heap.size)(at':Int)(h:at'<0\/(n:Int)<=at'):
  Calls prog 76 #[.pointer (some ⟨g,0,none⟩),.int .i64 at'] w λr w'=>r=.returned (Xc lf0)/\Below w.heap.size w w':=by
 have hB:=((Below.refl w.heap.size w).alloc (Nat.le_refl _) (.cells #[.int .i64 0,.string ⟨#[]⟩,.int .i64 0,.int .i64 0] 37));have v0:=(hB.cell (p:=⟨g,0,none⟩) hg).trans h0;have kR:=zf.new w #[.int .i64 0,.string ⟨#[]⟩,.int .i64 0,.int .i64 0] 37;have HB:=hid hB;obtain⟨W2,hW2⟩:∃X,w.alloc (.cells #[.int .i64 0,.string ⟨#[]⟩,.int .i64 0,.int .i64 0] 37)=X:=⟨_,rfl⟩;rw[hW2]at HB kR v0;have r0:=kR.cell 0;have r1:=kR.cell 1;have r2:=kR.cell 2;have r3:=kR.cell 3;have f0:=kR.frozen 0;have f1:=kR.frozen 1;have f2:=kR.frozen 2;have f3:=kR.frozen 3;simp only[List.getElem?_toArray,List.getElem?_cons_zero,List.getElem?_cons_succ]at r0 r1 r2 r3;have CJ:=hid kR;have HW2:=hid hW2;clear kR hB h0;have k4:=(((CJ.out.set 0 (.int .i64 0)).set 1 (.string ⟨#[]⟩)).set 2 (.int .i64 0)).set 3 (.int .i64 0);have u0:=k4.cell 0;have u1:=k4.cell 1;have u2:=k4.cell 2;have u3:=k4.cell 3;simp at u0 u1 u2 u3;have HF:=hid (HB.out.trans (zg.below ((((zg.setCell (p:=λb=>b=w.heap.size) (zg.refl _ W2) 0 (.inl rfl) (.int .i64 0)).setCell 1 (.inl rfl) (.string ⟨#[]⟩)).setCell 2 (.inl rfl) (.int .i64 0)).setCell 3 (.inl rfl) (.int .i64 0)) HB.out.size (λb hb=>by omega)));have U:=hid (And.intro u0 (And.intro u1 (And.intro u2 u3)));clear k4 u0 u1 u2 u3;rcases(Int.lt_or_le at' 0)with d0|d0
 ·have d0':decide (at'<0)=true:=by simpa using d0
  go_enter func76,ntmps76
  go_upto_region 1 with fail
  clear HW2 hW2;go_wp2;obtain⟨u0,u1,u2,u3⟩:=U.out;refine bodyPost_ret (v:=Xc lf0) (by simp[results,results76,go_sem,u0,u1,u2,u3,Xc,lf0]) rfl ?_;exact⟨rfl,HF.out⟩
 ·have d0':decide (at'<0)=false:=by simpa using d0
  have d1:(n:Int)<=at':=by omega
  have d1':decide ((n:Int)<=at')=true:=by simpa using d1
  go_enter func76,ntmps76
  go_upto_region 1 with fail
  clear HW2 hW2;go_wp2;obtain⟨u0,u1,u2,u3⟩:=U.out;refine bodyPost_ret (v:=Xc lf0) (by simp[results,results76,go_sem,u0,u1,u2,u3,Xc,lf0]) rfl ?_;exact⟨rfl,HF.out⟩
theorem U2(g n:Nat)(la:Option Addr)(lc:Nat)(lv:Nat->Lf)(h0:w.cell? ⟨g,0,none⟩=some (.slice la n lc))(hg:g<w.heap.size)(hL:ZQ w la n lv)(i:Int):
  Calls prog 76 #[.pointer (some ⟨g,0,none⟩),.int .i64 i] w λr w'=>r=.returned (Xc (Ye n lv i))/\Below w.heap.size w w':=by
 by_cases h:0<=i/\i<(n:Int)
 ·obtain⟨k,rfl⟩:=Int.eq_ofNat_of_zero_le h.1
  have:=zhN w g n la lc lv h0 hg hL k (by omega);unfold Ye;rw[if_pos h];exact this
 ·unfold Ye
  rw[if_neg h];exact zhO w g n la lc h0 hg i (by omega)
theorem U3(g n:Nat)(la:Option Addr)(lc:Nat)(lv:Nat->Lf)(a:Int)(x:Lf)(sg:Nat)(nv:Value)(u d:Int)(hB:zf w g (Xb (.slice la n lc) a x sg nv u d) 50)(hL:ZQ w la n lv)(hgl:∀b off,0<n->la=some ⟨b,off,none⟩->b≠g)(hT:Tx w)(hg1:g≠0)(i:Int)(hs:(Ye n lv i).s.size<=1000000):
  Calls prog 47 #[.pointer (some ⟨g,0,none⟩),.int .i64 i] w λr w'=>r=.returned (.tuple #[])/\zf w' g (Xb (.slice la n lc) i (Ye n lv i) (XJ (Ye n lv i).k (Ye n lv i).s) nv u d) 50/\zg (λk=>k=g) w w':=by
 have hF1:=(zg.refl (λk=>k=g) w).put 1 (.int .i64 i);have hB1:zf (w.setCell ⟨g,1,none⟩ (.int .i64 i)) g (Xb (.slice la n lc) i x sg nv u d) 50:=hB.set 1 _;have hL1:ZQ (w.setCell ⟨g,1,none⟩ (.int .i64 i)) la n lv:=λj hj=>hL.kept hF1.size (λb off h1 h2=>hF1.block b h2 (hgl b off (by omega) h1)) j hj;have XK:=hid (U2 _ g n la lc lv (hB1.cell 0) hB1.lt hL1 i);obtain⟨y,hy⟩:∃y,Ye n lv i=y:=⟨_,rfl⟩;rw[hy]at XK hs ⊢;have c1:w.cell? ⟨g,1,none⟩=some (.int .i64 a):=hB.cell 1;have f1:=hB.frozen 1;have HB:=hid hB;have HB1:=hid hB1;have qR:=hid hF1;have HT:=hid hT;have Le:=hid (hT.1);clear hB hB1 hF1 hL hL1 hT hy;go_enter func47,ntmps47
 go_wp2_with fail
 refine XK.out.mono ?_;rintro e w2 ⟨rfl,hb2⟩;have hB2:=HB1.out.below hb2;have hF2:=qR.out.trans (zg.of_below (p:=λ_=>False) hb2) (λ_ _ h=>h.elim);obtain⟨yk,ys,yf,yt⟩:=y;unfold Xc;simp only at hs ⊢;have a2:w2.cell? ⟨g,2,none⟩=some (.int .i64 x.k):=hB2.cell 2;have a3:w2.cell? ⟨g,3,none⟩=some (.string x.s):=hB2.cell 3;have a4:w2.cell? ⟨g,4,none⟩=some (.int .i64 x.f):=hB2.cell 4;have a5:w2.cell? ⟨g,5,none⟩=some (.int .i64 x.t):=hB2.cell 5;have f2:=hB2.frozen 2;have f3:=hB2.frozen 3;have f4:=hB2.frozen 4;have f5:=hB2.frozen 5;have hB3:zf ((((w2.setCell ⟨g,2,none⟩ (.int .i64 yk)).setCell ⟨g,3,none⟩ (.string ys)).setCell ⟨g,4,none⟩ (.int .i64 yf)).setCell ⟨g,5,none⟩ (.int .i64 yt)) g (Xb (.slice la n lc) i ⟨yk,ys,yf,yt⟩ sg nv u d) 50:=(((hB2.set 2 _).set 3 _).set 4 _).set 5 _;have hF3:zg (λk=>k=g) w ((((w2.setCell ⟨g,2,none⟩ (.int .i64 yk)).setCell ⟨g,3,none⟩ (.string ys)).setCell ⟨g,4,none⟩ (.int .i64 yf)).setCell ⟨g,5,none⟩ (.int .i64 yt)):=(((hF2.put 2 _).put 3 _).put 4 _).put 5 _;have Jp:=HT.out.zh hF3 (λh=>hg1 h.symm);have wL:=hid (U4 _ ⟨yk,ys,yf,yt⟩ hs Jp);have HB3:=hid hB3;have HF3:=hid hF3;clear hb2 hB2 hF2 hB3 hF3 Jp
 go_wp2_with fail
 refine wL.out.mono ?_;rintro e w3 ⟨rfl,hb3⟩;have hB4:=HB3.out.below hb3;have jh:=HF3.out.trans (zg.of_below (p:=λ_=>False) hb3) (λ_ _ h=>h.elim);obtain⟨nT,QX⟩:∃nT,XJ yk ys=nT:=⟨_,rfl⟩;rw[QX];have a6:w3.cell? ⟨g,6,none⟩=some (.int .u8 (sg:Int)):=hB4.cell 6;have f6:=hB4.frozen 6;have uH:=hid (show zf (w3.setCell ⟨g,6,none⟩ (.int .u8 (nT:Int))) g (Xb (.slice la n lc) i ⟨yk,ys,yf,yt⟩ nT nv u d) 50 from hB4.set 6 _);have HF5:=hid (jh.put 6 (.int .u8 (nT:Int)));have HSE:=hid QX;clear hb3 hB4 jh QX;go_wp2
 go_end0
 rw[HSE.out];exact⟨rfl,uH.out,HF5.out⟩
end
end Go.Proofs.YtkolpaonccmgiaaGreatDoor.Q

/- What Step of the document's own layer 9 returns: a -/
import Derived.Test.YtkolpaonccmgiaaGreatDoorSh
import Derived.Test.YtkolpaonccmgiaaGreatDoorQm
namespace Go.Proofs.YtkolpaonccmgiaaGreatDoor
set_option linter.unusedSectionVars false
set_option linter.unusedVariables false
open Go.Proofs.Tryz
open _root_.Nat renaming le_refl->waa
open _root_.Go.RowKit.Below renaming refl->wag
open Lib(hid)
set_option maxHeartbeats 8000000
set_option maxRecDepth 100000
open Go.RowKit
structure YZ(W:World)(pv:Value)(x:Lx):Prop where
 src:Src W pv x.pend.length (jy x.pend)
 cap:∃oa c,pv=.slice oa x.pend.length c/\x.pend.length<=c
theorem YZ.below{W W':World}{pv:Value}{x:Lx}(h:YZ W pv x)(hb:Below W.heap.size W W'):YZ W' pv x:=⟨h.src.below hb,h.cap⟩
theorem YZ.same{W:World}{pv:Value}{x y:Lx}(h:YZ W pv x)(hp:y.pend=x.pend):YZ W pv y:=by
 obtain⟨h1,h2⟩:=h;rw[←hp]at h1 h2;exact⟨h1,h2⟩
def VA(w:World)(p:Value)(t:Tk)(y:Lx)(e:Ending)(w':World):Prop:=∃oa n c,e=.returned (.tuple #[xw t,zM y (.slice oa n c)])/\YZ w' (.slice oa n c) y/\Below w.heap.size w w'/\∀g,(Value.slice oa n c).ownBlock=some g->p.ownBlock=some g\/w.heap.size<=g
structure vT(w:World)(A:Int)(pv:Value)(bd:Bool)(Bx:Nat)(W:World):Prop where
 kb:zf W Bx #[.int .i64 A,pv,.bool bd] 62
 kt:zf W (Bx+1) #[.int .i64 0,.int .i64 0,.int .i64 0,.bool false] 67
 kr:zf W (Bx+1+1) #[.int .i64 0,.slice none 0 0,.bool false] 62
 bl:Below w.heap.size w W
 bx:w.heap.size=Bx
theorem vT.new(w:World)(A:Int)(pv:Value)(bd:Bool):vT w A pv bd w.heap.size (((w.alloc (.cells #[.int .i64 A,pv,.bool bd] 62)).alloc (.cells #[.int .i64 0,.int .i64 0,.int .i64 0,.bool false] 67)).alloc (.cells #[.int .i64 0,.slice none 0 0,.bool false] 62)):=
 ⟨((zf.new w _ _).alloc _).alloc _,(kJ w _ _ _).alloc _,qZ w _ _ _ _,X5 _ _ _ _,rfl⟩
theorem vT.below{w W W':World}{A:Int}{pv:Value}{bd:Bool}{Bx:Nat}(h:vT w A pv bd Bx W)(hb:Below W.heap.size W W'):vT w A pv bd Bx W':=
 ⟨h.kb.below hb,h.kt.below hb,h.kr.below hb,h.bl.trans (hb.mono h.bl.size),h.bx⟩
def Yt(W:World)(Bx:Nat)(k a E:Int)(op:Bool)(A:Int)(pv:Value)(bd:Bool):World:=
 ((((((W.setCell ⟨Bx+1,0,none⟩ (.int .i64 k)).setCell ⟨Bx+1,1,none⟩ (.int .i64 a)).setCell ⟨Bx+1,2,none⟩ (.int .i64 E)).setCell ⟨Bx+1,3,none⟩ (.bool op)).setCell ⟨Bx+1+1,0,none⟩ (.int .i64 A)).setCell ⟨Bx+1+1,1,none⟩ pv).setCell ⟨Bx+1+1,2,none⟩ (.bool bd)
theorem vT.fin{w W:World}{A0:Int}{sG:Value}{Iu:Bool}{Bx:Nat}(h:vT w A0 sG Iu Bx W)(k a E:Int)(op:Bool)(A:Int)(pv:Value)(bd:Bool):
  zf (Yt W Bx k a E op A pv bd) (Bx+1) #[.int .i64 k,.int .i64 a,.int .i64 E,.bool op] 67/\zf (Yt W Bx k a E op A pv bd) (Bx+1+1) #[.int .i64 A,pv,.bool bd] 62/\
   zg (λb=>b=Bx+1\/b=Bx+1+1) W (Yt W Bx k a E op A pv bd)/\Below w.heap.size w (Yt W Bx k a E op A pv bd):=by
 have hF:zg (λb=>b=Bx+1\/b=Bx+1+1) W (Yt W Bx k a E op A pv bd):=
  (((((((zg.refl _ W).setCell 0 (.inl (.inl rfl)) _).setCell 1 (.inl (.inl rfl)) _).setCell 2 (.inl (.inl rfl)) _).setCell 3 (.inl (.inl rfl)) _).setCell 0 (.inl (.inr rfl)) _).setCell 1 (.inl (.inr rfl)) _).setCell 2 (.inl (.inr rfl)) _
 have e6:=(((h.kt.set 0 (.int .i64 k)).set 1 (.int .i64 a)).set 2 (.int .i64 E)).set 3 (.bool op);have f6:=((e6.other 0 (.int .i64 A) (b':=Bx+1+1) (by omega)).other 1 pv (b':=Bx+1+1) (by omega)).other 2 (.bool bd) (b':=Bx+1+1) (by omega);have e7:=(((h.kr.other 0 (.int .i64 k) (b':=Bx+1) (by omega)).other 1 (.int .i64 a) (b':=Bx+1) (by omega)).other 2 (.int .i64 E) (b':=Bx+1) (by omega)).other 3 (.bool op) (b':=Bx+1) (by omega);have f7:=((e7.set 0 (.int .i64 A)).set 1 pv).set 2 (.bool bd);exact⟨f6,f7,hF,h.bl.trans (hF.below h.bl.size (λb hb=>by have:=h.bx;omega))⟩
theorem vT.Jm{w W Wm:World}{A0:Int}{sG:Value}{Iu:Bool}{Bx:Nat}(h:vT w A0 sG Iu Bx W){t:Tk}{y:Lx}{oa:Option Addr}{n c:Nat}(hM:YZ W (.slice oa n c) y)(hne:∀g,(Value.slice oa n c).ownBlock=some g->g≠Bx+1/\g≠Bx+1+1)
 (hd:yO (Yt W Bx t.kind t.zh t.en t.op y.await (.slice oa n c) y.body) Wm){e:Ending}(he:e=.returned (.tuple #[xw t,zM y (.slice oa n c)]))(hfr:∀g,(Value.slice oa n c).ownBlock=some g->sG.ownBlock=some g\/w.heap.size<=g):VA w sG t y e Wm:=by
 obtain⟨q,rfl⟩:=hd;obtain⟨_,_,hF,hB⟩:=h.fin t.kind t.zh t.en t.op y.await (.slice oa n c) y.body;refine⟨oa,n,c,he,⟨?_,hM.cap⟩,below_drewN hB _,hfr⟩;exact(hM.src.zh hF (λg hg hh=>by have:=hne g hg;omega)).below (below_drewN (wag _ _) _)
theorem zds{X:World}{B b o:Nat}{v v0 v1 v2:Value}(hB:B≠b)(h:X.cell? ⟨B,0,none⟩=some v0/\X.cell? ⟨B,1,none⟩=some v1/\X.cell? ⟨B,2,none⟩=some v2):
  (X.setCell ⟨b,o,none⟩ v).cell? ⟨B,0,none⟩=some v0/\(X.setCell ⟨b,o,none⟩ v).cell? ⟨B,1,none⟩=some v1/\(X.setCell ⟨b,o,none⟩ v).cell? ⟨B,2,none⟩=some v2:=by
 have e1:∀j,(X.setCell ⟨b,o,none⟩ v).cell? ⟨B,j,none⟩=X.cell? ⟨B,j,none⟩:=λj=>World.cell?_of_block (Below.heap_setCell X _ _ B hB);simp only[e1];exact h
theorem znG(W:World):(W.alloc (.cells #[] 105)).ownsRow W.heap.size 105 2 (.slice (some ⟨W.heap.size,0,none⟩) 0 0) 0 []:=
 ⟨rfl,.inr ⟨W.heap.size,0,_,rfl,waa _,World.alloc_heap_new W _,waa _,by unfold maxLen;omega,rfl,rfl⟩⟩
theorem znH{l:List Dl}{n:Nat}(h:n=l.length):(jy l).length=n*2:=by
 rw[h];clear h
 induction l with
 |nil=>rfl
 |cons a l ih=>rw[Qx];simp only[List.length_cons,ih];omega
theorem znI{W:World}{b:Nat}{x:Dl}(h:zf W b #[.string x.word,.bool x.tabs] 105):Src W (.slice (some ⟨b,0,none⟩) 1 1) 1 [.string x.word,.bool x.tabs]:=by
 refine .inr ⟨_,0,1,rfl,h.lt,λj u hj=>?_⟩;rw[Nat.zero_add,h.cell j];simpa using hj
theorem VZ{w:World}{v:Value}{m:Nat}{xs:List Value}(h:Src w v m xs):∀g,v.ownBlock=some g->g<w.heap.size:=by
 intro g hg;rcases h with⟨rfl,_⟩|⟨b,off,c,rfl,h2,_⟩
 ·cases hg
 ·have:b=g:=by simpa[Value.ownBlock]using hg
  omega
section
variable(w:World)(x:Lx)(oa:Option Addr)(n c:Nat)(hM:YZ w (.slice oa n c) x)(s:ByteArray)(a:Nat)(ha:a<s.size)(hs:s.size<=60000)
include hM ha hs
theorem znJ(hbd:x.body=false)(E:Nat)(hE:a<E)(hE2:E<=s.size)(hbl:∀W,Calls prog 94 #[.string s,.int .i64 (a:Int)] W λe w'=>e=.returned (.int .i64 (E:Int))/\w'=W):
  Calls prog 67 #[.string s,.int .i64 (a:Int),zM x (.slice oa n c)] w λe w'=>VA w (.slice oa n c) ⟨1,a,E,false⟩ x e w':=by
 have qG:=hid hbl;clear hbl;have hi:(a:Int)<(E:Int):=by omega
 obtain⟨A,pd,bd⟩:=x;dsimp only at hbd;subst hbd;unfold zM;dsimp only;have hst:=vT.new w (A:Int) (.slice oa n c) false;have q0:(0:Int)<=(a:Int):=by omega
 have q1:(a:Int)<(s.size:Int):=by omega
 have xn:=hst.kb.cell 2;have yH:=hst.kb.cell 1;have HM:=hid hM;have yh:Hid (∀g,(Value.slice oa n c).ownBlock=some g->g<w.heap.size):=hid (λg hg=>VZ hM.src g hg);clear hM;go_enter func67,ntmps67
 go_wp2_with fail
 obtain⟨W,hW⟩:∃X,(((w.alloc (.cells #[.int .i64 (A:Int),.slice oa n c,.bool false] 62)).alloc (.cells #[.int .i64 0,.int .i64 0,.int .i64 0,.bool false] 67)).alloc (.cells #[.int .i64 0,.slice none 0 0,.bool false] 62))=X:=⟨_,rfl⟩;obtain⟨Bx,hBx⟩:∃z,w.heap.size=z:=⟨_,rfl⟩;rw[hW]at hst xn yH ⊢;rw[hBx]at hst xn yH yh ⊢;clear hW hBx;refine(qG.out _).mono ?_;rintro e w1 ⟨rfl,rfl⟩;have a0:=hst.kb.cell 0;have a1:=hst.kb.cell 1;have a2:=hst.kb.cell 2;have t0:=hst.kt.cell 0;have t1:=hst.kt.cell 1;have t2:=hst.kt.cell 2;have t3:=hst.kt.cell 3;have Xl:=hst.kt.frozen 0;have Xm:=hst.kt.frozen 1;have Xn:=hst.kt.frozen 2;have Xo:=hst.kt.frozen 3;have r0:=hst.kr.cell 0;have r1:=hst.kr.cell 1;have r2:=hst.kr.cell 2;have YE:=hst.kr.frozen 0;have YF:=hst.kr.frozen 1;have YG:=hst.kr.frozen 2;go_wp2
 go_region
 go_wp2;obtain⟨f6,f7,_,_⟩:=hst.fin (1:Int) (a:Int) (E:Int) false (A:Int) (.slice oa n c) false;unfold Yt at f6 f7;have h0:=f6.drew.cell 0;have h1:=f6.drew.cell 1;have h2:=f6.drew.cell 2;have h3:=f6.drew.cell 3;have i0:=f7.drew.cell 0;have i1:=f7.drew.cell 1;have i2:=f7.drew.cell 2;refine bodyPost_ret (v:=.tuple #[.agg #[.int .i64 (1:Int),.int .i64 (a:Int),.int .i64 (E:Int),.bool false],.agg #[.int .i64 (A:Int),(.slice oa n c),.bool false]]) (by simp[results,results67,go_sem,h0,h1,h2,h3,i0,i1,i2]) rfl ?_;exact hst.Jm (t:=⟨1,a,E,false⟩) (y:=⟨A,pd,false⟩) (HM.out.below hst.bl) (λg hg=>by have:=yh.out g hg;omega) ⟨1,rfl⟩ rfl (λg hg=> .inl hg)
theorem znK(hbd:x.body=false)(hbl:∀W,Calls prog 94 #[.string s,.int .i64 (a:Int)] W λe w'=>e=.returned (.int .i64 (a:Int))/\w'=W)(hby:by8 s a=10):
  Calls prog 67 #[.string s,.int .i64 (a:Int),zM x (.slice oa n c)] w λe w'=>VA w (.slice oa n c) ⟨2,a,a+1,false⟩ ⟨0,x.pend,decide (0<n)⟩ e w':=by
 have qG:=hid hbl;clear hbl;have hix:∀hh:a<s.size,(s[a]'hh).toNat=10:=λhh=>by rw[←hby];unfold by8;rw[zT hh]
 clear hby;have hi:¬(a:Int)<(a:Int):=by omega
 have r1:IntKind.i64.wrap ((a:Int)+1)=((a+1:Nat):Int):=by rw[IntWalk.i64_in _ (by omega)];omega
 obtain⟨E,hE⟩:∃E,a+1=E:=⟨_,rfl⟩;rw[hE]at r1 ⊢;clear hE;obtain⟨A,pd,bd⟩:=x;dsimp only at hbd;subst hbd;unfold zM;dsimp only;have hst:=vT.new w (A:Int) (.slice oa n c) false;have q0:(0:Int)<=(a:Int):=by omega
 have q1:(a:Int)<(s.size:Int):=by omega
 have xn:=hst.kb.cell 2;have yH:=hst.kb.cell 1;have HM:=hid hM;have yh:Hid (∀g,(Value.slice oa n c).ownBlock=some g->g<w.heap.size):=hid (λg hg=>VZ hM.src g hg);clear hM;go_enter func67,ntmps67
 go_wp2_with fail
 obtain⟨W,hW⟩:∃X,(((w.alloc (.cells #[.int .i64 (A:Int),.slice oa n c,.bool false] 62)).alloc (.cells #[.int .i64 0,.int .i64 0,.int .i64 0,.bool false] 67)).alloc (.cells #[.int .i64 0,.slice none 0 0,.bool false] 62))=X:=⟨_,rfl⟩;obtain⟨Bx,hBx⟩:∃z,w.heap.size=z:=⟨_,rfl⟩;rw[hW]at hst xn yH ⊢;rw[hBx]at hst xn yH yh ⊢;clear hW hBx;refine(qG.out _).mono ?_;rintro e w1 ⟨rfl,rfl⟩;have a0:=hst.kb.cell 0;have a1:=hst.kb.cell 1;have a2:=hst.kb.cell 2;have t0:=hst.kt.cell 0;have t1:=hst.kt.cell 1;have t2:=hst.kt.cell 2;have t3:=hst.kt.cell 3;have Xl:=hst.kt.frozen 0;have Xm:=hst.kt.frozen 1;have Xn:=hst.kt.frozen 2;have Xo:=hst.kt.frozen 3;have r0:=hst.kr.cell 0;have r1:=hst.kr.cell 1;have r2:=hst.kr.cell 2;have YE:=hst.kr.frozen 0;have YF:=hst.kr.frozen 1;have YG:=hst.kr.frozen 2;go_wp2
 go_region
 go_wp2;obtain⟨f6,f7,_,_⟩:=hst.fin (2:Int) (a:Int) (E:Int) false (0:Int) (.slice oa n c) (decide (0<n));unfold Yt at f6 f7;have h0:=f6.drew.cell 0;have h1:=f6.drew.cell 1;have h2:=f6.drew.cell 2;have h3:=f6.drew.cell 3;have i0:=f7.drew.cell 0;have i1:=f7.drew.cell 1;have i2:=f7.drew.cell 2;refine bodyPost_ret (v:=.tuple #[.agg #[.int .i64 (2:Int),.int .i64 (a:Int),.int .i64 (E:Int),.bool false],.agg #[.int .i64 (0:Int),(.slice oa n c),.bool (decide (0<n))]]) (by simp[results,results67,go_sem,h0,h1,h2,h3,i0,i1,i2]) rfl ?_;exact hst.Jm (t:=⟨2,a,E,false⟩) (y:=⟨0,pd,decide (0<n)⟩) ((HM.out.below hst.bl).same rfl) (λg hg=>by have:=yh.out g hg;omega) ⟨1,rfl⟩ rfl (λg hg=> .inl hg)
theorem znL(hbd:x.body=false)(hbl:∀W,Calls prog 94 #[.string s,.int .i64 (a:Int)] W λe w'=>e=.returned (.int .i64 (a:Int))/\w'=W)(hby:by8 s a=35)(E:Nat)(hE:∀b,a<=b->b<=s.size->(∀i,a<=i->i<b->by8 s i≠10)->(b<s.size->by8 s b=10)->b=E):
  Calls prog 67 #[.string s,.int .i64 (a:Int),zM x (.slice oa n c)] w λe w'=>VA w (.slice oa n c) ⟨3,a,E,false⟩ ⟨0,x.pend,false⟩ e w':=by
 have qG:=hid hbl;clear hbl;have hix:∀hh:a<s.size,(s[a]'hh).toNat=35:=λhh=>by rw[←hby];unfold by8;rw[zT hh]
 clear hby;have hi:¬(a:Int)<(a:Int):=by omega
 have HE:=hid hE;clear hE;obtain⟨A,pd,bd⟩:=x;dsimp only at hbd;subst hbd;unfold zM;dsimp only;have hst:=vT.new w (A:Int) (.slice oa n c) false;have q0:(0:Int)<=(a:Int):=by omega
 have q1:(a:Int)<(s.size:Int):=by omega
 have xn:=hst.kb.cell 2;have yH:=hst.kb.cell 1;have HM:=hid hM;have yh:Hid (∀g,(Value.slice oa n c).ownBlock=some g->g<w.heap.size):=hid (λg hg=>VZ hM.src g hg);clear hM;go_enter func67,ntmps67
 go_wp2_with fail
 obtain⟨W,hW⟩:∃X,(((w.alloc (.cells #[.int .i64 (A:Int),.slice oa n c,.bool false] 62)).alloc (.cells #[.int .i64 0,.int .i64 0,.int .i64 0,.bool false] 67)).alloc (.cells #[.int .i64 0,.slice none 0 0,.bool false] 62))=X:=⟨_,rfl⟩;obtain⟨Bx,hBx⟩:∃z,w.heap.size=z:=⟨_,rfl⟩;rw[hW]at hst xn yH ⊢;rw[hBx]at hst xn yH yh ⊢;clear hW hBx;refine(qG.out _).mono ?_;rintro e w1 ⟨rfl,rfl⟩;have a0:=hst.kb.cell 0;have a1:=hst.kb.cell 1;have a2:=hst.kb.cell 2;have Y0:Bx+3<=w1.heap.size:=by have:=hst.kr.lt;omega
 go_upto_block 0 with fail
 have ky:=zf.new w1 #[.int .i64 0,.slice oa n c,.bool false] 62;have hst2:=hst.below ((wag _ w1).alloc (waa _) (.cells #[.int .i64 0,.slice oa n c,.bool false] 62));obtain⟨W2,hW2⟩:∃X,w1.alloc (.cells #[.int .i64 0,.slice oa n c,.bool false] 62)=X:=⟨_,rfl⟩;obtain⟨By,qp⟩:∃z,w1.heap.size=z:=⟨_,rfl⟩;rw[hW2]at ky hst2 ⊢;rw[qp]at ky Y0 ⊢;clear hW2 qp hst a0 a1 a2 xn yH;obtain⟨hst,hst2⟩:vT w (A:Int) (.slice oa n c) false Bx W2/\True:=⟨hst2,trivial⟩
 go_cut [12]from 80 to 91 (λv12 wx=>v12=.int .i64 (E:Int)/\wx=W2)
 case first=>
  go_wp2
  go_loopw [12] (λv wr=>∃b:Nat,a<=b/\b<=s.size/\v=.int .i64 (b:Int)/\(∀i,a<=i->i<b->by8 s i≠10)/\wr=W2) (λv _=>s.size-(intOf v).toNat)
  case atStart=>exact⟨a,waa _,by omega,rfl,λi h1 h2=>by omega,rfl⟩
  case round=>
   obtain⟨b,hab,hbs,rfl,hin,rfl⟩:=hrel;have xP:=hid hin;clear hin;have u0:(0:Int)<=(b:Int):=by omega
   by_cases hlt:b<s.size
   ·have u1:(b:Int)<(s.size:Int):=by omega
    obtain⟨cc,hcc⟩:∃cc,by8 s b=cc:=⟨_,rfl⟩;have Iw:∀hh:b<s.size,(s[b]'hh).toNat=cc:=λhh=>by rw[←hcc];unfold by8;rw[zT hh]
    have uw:=hid hcc;clear hcc;by_cases h10:cc=10
    ·have sH:b=E:=HE.out b hab hbs xP.out (λ_=>by rw[uw.out];exact h10)
     have Zl:=hid sH;subst h10;clear sH;go_wp2;go_meet;case rel=>exact⟨by rw[Zl.out],rfl⟩
    ·have t10:((cc:Int)!=10)=true:=by rw[bne,beq_eq_false_iff_ne.2 (by omega)];rfl
     have zny:((cc:Int)==10)=false:=beq_eq_false_iff_ne.2 (by omega);go_wp2
     go_roundw
     case rel=>
      refine⟨b+1,by omega,by omega,by go_num,λi h1 h2=>?_,by first|rfl|trivial⟩;by_cases e:i=b
      ·rw[e,uw.out];exact h10
      ·exact xP.out i h1 (by omega)
     case measure=>simp[intOf];omega
   ·have sH:b=E:=HE.out b hab hbs xP.out (λh=>absurd h hlt)
    have Zl:=hid sH;have u1:¬(b:Int)<(s.size:Int):=by omega
    clear sH hlt;go_wp2;go_meet;case rel=>exact⟨by rw[Zl.out],rfl⟩
 case rest=>
  obtain⟨hv,hw⟩:=hcut;subst hv;subst hw;have y0:=ky.cell 0;have y1:=ky.cell 1;have y2:=ky.cell 2;have KR:=ky.frozen 0;have t0:=hst.kt.cell 0;have t1:=hst.kt.cell 1;have t2:=hst.kt.cell 2;have t3:=hst.kt.cell 3;have Xl:=hst.kt.frozen 0;have Xm:=hst.kt.frozen 1;have Xn:=hst.kt.frozen 2;have Xo:=hst.kt.frozen 3;have r0:=hst.kr.cell 0;have r1:=hst.kr.cell 1;have r2:=hst.kr.cell 2;have YE:=hst.kr.frozen 0;have YF:=hst.kr.frozen 1;have YG:=hst.kr.frozen 2;go_wp2
  go_region
  go_wp2;obtain⟨f6,f7,_,_⟩:=hst.fin (3:Int) (a:Int) (E:Int) false (0:Int) (.slice oa n c) false;unfold Yt at f6 f7;have h0:=f6.drew.cell 0;have h1:=f6.drew.cell 1;have h2:=f6.drew.cell 2;have h3:=f6.drew.cell 3;have i0:=f7.drew.cell 0;have i1:=f7.drew.cell 1;have i2:=f7.drew.cell 2;refine bodyPost_ret (v:=.tuple #[.agg #[.int .i64 (3:Int),.int .i64 (a:Int),.int .i64 (E:Int),.bool false],.agg #[.int .i64 (0:Int),(.slice oa n c),.bool false]]) (by simp[results,results67,go_sem,h0,h1,h2,h3,i0,i1,i2]) rfl ?_;exact hst.Jm (t:=⟨3,a,E,false⟩) (y:=⟨0,pd,false⟩) ((HM.out.below hst.bl).same rfl) (λg hg=>by have:=yh.out g hg;omega) ⟨1,rfl⟩ rfl (λg hg=> .inl hg)
theorem znM(hbd:x.body=false)(hbl:∀W,Calls prog 94 #[.string s,.int .i64 (a:Int)] W λe w'=>e=.returned (.int .i64 (a:Int))/\w'=W)(bb:Nat)(hby:by8 s a=bb)(Ry:bb≠10)(sJ:bb≠35)(hat:∀W,Calls prog 95 #[.string s,.int .i64 (a:Int)] W λe w'=>e=.returned (.int .i64 (4:Int))/\w'=W)(T:ByteArray)(hT:T.size<=3)(htx:∀W,Calls prog 51 #[.int .i64 (4:Int)] W λe w'=>e=.returned (.string T)/\w'=W):
  Calls prog 67 #[.string s,.int .i64 (a:Int),zM x (.slice oa n c)] w λe w'=>VA w (.slice oa n c) ⟨4,a,a+T.size,false⟩ ⟨4,x.pend,false⟩ e w':=by
 have qG:=hid hbl;clear hbl;have hix:∀hh:a<s.size,(s[a]'hh).toNat=bb:=λhh=>by rw[←hby];unfold by8;rw[zT hh]
 have sK:((bb:Int)==10)=false:=beq_eq_false_iff_ne.2 (by omega);have tb2:((bb:Int)==35)=false:=beq_eq_false_iff_ne.2 (by omega);clear hby;have hi:¬(a:Int)<(a:Int):=by omega
 have HAT:=hid hat
 have Vp:=hid htx;obtain⟨E,hE⟩:∃E,a+T.size=E:=⟨_,rfl⟩;have r1:IntKind.i64.wrap ((a:Int)+(T.size:Int))=(E:Int):=by rw[IntWalk.i64_in _ (by omega)];omega
 rw[hE];clear hat htx hE;obtain⟨A,pd,bd⟩:=x;dsimp only at hbd;subst hbd;unfold zM;dsimp only;have hst:=vT.new w (A:Int) (.slice oa n c) false;have q0:(0:Int)<=(a:Int):=by omega
 have q1:(a:Int)<(s.size:Int):=by omega
 have xn:=hst.kb.cell 2;have yH:=hst.kb.cell 1;have HM:=hid hM;have yh:Hid (∀g,(Value.slice oa n c).ownBlock=some g->g<w.heap.size):=hid (λg hg=>VZ hM.src g hg);clear hM;go_enter func67,ntmps67
 go_wp2_with fail
 obtain⟨W,hW⟩:∃X,(((w.alloc (.cells #[.int .i64 (A:Int),.slice oa n c,.bool false] 62)).alloc (.cells #[.int .i64 0,.int .i64 0,.int .i64 0,.bool false] 67)).alloc (.cells #[.int .i64 0,.slice none 0 0,.bool false] 62))=X:=⟨_,rfl⟩;obtain⟨Bx,hBx⟩:∃z,w.heap.size=z:=⟨_,rfl⟩;rw[hW]at hst xn yH ⊢;rw[hBx]at hst xn yH yh ⊢;clear hW hBx;refine(qG.out _).mono ?_;rintro e w1 ⟨rfl,rfl⟩;have a0:=hst.kb.cell 0;have a1:=hst.kb.cell 1;have a2:=hst.kb.cell 2;have Y0:Bx+3<=w1.heap.size:=by have:=hst.kr.lt;omega
 go_wp2_with fail
 have ky:=zf.new w1 #[.int .i64 0,.slice oa n c,.bool false] 62;have hst2:=hst.below ((wag _ w1).alloc (waa _) (.cells #[.int .i64 0,.slice oa n c,.bool false] 62));obtain⟨W2,hW2⟩:∃X,w1.alloc (.cells #[.int .i64 0,.slice oa n c,.bool false] 62)=X:=⟨_,rfl⟩;obtain⟨By,qp⟩:∃z,w1.heap.size=z:=⟨_,rfl⟩;rw[hW2]at ky hst2 ⊢;rw[qp]at ky Y0 ⊢;clear hW2 qp hst a0 a1 a2 xn yH;obtain⟨hst,hst2⟩:vT w (A:Int) (.slice oa n c) false Bx W2/\True:=⟨hst2,trivial⟩;refine(HAT.out _).mono ?_;rintro e w2 ⟨rfl,rfl⟩;have y0:=ky.cell 0;have y1:=ky.cell 1;have y2:=ky.cell 2;have KR:=ky.frozen 0
 go_upto_region 21 with fail
 have QC:=ky.set 0 (.int .i64 4);have hst3:vT w (A:Int) (.slice oa n c) false Bx (w2.setCell ⟨By,0,none⟩ (.int .i64 4)):=⟨hst.kb.other 0 _ (by omega),hst.kt.other 0 _ (by omega),hst.kr.other 0 _ (by omega),hst.bl.setCell (p:=⟨By,0,none⟩) (by have:=hst.bx;show w.heap.size<=By;omega) _,hst.bx⟩;obtain⟨W3,hW3⟩:∃X,w2.setCell ⟨By,0,none⟩ (.int .i64 4)=X:=⟨_,rfl⟩;rw[hW3]at QC hst3 ⊢;clear hW3 hst ky y0 y1 y2 KR;obtain⟨hst,hst3⟩:vT w (A:Int) (.slice oa n c) false Bx W3/\True:=⟨hst3,trivial⟩;have ky:zf W3 By #[.int .i64 4,.slice oa n c,.bool false] 62:=QC;clear QC;have y0:=ky.cell 0;have y1:=ky.cell 1;have y2:=ky.cell 2;have KR:=ky.frozen 0;have t0:=hst.kt.cell 0;have t1:=hst.kt.cell 1;have t2:=hst.kt.cell 2;have t3:=hst.kt.cell 3;have Xl:=hst.kt.frozen 0;have Xm:=hst.kt.frozen 1;have Xn:=hst.kt.frozen 2;have Xo:=hst.kt.frozen 3;have r0:=hst.kr.cell 0;have r1:=hst.kr.cell 1;have r2:=hst.kr.cell 2;have YE:=hst.kr.frozen 0;have YF:=hst.kr.frozen 1;have YG:=hst.kr.frozen 2
 go_region_with (go_at_call 51;refine(Vp.out _).mono ?_;rintro e w4 ⟨rfl,rfl⟩)
 all_goals
  go_wp2;obtain⟨f6,f7,_,_⟩:=hst.fin (4:Int) (a:Int) (E:Int) false (4:Int) (.slice oa n c) false;unfold Yt at f6 f7;have h0:=f6.drew.cell 0;have h1:=f6.drew.cell 1;have h2:=f6.drew.cell 2;have h3:=f6.drew.cell 3;have i0:=f7.drew.cell 0;have i1:=f7.drew.cell 1;have i2:=f7.drew.cell 2;refine bodyPost_ret (v:=.tuple #[.agg #[.int .i64 (4:Int),.int .i64 (a:Int),.int .i64 (E:Int),.bool false],.agg #[.int .i64 (4:Int),(.slice oa n c),.bool false]]) (by simp[results,results67,go_sem,h0,h1,h2,h3,i0,i1,i2]) rfl ?_;exact hst.Jm (t:=⟨4,a,E,false⟩) (y:=⟨4,pd,false⟩) ((HM.out.below hst.bl).same rfl) (λg hg=>by have:=yh.out g hg;omega) ⟨1,rfl⟩ rfl (λg hg=> .inl hg)
theorem znN(hbd:x.body=false)(hbl:∀W,Calls prog 94 #[.string s,.int .i64 (a:Int)] W λe w'=>e=.returned (.int .i64 (a:Int))/\w'=W)(bb:Nat)(hby:by8 s a=bb)(Ry:bb≠10)(sJ:bb≠35)(hat:∀W,Calls prog 95 #[.string s,.int .i64 (a:Int)] W λe w'=>e=.returned (.int .i64 (5:Int))/\w'=W)(T:ByteArray)(hT:T.size<=3)(htx:∀W,Calls prog 51 #[.int .i64 (5:Int)] W λe w'=>e=.returned (.string T)/\w'=W):
  Calls prog 67 #[.string s,.int .i64 (a:Int),zM x (.slice oa n c)] w λe w'=>VA w (.slice oa n c) ⟨4,a,a+T.size,false⟩ ⟨5,x.pend,false⟩ e w':=by
 have qG:=hid hbl;clear hbl;have hix:∀hh:a<s.size,(s[a]'hh).toNat=bb:=λhh=>by rw[←hby];unfold by8;rw[zT hh]
 have sK:((bb:Int)==10)=false:=beq_eq_false_iff_ne.2 (by omega);have tb2:((bb:Int)==35)=false:=beq_eq_false_iff_ne.2 (by omega);clear hby;have hi:¬(a:Int)<(a:Int):=by omega
 have HAT:=hid hat
 have Vp:=hid htx;obtain⟨E,hE⟩:∃E,a+T.size=E:=⟨_,rfl⟩;have r1:IntKind.i64.wrap ((a:Int)+(T.size:Int))=(E:Int):=by rw[IntWalk.i64_in _ (by omega)];omega
 rw[hE];clear hat htx hE;obtain⟨A,pd,bd⟩:=x;dsimp only at hbd;subst hbd;unfold zM;dsimp only;have hst:=vT.new w (A:Int) (.slice oa n c) false;have q0:(0:Int)<=(a:Int):=by omega
 have q1:(a:Int)<(s.size:Int):=by omega
 have xn:=hst.kb.cell 2;have yH:=hst.kb.cell 1;have HM:=hid hM;have yh:Hid (∀g,(Value.slice oa n c).ownBlock=some g->g<w.heap.size):=hid (λg hg=>VZ hM.src g hg);clear hM;go_enter func67,ntmps67
 go_wp2_with fail
 obtain⟨W,hW⟩:∃X,(((w.alloc (.cells #[.int .i64 (A:Int),.slice oa n c,.bool false] 62)).alloc (.cells #[.int .i64 0,.int .i64 0,.int .i64 0,.bool false] 67)).alloc (.cells #[.int .i64 0,.slice none 0 0,.bool false] 62))=X:=⟨_,rfl⟩;obtain⟨Bx,hBx⟩:∃z,w.heap.size=z:=⟨_,rfl⟩;rw[hW]at hst xn yH ⊢;rw[hBx]at hst xn yH yh ⊢;clear hW hBx;refine(qG.out _).mono ?_;rintro e w1 ⟨rfl,rfl⟩;have a0:=hst.kb.cell 0;have a1:=hst.kb.cell 1;have a2:=hst.kb.cell 2;have Y0:Bx+3<=w1.heap.size:=by have:=hst.kr.lt;omega
 go_wp2_with fail
 have ky:=zf.new w1 #[.int .i64 0,.slice oa n c,.bool false] 62;have hst2:=hst.below ((wag _ w1).alloc (waa _) (.cells #[.int .i64 0,.slice oa n c,.bool false] 62));obtain⟨W2,hW2⟩:∃X,w1.alloc (.cells #[.int .i64 0,.slice oa n c,.bool false] 62)=X:=⟨_,rfl⟩;obtain⟨By,qp⟩:∃z,w1.heap.size=z:=⟨_,rfl⟩;rw[hW2]at ky hst2 ⊢;rw[qp]at ky Y0 ⊢;clear hW2 qp hst a0 a1 a2 xn yH;obtain⟨hst,hst2⟩:vT w (A:Int) (.slice oa n c) false Bx W2/\True:=⟨hst2,trivial⟩;refine(HAT.out _).mono ?_;rintro e w2 ⟨rfl,rfl⟩;have y0:=ky.cell 0;have y1:=ky.cell 1;have y2:=ky.cell 2;have KR:=ky.frozen 0
 go_upto_region 21 with fail
 have QC:=ky.set 0 (.int .i64 5);have hst3:vT w (A:Int) (.slice oa n c) false Bx (w2.setCell ⟨By,0,none⟩ (.int .i64 5)):=⟨hst.kb.other 0 _ (by omega),hst.kt.other 0 _ (by omega),hst.kr.other 0 _ (by omega),hst.bl.setCell (p:=⟨By,0,none⟩) (by have:=hst.bx;show w.heap.size<=By;omega) _,hst.bx⟩;obtain⟨W3,hW3⟩:∃X,w2.setCell ⟨By,0,none⟩ (.int .i64 5)=X:=⟨_,rfl⟩;rw[hW3]at QC hst3 ⊢;clear hW3 hst ky y0 y1 y2 KR;obtain⟨hst,hst3⟩:vT w (A:Int) (.slice oa n c) false Bx W3/\True:=⟨hst3,trivial⟩;have ky:zf W3 By #[.int .i64 5,.slice oa n c,.bool false] 62:=QC;clear QC;have y0:=ky.cell 0;have y1:=ky.cell 1;have y2:=ky.cell 2;have KR:=ky.frozen 0;have t0:=hst.kt.cell 0;have t1:=hst.kt.cell 1;have t2:=hst.kt.cell 2;have t3:=hst.kt.cell 3;have Xl:=hst.kt.frozen 0;have Xm:=hst.kt.frozen 1;have Xn:=hst.kt.frozen 2;have Xo:=hst.kt.frozen 3;have r0:=hst.kr.cell 0;have r1:=hst.kr.cell 1;have r2:=hst.kr.cell 2;have YE:=hst.kr.frozen 0;have YF:=hst.kr.frozen 1;have YG:=hst.kr.frozen 2
 go_region_with (go_at_call 51;refine(Vp.out _).mono ?_;rintro e w4 ⟨rfl,rfl⟩)
 all_goals
  go_wp2;obtain⟨f6,f7,_,_⟩:=hst.fin (4:Int) (a:Int) (E:Int) false (5:Int) (.slice oa n c) false;unfold Yt at f6 f7;have h0:=f6.drew.cell 0;have h1:=f6.drew.cell 1;have h2:=f6.drew.cell 2;have h3:=f6.drew.cell 3;have i0:=f7.drew.cell 0;have i1:=f7.drew.cell 1;have i2:=f7.drew.cell 2;refine bodyPost_ret (v:=.tuple #[.agg #[.int .i64 (4:Int),.int .i64 (a:Int),.int .i64 (E:Int),.bool false],.agg #[.int .i64 (5:Int),(.slice oa n c),.bool false]]) (by simp[results,results67,go_sem,h0,h1,h2,h3,i0,i1,i2]) rfl ?_;exact hst.Jm (t:=⟨4,a,E,false⟩) (y:=⟨5,pd,false⟩) ((HM.out.below hst.bl).same rfl) (λg hg=>by have:=yh.out g hg;omega) ⟨1,rfl⟩ rfl (λg hg=> .inl hg)
theorem znO(hbd:x.body=false)(hbl:∀W,Calls prog 94 #[.string s,.int .i64 (a:Int)] W λe w'=>e=.returned (.int .i64 (a:Int))/\w'=W)(bb:Nat)(hby:by8 s a=bb)(Ry:bb≠10)(sJ:bb≠35)(o:Nat)(ho0:0<o)(Iy:o≠4)(ho5:o≠5)(hat:∀W,Calls prog 95 #[.string s,.int .i64 (a:Int)] W λe w'=>e=.returned (.int .i64 (o:Int))/\w'=W)(T:ByteArray)(hT:T.size<=3)(htx:∀W,Calls prog 51 #[.int .i64 (o:Int)] W λe w'=>e=.returned (.string T)/\w'=W):
  Calls prog 67 #[.string s,.int .i64 (a:Int),zM x (.slice oa n c)] w λe w'=>VA w (.slice oa n c) ⟨4,a,a+T.size,false⟩ ⟨0,x.pend,false⟩ e w':=by
 have qG:=hid hbl;clear hbl;have hix:∀hh:a<s.size,(s[a]'hh).toNat=bb:=λhh=>by rw[←hby];unfold by8;rw[zT hh]
 have sK:((bb:Int)==10)=false:=beq_eq_false_iff_ne.2 (by omega);have tb2:((bb:Int)==35)=false:=beq_eq_false_iff_ne.2 (by omega);clear hby;have hi:¬(a:Int)<(a:Int):=by omega
 have HAT:=hid hat
 have Vp:=hid htx;obtain⟨E,hE⟩:∃E,a+T.size=E:=⟨_,rfl⟩;have r1:IntKind.i64.wrap ((a:Int)+(T.size:Int))=(E:Int):=by rw[IntWalk.i64_in _ (by omega)];omega
 rw[hE];clear hat htx hE;have to0:(0:Int)<(o:Int):=by omega
 have to4:((o:Int)==4)=false:=beq_eq_false_iff_ne.2 (by omega);have to5:((o:Int)==5)=false:=beq_eq_false_iff_ne.2 (by omega);obtain⟨A,pd,bd⟩:=x;dsimp only at hbd;subst hbd;unfold zM;dsimp only;have hst:=vT.new w (A:Int) (.slice oa n c) false;have q0:(0:Int)<=(a:Int):=by omega
 have q1:(a:Int)<(s.size:Int):=by omega
 have xn:=hst.kb.cell 2;have yH:=hst.kb.cell 1;have HM:=hid hM;have yh:Hid (∀g,(Value.slice oa n c).ownBlock=some g->g<w.heap.size):=hid (λg hg=>VZ hM.src g hg);clear hM;go_enter func67,ntmps67
 go_wp2_with fail
 obtain⟨W,hW⟩:∃X,(((w.alloc (.cells #[.int .i64 (A:Int),.slice oa n c,.bool false] 62)).alloc (.cells #[.int .i64 0,.int .i64 0,.int .i64 0,.bool false] 67)).alloc (.cells #[.int .i64 0,.slice none 0 0,.bool false] 62))=X:=⟨_,rfl⟩;obtain⟨Bx,hBx⟩:∃z,w.heap.size=z:=⟨_,rfl⟩;rw[hW]at hst xn yH ⊢;rw[hBx]at hst xn yH yh ⊢;clear hW hBx;refine(qG.out _).mono ?_;rintro e w1 ⟨rfl,rfl⟩;have a0:=hst.kb.cell 0;have a1:=hst.kb.cell 1;have a2:=hst.kb.cell 2;have Y0:Bx+3<=w1.heap.size:=by have:=hst.kr.lt;omega
 go_wp2_with fail
 have ky:=zf.new w1 #[.int .i64 0,.slice oa n c,.bool false] 62;have hst2:=hst.below ((wag _ w1).alloc (waa _) (.cells #[.int .i64 0,.slice oa n c,.bool false] 62));obtain⟨W2,hW2⟩:∃X,w1.alloc (.cells #[.int .i64 0,.slice oa n c,.bool false] 62)=X:=⟨_,rfl⟩;obtain⟨By,qp⟩:∃z,w1.heap.size=z:=⟨_,rfl⟩;rw[hW2]at ky hst2 ⊢;rw[qp]at ky Y0 ⊢;clear hW2 qp hst a0 a1 a2 xn yH;obtain⟨hst,hst2⟩:vT w (A:Int) (.slice oa n c) false Bx W2/\True:=⟨hst2,trivial⟩;refine(HAT.out _).mono ?_;rintro e w2 ⟨rfl,rfl⟩;have y0:=ky.cell 0;have y1:=ky.cell 1;have y2:=ky.cell 2;have KR:=ky.frozen 0
 go_upto_region 21 with fail
 have t0:=hst.kt.cell 0;have t1:=hst.kt.cell 1;have t2:=hst.kt.cell 2;have t3:=hst.kt.cell 3;have Xl:=hst.kt.frozen 0;have Xm:=hst.kt.frozen 1;have Xn:=hst.kt.frozen 2;have Xo:=hst.kt.frozen 3;have r0:=hst.kr.cell 0;have r1:=hst.kr.cell 1;have r2:=hst.kr.cell 2;have YE:=hst.kr.frozen 0;have YF:=hst.kr.frozen 1;have YG:=hst.kr.frozen 2
 go_region_with (go_at_call 51;refine(Vp.out _).mono ?_;rintro e w4 ⟨rfl,rfl⟩)
 all_goals
  go_wp2;obtain⟨f6,f7,_,_⟩:=hst.fin (4:Int) (a:Int) (E:Int) false (0:Int) (.slice oa n c) false;unfold Yt at f6 f7;have h0:=f6.drew.cell 0;have h1:=f6.drew.cell 1;have h2:=f6.drew.cell 2;have h3:=f6.drew.cell 3;have i0:=f7.drew.cell 0;have i1:=f7.drew.cell 1;have i2:=f7.drew.cell 2;refine bodyPost_ret (v:=.tuple #[.agg #[.int .i64 (4:Int),.int .i64 (a:Int),.int .i64 (E:Int),.bool false],.agg #[.int .i64 (0:Int),(.slice oa n c),.bool false]]) (by simp[results,results67,go_sem,h0,h1,h2,h3,i0,i1,i2]) rfl ?_;exact hst.Jm (t:=⟨4,a,E,false⟩) (y:=⟨0,pd,false⟩) ((HM.out.below hst.bl).same rfl) (λg hg=>by have:=yh.out g hg;omega) ⟨1,rfl⟩ rfl (λg hg=> .inl hg)
theorem znP(hbd:x.body=false)(hbl:∀W,Calls prog 94 #[.string s,.int .i64 (a:Int)] W λe w'=>e=.returned (.int .i64 (a:Int))/\w'=W)(bb:Nat)(hby:by8 s a=bb)(Ry:bb≠10)(sJ:bb≠35)(hat:∀W,Calls prog 95 #[.string s,.int .i64 (a:Int)] W λe w'=>e=.returned (.int .i64 (0:Int))/\w'=W)(R:Nat)(hRa:a<=R)(hRs:R<=s.size)(hR:∀b,a<=b->b<=s.size->(∀i,a<=i->i<b->cls (by8 s i)=6)->(b<s.size->cls (by8 s b)≠6)->b=R)(h1:a<R)(h2:R<s.size)(b2:Nat)(hb2:by8 s R=b2)(h3:b2=60\/b2=62):
  Calls prog 67 #[.string s,.int .i64 (a:Int),zM x (.slice oa n c)] w λe w'=>VA w (.slice oa n c) ⟨5,a,R,false⟩ ⟨0,x.pend,false⟩ e w':=by
 have qG:=hid hbl;clear hbl;have hix:∀hh:a<s.size,(s[a]'hh).toNat=bb:=λhh=>by rw[←hby];unfold by8;rw[zT hh]
 have sK:((bb:Int)==10)=false:=beq_eq_false_iff_ne.2 (by omega);have tb2:((bb:Int)==35)=false:=beq_eq_false_iff_ne.2 (by omega);clear hby;have hi:¬(a:Int)<(a:Int):=by omega
 have HAT:=hid hat
 have HR:=hid hR;clear hat hR;have p1:(a:Int)<=(R:Int):=by omega
 have zdt:∀hh:R<s.size,(s[R]'hh).toNat=b2:=λhh=>by rw[←hb2];unfold by8;rw[zT hh]
 clear hb2;have p2:(a:Int)<(R:Int):=by omega
 have p3:(R:Int)<(s.size:Int):=by omega
 have p4:(0:Int)<=(R:Int):=by omega
 obtain⟨A,pd,bd⟩:=x;dsimp only at hbd;subst hbd;unfold zM;dsimp only;have hst:=vT.new w (A:Int) (.slice oa n c) false;have q0:(0:Int)<=(a:Int):=by omega
 have q1:(a:Int)<(s.size:Int):=by omega
 have xn:=hst.kb.cell 2;have yH:=hst.kb.cell 1;have HM:=hid hM;have yh:Hid (∀g,(Value.slice oa n c).ownBlock=some g->g<w.heap.size):=hid (λg hg=>VZ hM.src g hg);clear hM;go_enter func67,ntmps67
 go_wp2_with fail
 obtain⟨W,hW⟩:∃X,(((w.alloc (.cells #[.int .i64 (A:Int),.slice oa n c,.bool false] 62)).alloc (.cells #[.int .i64 0,.int .i64 0,.int .i64 0,.bool false] 67)).alloc (.cells #[.int .i64 0,.slice none 0 0,.bool false] 62))=X:=⟨_,rfl⟩;obtain⟨Bx,hBx⟩:∃z,w.heap.size=z:=⟨_,rfl⟩;rw[hW]at hst xn yH ⊢;rw[hBx]at hst xn yH yh ⊢;clear hW hBx;refine(qG.out _).mono ?_;rintro e w1 ⟨rfl,rfl⟩;have a0:=hst.kb.cell 0;have a1:=hst.kb.cell 1;have a2:=hst.kb.cell 2;have Y0:Bx+3<=w1.heap.size:=by have:=hst.kr.lt;omega
 go_wp2_with fail
 have ky:=zf.new w1 #[.int .i64 0,.slice oa n c,.bool false] 62;have hst2:=hst.below ((wag _ w1).alloc (waa _) (.cells #[.int .i64 0,.slice oa n c,.bool false] 62));obtain⟨W2,hW2⟩:∃X,w1.alloc (.cells #[.int .i64 0,.slice oa n c,.bool false] 62)=X:=⟨_,rfl⟩;obtain⟨By,qp⟩:∃z,w1.heap.size=z:=⟨_,rfl⟩;rw[hW2]at ky hst2 ⊢;rw[qp]at ky Y0 ⊢;clear hW2 qp hst a0 a1 a2 xn yH;obtain⟨hst,hst2⟩:vT w (A:Int) (.slice oa n c) false Bx W2/\True:=⟨hst2,trivial⟩;refine(HAT.out _).mono ?_;rintro e w2 ⟨rfl,rfl⟩
 go_upto_block 2 with fail
 go_cut [14]from 118 to 130 (λv14 wx=>v14=.int .i64 (R:Int)/\wx=w2)
 case first=>
  go_wp2
  go_loopw [14] (λv wr=>∃b:Nat,a<=b/\b<=s.size/\v=.int .i64 (b:Int)/\(∀i,a<=i->i<b->cls (by8 s i)=6)/\wr=w2) (λv _=>s.size-(intOf v).toNat)
  case atStart=>exact⟨a,waa _,by omega,rfl,λi h1 h2=>by omega,rfl⟩
  case round=>
   obtain⟨b,hab,hbs,rfl,hin,rfl⟩:=hrel;have xP:=hid hin;clear hin;have u0:(0:Int)<=(b:Int):=by omega
   by_cases hlt:b<s.size
   ·have u1:(b:Int)<(s.size:Int):=by omega
    obtain⟨cc,hcc⟩:∃cc,by8 s b=cc:=⟨_,rfl⟩;have Iw:∀hh:b<s.size,(s[b]'hh).toNat=cc:=λhh=>by rw[←hcc];unfold by8;rw[zT hh]
    obtain⟨k6,hk6⟩:∃k6,cls cc=k6:=⟨_,rfl⟩;have hca:=λW=>lS cc W;rw[hk6]at hca;have XW:=hid hca;have uw:=hid hcc;have WU:=hid hk6;clear hcc hk6 hca;by_cases h6:k6=6
    ·have H6:Hid (cls cc=6):=hid (WU.out.trans h6)
     subst h6
     go_wp2_with fail
     refine(XW.out _).mono ?_;rintro e w5 ⟨rfl,rfl⟩;go_wp2
     go_roundw
     case rel=>
      refine⟨b+1,by omega,by omega,by go_num,λi h1 h2=>?_,by first|rfl|trivial⟩;by_cases e:i=b
      ·rw[e,uw.out];exact H6.out
      ·exact xP.out i h1 (by omega)
     case measure=>simp[intOf];omega
    ·have t6:((k6:Int)==6)=false:=beq_eq_false_iff_ne.2 (by omega)
     have hbR:b=R:=HR.out b hab hbs xP.out (λ_=>by rw[uw.out,WU.out];exact h6);have qE:=hid hbR;clear hbR h6
     go_wp2_with fail
     refine(XW.out _).mono ?_;rintro e w5 ⟨rfl,rfl⟩;go_wp2;go_meet;case rel=>exact⟨by rw[qE.out],by first|rfl|trivial⟩
   ·have hbR:b=R:=HR.out b hab hbs xP.out (λh=>absurd h hlt)
    have qE:=hid hbR;have u1:¬(b:Int)<(s.size:Int):=by omega
    clear hbR hlt;go_wp2;go_meet;case rel=>exact⟨by rw[qE.out],by first|rfl|trivial⟩
 case rest=>
  obtain⟨hv,hw⟩:=hcut;subst hv;subst hw;have y0:=ky.cell 0;have y1:=ky.cell 1;have y2:=ky.cell 2;have KR:=ky.frozen 0;have t0:=hst.kt.cell 0;have t1:=hst.kt.cell 1;have t2:=hst.kt.cell 2;have t3:=hst.kt.cell 3;have Xl:=hst.kt.frozen 0;have Xm:=hst.kt.frozen 1;have Xn:=hst.kt.frozen 2;have Xo:=hst.kt.frozen 3;have r0:=hst.kr.cell 0;have r1:=hst.kr.cell 1;have r2:=hst.kr.cell 2;have YE:=hst.kr.frozen 0;have YF:=hst.kr.frozen 1;have YG:=hst.kr.frozen 2;rcases h3 with rfl|rfl
  all_goals
   go_wp2
   go_region
   go_wp2;obtain⟨f6,f7,_,_⟩:=hst.fin (5:Int) (a:Int) (R:Int) false (0:Int) (.slice oa n c) false;unfold Yt at f6 f7;have h0:=f6.drew.cell 0;have h1:=f6.drew.cell 1;have h2:=f6.drew.cell 2;have h3:=f6.drew.cell 3;have i0:=f7.drew.cell 0;have i1:=f7.drew.cell 1;have i2:=f7.drew.cell 2;refine bodyPost_ret (v:=.tuple #[.agg #[.int .i64 (5:Int),.int .i64 (a:Int),.int .i64 (R:Int),.bool false],.agg #[.int .i64 (0:Int),(.slice oa n c),.bool false]]) (by simp[results,results67,go_sem,h0,h1,h2,h3,i0,i1,i2]) rfl ?_;exact hst.Jm (t:=⟨5,a,R,false⟩) (y:=⟨0,pd,false⟩) ((HM.out.below hst.bl).same rfl) (λg hg=>by have:=yh.out g hg;omega) ⟨1,rfl⟩ rfl (λg hg=> .inl hg)
theorem znQ(hbd:x.body=false)(hA0:x.await=0)(hbl:∀W,Calls prog 94 #[.string s,.int .i64 (a:Int)] W λe w'=>e=.returned (.int .i64 (a:Int))/\w'=W)(bb:Nat)(hby:by8 s a=bb)(Ry:bb≠10)(sJ:bb≠35)(hat:∀W,Calls prog 95 #[.string s,.int .i64 (a:Int)] W λe w'=>e=.returned (.int .i64 (0:Int))/\w'=W)(R:Nat)(hRa:a<=R)(hRs:R<=s.size)(hR:∀b,a<=b->b<=s.size->(∀i,a<=i->i<b->cls (by8 s i)=6)->(b<s.size->cls (by8 s b)≠6)->b=R)(hnum:a<R->R<s.size->by8 s R≠60/\by8 s R≠62)(E:Nat)(hE1:a<E)(hE2:E<=s.size)(op:Bool)(hend:∀W,Calls prog 96 #[.string s,.int .i64 (a:Int)] W λe w'=>e=.returned (.int .i64 (E:Int))/\Below W.heap.size W w')(hshut:∀W,Calls prog 98 #[.string (s.extract a E)] W λe w'=>e=.returned (.bool (!op))/\Below W.heap.size W w'):
  Calls prog 67 #[.string s,.int .i64 (a:Int),zM x (.slice oa n c)] w λe w'=>VA w (.slice oa n c) ⟨6,a,E,op⟩ ⟨0,x.pend,false⟩ e w':=by
 have qG:=hid hbl;clear hbl;have hix:∀hh:a<s.size,(s[a]'hh).toNat=bb:=λhh=>by rw[←hby];unfold by8;rw[zT hh]
 have sK:((bb:Int)==10)=false:=beq_eq_false_iff_ne.2 (by omega);have tb2:((bb:Int)==35)=false:=beq_eq_false_iff_ne.2 (by omega);clear hby;have hi:¬(a:Int)<(a:Int):=by omega
 have HAT:=hid hat
 have HR:=hid hR;clear hat hR;have p1:(a:Int)<=(R:Int):=by omega
 have GK:=hid hend;have Iz:=hid hnum;have hsh:∀W:World,Calls prog 98 #[.string (s.extract a E)] W λe w'=>∃v,e=.returned v/\(v=.bool (!op)/\Below W.heap.size W w'):=λW=>(hshut W).mono (λe w' h=>⟨_,h.1,rfl,h.2⟩);have QS:=hid hsh;have u0:(a:Int)<=(E:Int):=by omega
 have u1:(E:Int)<=(s.size:Int):=by omega
 obtain⟨X,hX⟩:∃X,s.extract a E=X:=⟨_,rfl⟩;rw[hX]at QS;have mG:=hid hX;clear hend hnum hshut hsh;have Px:=hid hA0;clear hA0;obtain⟨A,pd,bd⟩:=x;dsimp only at hbd;subst hbd;unfold zM;dsimp only;have hst:=vT.new w (A:Int) (.slice oa n c) false;have q0:(0:Int)<=(a:Int):=by omega
 have q1:(a:Int)<(s.size:Int):=by omega
 have xn:=hst.kb.cell 2;have yH:=hst.kb.cell 1;have HM:=hid hM;have yh:Hid (∀g,(Value.slice oa n c).ownBlock=some g->g<w.heap.size):=hid (λg hg=>VZ hM.src g hg);clear hM;go_enter func67,ntmps67
 go_wp2_with fail
 obtain⟨W,hW⟩:∃X,(((w.alloc (.cells #[.int .i64 (A:Int),.slice oa n c,.bool false] 62)).alloc (.cells #[.int .i64 0,.int .i64 0,.int .i64 0,.bool false] 67)).alloc (.cells #[.int .i64 0,.slice none 0 0,.bool false] 62))=X:=⟨_,rfl⟩;obtain⟨Bx,hBx⟩:∃z,w.heap.size=z:=⟨_,rfl⟩;rw[hW]at hst xn yH ⊢;rw[hBx]at hst xn yH yh ⊢;clear hW hBx;refine(qG.out _).mono ?_;rintro e w1 ⟨rfl,rfl⟩;have a0:=hst.kb.cell 0;have a1:=hst.kb.cell 1;have a2:=hst.kb.cell 2;have Y0:Bx+3<=w1.heap.size:=by have:=hst.kr.lt;omega
 go_wp2_with fail
 have ky:=zf.new w1 #[.int .i64 0,.slice oa n c,.bool false] 62;have hst2:=hst.below ((wag _ w1).alloc (waa _) (.cells #[.int .i64 0,.slice oa n c,.bool false] 62));obtain⟨W2,hW2⟩:∃X,w1.alloc (.cells #[.int .i64 0,.slice oa n c,.bool false] 62)=X:=⟨_,rfl⟩;obtain⟨By,qp⟩:∃z,w1.heap.size=z:=⟨_,rfl⟩;rw[hW2]at ky hst2 ⊢;rw[qp]at ky Y0 ⊢;clear hW2 qp hst a0 a1 a2 xn yH;obtain⟨hst,hst2⟩:vT w (A:Int) (.slice oa n c) false Bx W2/\True:=⟨hst2,trivial⟩;refine(HAT.out _).mono ?_;rintro e w2 ⟨rfl,rfl⟩
 go_upto_block 2 with fail
 go_cut [14]from 118 to 130 (λv14 wx=>v14=.int .i64 (R:Int)/\wx=w2)
 case first=>
  go_wp2
  go_loopw [14] (λv wr=>∃b:Nat,a<=b/\b<=s.size/\v=.int .i64 (b:Int)/\(∀i,a<=i->i<b->cls (by8 s i)=6)/\wr=w2) (λv _=>s.size-(intOf v).toNat)
  case atStart=>exact⟨a,waa _,by omega,rfl,λi h1 h2=>by omega,rfl⟩
  case round=>
   obtain⟨b,hab,hbs,rfl,hin,rfl⟩:=hrel;have xP:=hid hin;clear hin;have u0:(0:Int)<=(b:Int):=by omega
   by_cases hlt:b<s.size
   ·have u1:(b:Int)<(s.size:Int):=by omega
    obtain⟨cc,hcc⟩:∃cc,by8 s b=cc:=⟨_,rfl⟩;have Iw:∀hh:b<s.size,(s[b]'hh).toNat=cc:=λhh=>by rw[←hcc];unfold by8;rw[zT hh]
    obtain⟨k6,hk6⟩:∃k6,cls cc=k6:=⟨_,rfl⟩;have hca:=λW=>lS cc W;rw[hk6]at hca;have XW:=hid hca;have uw:=hid hcc;have WU:=hid hk6;clear hcc hk6 hca;by_cases h6:k6=6
    ·have H6:Hid (cls cc=6):=hid (WU.out.trans h6)
     subst h6
     go_wp2_with fail
     refine(XW.out _).mono ?_;rintro e w5 ⟨rfl,rfl⟩;go_wp2
     go_roundw
     case rel=>
      refine⟨b+1,by omega,by omega,by go_num,λi h1 h2=>?_,by first|rfl|trivial⟩;by_cases e:i=b
      ·rw[e,uw.out];exact H6.out
      ·exact xP.out i h1 (by omega)
     case measure=>simp[intOf];omega
    ·have t6:((k6:Int)==6)=false:=beq_eq_false_iff_ne.2 (by omega)
     have hbR:b=R:=HR.out b hab hbs xP.out (λ_=>by rw[uw.out,WU.out];exact h6);have qE:=hid hbR;clear hbR h6
     go_wp2_with fail
     refine(XW.out _).mono ?_;rintro e w5 ⟨rfl,rfl⟩;go_wp2;go_meet;case rel=>exact⟨by rw[qE.out],by first|rfl|trivial⟩
   ·have hbR:b=R:=HR.out b hab hbs xP.out (λh=>absurd h hlt)
    have qE:=hid hbR;have u1:¬(b:Int)<(s.size:Int):=by omega
    clear hbR hlt;go_wp2;go_meet;case rel=>exact⟨by rw[qE.out],by first|rfl|trivial⟩
 case rest=>
  obtain⟨hv,hw⟩:=hcut;subst hv;subst hw
  go_upto_region 25 with fail
  go_cut [151]from 131 to 151 (λIA wx=>IA=.bool false/\wx=wc)
  case first=>
   by_cases h1:a<R
   ·have p2:(a:Int)<(R:Int):=by omega
    by_cases h2:R<s.size
    ·have p3:(R:Int)<(s.size:Int):=by omega
     have p4:(0:Int)<=(R:Int):=by omega
     obtain⟨b2,hb2⟩:∃b2,by8 s R=b2:=⟨_,rfl⟩;have zdt:∀hh:R<s.size,(s[R]'hh).toNat=b2:=λhh=>by rw[←hb2];unfold by8;rw[zT hh]
     have hnb:=Iz.out h1 h2;rw[hb2]at hnb;have t60:((b2:Int)==60)=false:=beq_eq_false_iff_ne.2 (by omega);have t62:((b2:Int)==62)=false:=beq_eq_false_iff_ne.2 (by omega);clear hb2 hnb;go_wp2;go_meet;case rel=>exact⟨by first|rfl|simp,by first|rfl|trivial⟩
    ·have p3:¬(R:Int)<(s.size:Int):=by omega
     go_wp2;go_meet;case rel=>exact⟨by first|rfl|simp,by first|rfl|trivial⟩
   ·have p2:¬(a:Int)<(R:Int):=by omega
    go_wp2;go_meet;case rel=>exact⟨by first|rfl|simp,by first|rfl|trivial⟩
  case rest=>
   obtain⟨hv,hw⟩:=hcut;subst hv;subst hw
   go_wp2_with fail
   refine(GK.out _).mono ?_;rintro e w4 ⟨rfl,hb4⟩;have jP:=hst.below hb4;have Rq:=ky.below hb4;have a0:w4.cell? ⟨Bx,0,none⟩=some (.int .i64 0):=by have:=jP.kb.cell 0;rw[Px.out]at this;exact this
   go_upto_region 31 with fail
   have IB:Bx+3<=By:=Y0;have y0:=Rq.drew.cell 0;have y1:=Rq.drew.cell 1;have y2:=Rq.drew.cell 2;have t0:=jP.kt.drew.cell 0;have t1:=jP.kt.drew.cell 1;have t2:=jP.kt.drew.cell 2;have t3:=jP.kt.drew.cell 3;have Xl:=jP.kt.drew.frozen 0;have Xm:=jP.kt.drew.frozen 1;have Xn:=jP.kt.drew.frozen 2;have Xo:=jP.kt.drew.frozen 3;have r0:=jP.kr.drew.cell 0;have r1:=jP.kr.drew.cell 1;have r2:=jP.kr.drew.cell 2;have YE:=jP.kr.drew.frozen 0;have YF:=jP.kr.drew.frozen 1;have YG:=jP.kr.drew.frozen 2
   go_region_held3 (λw'=>w'.cell? ⟨By,0,none⟩=some (.int .i64 0)/\w'.cell? ⟨By,1,none⟩=some (.slice oa n c)/\w'.cell? ⟨By,2,none⟩=some (.bool false)) (((repeat(refine zds (by omega) ?_));first|exact⟨y0,y1,y2⟩|exact⟨Rt.cell 0,Rt.cell 1,Rt.cell 2⟩)) (first
    |(refine GL (by rfl) func98 (by kernel_rfl) (by kernel_rfl) _ _ (by rfl) [.string X] (by rfl) _ (QS.out _) ?_;intro v w5 hh;obtain⟨hv,hb5⟩:=hh;subst hv;clear t0 t1 t2 t3 Xl Xm Xn Xo r0 r1 r2 YE YF YG;have Rt:=Rq.drew.below hb5;have Y1:=jP.kt.drew.below hb5;have V3:=jP.kr.drew.below hb5;have u0:=Y1.cell 0;have u1:=Y1.cell 1;have u2:=Y1.cell 2;have u3:=Y1.cell 3;have uf0:=Y1.frozen 0;have wJ:=Y1.frozen 1;have BX:=Y1.frozen 2;have uf3:=Y1.frozen 3;have v0:=V3.cell 0;have v1:=V3.cell 1;have v2:=V3.cell 2;have vf0:=V3.frozen 0;have lV:=V3.frozen 1;have UJ:=V3.frozen 2))
   go_wp2;have hst5:=jP.below ((wag _ _).drew.trans hb5);clear hst;obtain⟨hst,_⟩:vT w (A:Int) (.slice oa n c) false Bx w5/\True:=⟨hst5,trivial⟩;obtain⟨f6,f7,_,_⟩:=hst.fin (6:Int) (a:Int) (E:Int) op (0:Int) (.slice oa n c) false;unfold Yt at f6 f7;have h0:=f6.cell 0;have h1:=f6.cell 1;have h2:=f6.cell 2;have h3:=f6.cell 3;have i0:=f7.cell 0;have i1:=f7.cell 1;have i2:=f7.cell 2;refine bodyPost_ret (v:=.tuple #[.agg #[.int .i64 (6:Int),.int .i64 (a:Int),.int .i64 (E:Int),.bool op],.agg #[.int .i64 (0:Int),(.slice oa n c),.bool false]]) (by simp[results,results67,go_sem,h0,h1,h2,h3,i0,i1,i2]) rfl ?_;exact hst.Jm (t:=⟨6,a,E,op⟩) (y:=⟨0,pd,false⟩) ((HM.out.below hst.bl).same rfl) (λg hg=>by have:=yh.out g hg;omega) (yO.refl _) rfl (λg hg=> .inl hg)
theorem znR(hbd:x.body=false)(hA0:x.await≠0)(hA1:x.await<=1000)(hpl:x.pend.length<=900000)(hbl:∀W,Calls prog 94 #[.string s,.int .i64 (a:Int)] W λe w'=>e=.returned (.int .i64 (a:Int))/\w'=W)(bb:Nat)(hby:by8 s a=bb)(Ry:bb≠10)(sJ:bb≠35)(hat:∀W,Calls prog 95 #[.string s,.int .i64 (a:Int)] W λe w'=>e=.returned (.int .i64 (0:Int))/\w'=W)(R:Nat)(hRa:a<=R)(hRs:R<=s.size)(hR:∀b,a<=b->b<=s.size->(∀i,a<=i->i<b->cls (by8 s i)=6)->(b<s.size->cls (by8 s b)≠6)->b=R)(hnum:a<R->R<s.size->by8 s R≠60/\by8 s R≠62)(E:Nat)(hE1:a<E)(hE2:E<=s.size)(op:Bool)(hend:∀W,Calls prog 96 #[.string s,.int .i64 (a:Int)] W λe w'=>e=.returned (.int .i64 (E:Int))/\Below W.heap.size W w')(hshut:∀W,Calls prog 98 #[.string (s.extract a E)] W λe w'=>e=.returned (.bool (!op))/\Below W.heap.size W w')(BT:ByteArray)(hbare:∀W,Calls prog 97 #[.string (s.extract a E)] W λe w'=>e=.returned (.string BT)/\Below W.heap.size W w'):
  Calls prog 67 #[.string s,.int .i64 (a:Int),zM x (.slice oa n c)] w λe w'=>VA w (.slice oa n c) ⟨6,a,E,op⟩ ⟨0,x.pend++ [⟨BT,decide (x.await=5)⟩],false⟩ e w':=by
 have qG:=hid hbl;clear hbl;have hix:∀hh:a<s.size,(s[a]'hh).toNat=bb:=λhh=>by rw[←hby];unfold by8;rw[zT hh]
 have sK:((bb:Int)==10)=false:=beq_eq_false_iff_ne.2 (by omega);have tb2:((bb:Int)==35)=false:=beq_eq_false_iff_ne.2 (by omega);clear hby;have hi:¬(a:Int)<(a:Int):=by omega
 have HAT:=hid hat
 have HR:=hid hR;clear hat hR;have p1:(a:Int)<=(R:Int):=by omega
 have GK:=hid hend;have Iz:=hid hnum;have hsh:∀W:World,Calls prog 98 #[.string (s.extract a E)] W λe w'=>∃v,e=.returned v/\(v=.bool (!op)/\Below W.heap.size W w'):=λW=>(hshut W).mono (λe w' h=>⟨_,h.1,rfl,h.2⟩);have QS:=hid hsh;have u0:(a:Int)<=(E:Int):=by omega
 have u1:(E:Int)<=(s.size:Int):=by omega
 obtain⟨X,hX⟩:∃X,s.extract a E=X:=⟨_,rfl⟩;have hba:∀W:World,Calls prog 97 #[.string (s.extract a E)] W λe w'=>∃v,e=.returned v/\(v=.string BT/\Below W.heap.size W w'):=λW=>(hbare W).mono (λe w' h=>⟨_,h.1,rfl,h.2⟩);have WS:=hid hba;rw[hX]at QS WS;clear hba hbare;have mG:=hid hX;clear hend hnum hshut hsh;obtain⟨T5,QJ⟩:∃T5,decide (x.await=5)=T5:=⟨_,rfl⟩;have hdec:((x.await:Int)==5)=T5:=by
  rw[←QJ];by_cases h5:x.await=5
  ·rw[h5];rfl
  ·rw[decide_eq_false h5];exact beq_eq_false_iff_ne.2 (by omega)
 rw[QJ];have ha0:((x.await:Int)!=0)=true:=by rw[bne,beq_eq_false_iff_ne.2 (by omega)];rfl
 have zo2:((x.await:Int)==0)=false:=beq_eq_false_iff_ne.2 (by omega);have HPL:=hid hpl;clear QJ hA0 hpl;obtain⟨A,pd,bd⟩:=x;dsimp only at hbd;subst hbd;unfold zM;dsimp only;have hst:=vT.new w (A:Int) (.slice oa n c) false;have q0:(0:Int)<=(a:Int):=by omega
 have q1:(a:Int)<(s.size:Int):=by omega
 have xn:=hst.kb.cell 2;have yH:=hst.kb.cell 1;have HM:=hid hM;have yh:Hid (∀g,(Value.slice oa n c).ownBlock=some g->g<w.heap.size):=hid (λg hg=>VZ hM.src g hg);clear hM;go_enter func67,ntmps67
 go_wp2_with fail
 obtain⟨W,hW⟩:∃X,(((w.alloc (.cells #[.int .i64 (A:Int),.slice oa n c,.bool false] 62)).alloc (.cells #[.int .i64 0,.int .i64 0,.int .i64 0,.bool false] 67)).alloc (.cells #[.int .i64 0,.slice none 0 0,.bool false] 62))=X:=⟨_,rfl⟩;obtain⟨Bx,hBx⟩:∃z,w.heap.size=z:=⟨_,rfl⟩;rw[hW]at hst xn yH ⊢;rw[hBx]at hst xn yH yh ⊢;clear hW hBx;refine(qG.out _).mono ?_;rintro e w1 ⟨rfl,rfl⟩;have a0:=hst.kb.cell 0;have a1:=hst.kb.cell 1;have a2:=hst.kb.cell 2;have Y0:Bx+3<=w1.heap.size:=by have:=hst.kr.lt;omega
 go_wp2_with fail
 have ky:=zf.new w1 #[.int .i64 0,.slice oa n c,.bool false] 62;have hst2:=hst.below ((wag _ w1).alloc (waa _) (.cells #[.int .i64 0,.slice oa n c,.bool false] 62));obtain⟨W2,hW2⟩:∃X,w1.alloc (.cells #[.int .i64 0,.slice oa n c,.bool false] 62)=X:=⟨_,rfl⟩;obtain⟨By,qp⟩:∃z,w1.heap.size=z:=⟨_,rfl⟩;rw[hW2]at ky hst2 ⊢;rw[qp]at ky Y0 ⊢;clear hW2 qp hst a0 a1 a2 xn yH;obtain⟨hst,hst2⟩:vT w (A:Int) (.slice oa n c) false Bx W2/\True:=⟨hst2,trivial⟩;refine(HAT.out _).mono ?_;rintro e w2 ⟨rfl,rfl⟩
 go_upto_block 2 with fail
 go_cut [14]from 118 to 130 (λv14 wx=>v14=.int .i64 (R:Int)/\wx=w2)
 case first=>
  go_wp2
  go_loopw [14] (λv wr=>∃b:Nat,a<=b/\b<=s.size/\v=.int .i64 (b:Int)/\(∀i,a<=i->i<b->cls (by8 s i)=6)/\wr=w2) (λv _=>s.size-(intOf v).toNat)
  case atStart=>exact⟨a,waa _,by omega,rfl,λi h1 h2=>by omega,rfl⟩
  case round=>
   obtain⟨b,hab,hbs,rfl,hin,rfl⟩:=hrel;have xP:=hid hin;clear hin;have u0:(0:Int)<=(b:Int):=by omega
   by_cases hlt:b<s.size
   ·have u1:(b:Int)<(s.size:Int):=by omega
    obtain⟨cc,hcc⟩:∃cc,by8 s b=cc:=⟨_,rfl⟩;have Iw:∀hh:b<s.size,(s[b]'hh).toNat=cc:=λhh=>by rw[←hcc];unfold by8;rw[zT hh]
    obtain⟨k6,hk6⟩:∃k6,cls cc=k6:=⟨_,rfl⟩;have hca:=λW=>lS cc W;rw[hk6]at hca;have XW:=hid hca;have uw:=hid hcc;have WU:=hid hk6;clear hcc hk6 hca;by_cases h6:k6=6
    ·have H6:Hid (cls cc=6):=hid (WU.out.trans h6)
     subst h6
     go_wp2_with fail
     refine(XW.out _).mono ?_;rintro e w5 ⟨rfl,rfl⟩;go_wp2
     go_roundw
     case rel=>
      refine⟨b+1,by omega,by omega,by go_num,λi h1 h2=>?_,by first|rfl|trivial⟩;by_cases e:i=b
      ·rw[e,uw.out];exact H6.out
      ·exact xP.out i h1 (by omega)
     case measure=>simp[intOf];omega
    ·have t6:((k6:Int)==6)=false:=beq_eq_false_iff_ne.2 (by omega)
     have hbR:b=R:=HR.out b hab hbs xP.out (λ_=>by rw[uw.out,WU.out];exact h6);have qE:=hid hbR;clear hbR h6
     go_wp2_with fail
     refine(XW.out _).mono ?_;rintro e w5 ⟨rfl,rfl⟩;go_wp2;go_meet;case rel=>exact⟨by rw[qE.out],by first|rfl|trivial⟩
   ·have hbR:b=R:=HR.out b hab hbs xP.out (λh=>absurd h hlt)
    have qE:=hid hbR;have u1:¬(b:Int)<(s.size:Int):=by omega
    clear hbR hlt;go_wp2;go_meet;case rel=>exact⟨by rw[qE.out],by first|rfl|trivial⟩
 case rest=>
  obtain⟨hv,hw⟩:=hcut;subst hv;subst hw
  go_upto_region 25 with fail
  go_cut [151]from 131 to 151 (λIA wx=>IA=.bool false/\wx=wc)
  case first=>
   by_cases h1:a<R
   ·have p2:(a:Int)<(R:Int):=by omega
    by_cases h2:R<s.size
    ·have p3:(R:Int)<(s.size:Int):=by omega
     have p4:(0:Int)<=(R:Int):=by omega
     obtain⟨b2,hb2⟩:∃b2,by8 s R=b2:=⟨_,rfl⟩;have zdt:∀hh:R<s.size,(s[R]'hh).toNat=b2:=λhh=>by rw[←hb2];unfold by8;rw[zT hh]
     have hnb:=Iz.out h1 h2;rw[hb2]at hnb;have t60:((b2:Int)==60)=false:=beq_eq_false_iff_ne.2 (by omega);have t62:((b2:Int)==62)=false:=beq_eq_false_iff_ne.2 (by omega);clear hb2 hnb;go_wp2;go_meet;case rel=>exact⟨by first|rfl|simp,by first|rfl|trivial⟩
    ·have p3:¬(R:Int)<(s.size:Int):=by omega
     go_wp2;go_meet;case rel=>exact⟨by first|rfl|simp,by first|rfl|trivial⟩
   ·have p2:¬(a:Int)<(R:Int):=by omega
    go_wp2;go_meet;case rel=>exact⟨by first|rfl|simp,by first|rfl|trivial⟩
  case rest=>
   obtain⟨hv,hw⟩:=hcut;subst hv;subst hw
   go_wp2_with fail
   refine(GK.out _).mono ?_;rintro e w4 ⟨rfl,hb4⟩;have jP:=hst.below hb4;have Rq:=ky.below hb4;have a0:=jP.kb.cell 0
   go_upto_region 30 with fail
   have Oq:n=pd.length:=by
    obtain⟨xC,c',he,_⟩:=HM.out.cap;injection he
   have hsrc:Src w4 (.slice oa n c) n (jy pd):=by rw[Oq];rw[Oq]at HM;exact(HM.out.below jP.bl).src
   have HN9:=hid Oq;have hnl:n<=900000:=by have:=HPL.out;omega
   have gq:=hid hsrc;clear Oq hsrc a0;have IB:Bx+3<=By:=Y0;have zo3:By<w4.heap.size:=Rq.lt;have znS:=hid jP;have e0:w4.drew.cell? ⟨Bx,0,none⟩=some (.int .i64 (A:Int)):=jP.kb.cell 0;have e1:w4.drew.cell? ⟨Bx,1,none⟩=some (.slice oa n c):=jP.kb.cell 1;have z1:((w4.alloc (.cells #[] 105)).drew).cell? ⟨Bx,0,none⟩=some (.int .i64 (A:Int))/\((w4.alloc (.cells #[] 105)).drew).cell? ⟨Bx,1,none⟩=some (.slice oa n c):=⟨((jP.kb.alloc _).drew).cell 0,((jP.kb.alloc _).drew).cell 1⟩
   go_region_held_law (λw'=>w'.cell? ⟨Bx,0,none⟩=some (.int .i64 (A:Int))/\w'.cell? ⟨Bx,1,none⟩=some (.slice oa n c)) (first|exact⟨e0,e1⟩|exact z1|exact⟨kb8.cell 0,kb8.cell 1⟩|exact⟨ZG.cell 0,ZG.cell 1⟩|exact zdu _|exact⟨sN.cell 0,sN.cell 1⟩|exact zdv) (first
    |(refine QE (by rfl) _ _ 60 105 2 24 _ (by rfl) underlying60 iT rfl (by omega) (by omega) w4.heap.size (.slice (some ⟨w4.heap.size,0,none⟩) 0 0) 0 [] (by rfl) (uh (znG w4) ((wag _ _).drew)) _ n (jy pd) (by rfl) (gq.out.below (((wag _ _).alloc (waa _) _).drew)) (znH HN9.out) (iR pd) (by omega) (by show w4.heap.size<=(w4.alloc _).heap.size;rw[World.size_alloc];exact Nat.le_succ _) n (Nat.zero_add n) ?_;intro VL c8 w8 JY Zz LH;have kb8:=(jP.kb.alloc (.cells #[] 105)).drew.grown Zz (λe=>by have:Bx=w4.heap.size:=(by injection e);omega);have D7:=(Rq.alloc (.cells #[] 105)).drew.grown Zz (λe=>by have:By=w4.heap.size:=(by injection e);omega);have hb8:Below w4.heap.size w4 w8:=(((wag w4.heap.size w4).alloc (waa _) _).drew).grown Zz (by show w4.heap.size<=(w4.alloc _).heap.size;rw[World.size_alloc];exact Nat.le_succ _) (λk hk=>by have:w4.heap.size=k:=(by injection hk);omega))
    |(refine GL (by rfl) func97 (by kernel_rfl) (by kernel_rfl) _ _ (by rfl) [.string X] (by rfl) _ (WS.out _) ?_;intro v w9 hh;obtain⟨hv9,YS⟩:=hh;subst hv9;have ZG:=kb8.below YS;have ky9:=D7.below YS;have YW:=uh JY YS;have zdu:∀o,(w9.alloc o).cell? ⟨Bx,0,none⟩=some (.int .i64 (A:Int))/\(w9.alloc o).cell? ⟨Bx,1,none⟩=some (.slice oa n c):=λo=>⟨(ZG.alloc o).cell 0,(ZG.alloc o).cell 1⟩;have sO:Below w4.heap.size w4 w9:=hb8.trans (YS.mono hb8.size))
    |(refine QE (by rfl) _ _ 60 105 2 24 _ (by rfl) underlying60 iT rfl (by omega) (by omega) w4.heap.size (.slice VL n c8) n ([]++jy pd) (by rfl) (uh YW ((wag _ _).alloc (waa _) _)) _ 1 [.string BT,.bool T5] (by rfl) (znI (x:=⟨BT,T5⟩) (zf.new w9 _ _)) rfl (iR [⟨BT,T5⟩]) (by omega) (by rw[World.size_alloc];have:=sO.size;omega) (n+1) rfl ?_;intro V4 c7 w7 WQ WR Me;have Ot:=(ky9.alloc (.cells #[.string BT,.bool T5] 105)).grown WR (λe=>by have:=xx YW _ e.symm;omega);have y1:=Ot.cell 1;have XH:=Ot.frozen 1;have sN:=(ZG.alloc (.cells #[.string BT,.bool T5] 105)).grown WR (λe=>by have:=xx YW _ e.symm;have:=jP.kb.lt;omega);have zdv:(w7.setCell ⟨By,1,none⟩ (.slice V4 (n+1) c7)).cell? ⟨Bx,0,none⟩=some (.int .i64 (A:Int))/\(w7.setCell ⟨By,1,none⟩ (.slice V4 (n+1) c7)).cell? ⟨Bx,1,none⟩=some (.slice oa n c):=⟨(sN.other 1 _ (by omega)).cell 0,(sN.other 1 _ (by omega)).cell 1⟩))
   have hb7:Below w4.heap.size w4 w7:=(sO.alloc sO.size _).grown WR (by rw[World.size_alloc];have:=sO.size;omega) (λk hk=>xx YW k hk);have sQ:=znS.out.below hb7;have IC:=Ot.set 1 (.slice V4 (n+1) c7);have hF6:zg (λb=>b=By) w7 (w7.setCell ⟨By,1,none⟩ (.slice V4 (n+1) c7)):=zg.setCell (p:=λb=>b=By) (zg.refl _ w7) 1 (.inl rfl) _;have Yu:vT w (A:Int) (.slice oa n c) false Bx (w7.setCell ⟨By,1,none⟩ (.slice V4 (n+1) c7)):=⟨sQ.kb.other 1 _ (by omega),sQ.kt.other 1 _ (by omega),sQ.kr.other 1 _ (by omega),sQ.bl.setCell (p:=⟨By,1,none⟩) (by have:=hst.bx;show w.heap.size<=By;omega) _,hst.bx⟩;have IE:=xx WQ;have hown6:=xq hF6 WQ (λg hg hh=>by have:=IE g hg;omega);obtain⟨g9,zmU,xX,iV,iW,_,iY⟩:=VD WQ (by omega);have hc7:n+1<=c7:=by
    injection xX with _ _ e3;omega
   clear xX iV iW iY;obtain⟨W6,dN⟩:∃Y,w7.setCell ⟨By,1,none⟩ (.slice V4 (n+1) c7)=Y:=⟨_,rfl⟩;rw[dN]at IC Yu hown6 ⊢;have Ou:zf W6 By #[.int .i64 0,.slice V4 (n+1) c7,.bool false] 62:=IC;have hlen:(pd++ [(⟨BT,T5⟩:Dl)]).length=n+1:=by rw[List.length_append,←HN9.out];rfl
   have hce:jy (pd++ [(⟨BT,T5⟩:Dl)])=[]++jy pd++ [.string BT,.bool T5]:=by rw[zcU];rfl
   have zG:YZ W6 (.slice V4 (n+1) c7) ⟨0,pd++ [⟨BT,T5⟩],false⟩:=by
    refine⟨?_,⟨V4,c7,?_,?_⟩⟩
    ·show Src W6 _ (pd++ [(⟨BT,T5⟩:Dl)]).length (jy (pd++ [(⟨BT,T5⟩:Dl)]))
     rw[hlen,hce];exact Src.Y2 hown6
    ·show _=Value.slice V4 (pd++ [(⟨BT,T5⟩:Dl)]).length c7
     rw[hlen]
    ·show(pd++ [(⟨BT,T5⟩:Dl)]).length<=c7
     rw[hlen];exact hc7
   have zL:=hid zG;have zdw:=hid IE;clear hlen hce zG IE hown6 WQ JY YW dN IC sQ zdv sN ZG kb8 D7 ky9 Ot zdu y1 XH WR Zz Me LH hF6 e0 e1 z1 hb7 sO hb8 YS;have Y0:Bx+3<=By:=IB
   go_upto_region 31 with fail
   have IB:Bx+3<=By:=Y0;have y0:=Ou.drew.cell 0;have y1:=Ou.drew.cell 1;have y2:=Ou.drew.cell 2;have t0:=Yu.kt.drew.cell 0;have t1:=Yu.kt.drew.cell 1;have t2:=Yu.kt.drew.cell 2;have t3:=Yu.kt.drew.cell 3;have Xl:=Yu.kt.drew.frozen 0;have Xm:=Yu.kt.drew.frozen 1;have Xn:=Yu.kt.drew.frozen 2;have Xo:=Yu.kt.drew.frozen 3;have r0:=Yu.kr.drew.cell 0;have r1:=Yu.kr.drew.cell 1;have r2:=Yu.kr.drew.cell 2;have YE:=Yu.kr.drew.frozen 0;have YF:=Yu.kr.drew.frozen 1;have YG:=Yu.kr.drew.frozen 2
   go_region_held3 (λw'=>w'.cell? ⟨By,0,none⟩=some (.int .i64 0)/\w'.cell? ⟨By,1,none⟩=some (.slice V4 (n+1) c7)/\w'.cell? ⟨By,2,none⟩=some (.bool false)) (((repeat(refine zds (by omega) ?_));first|exact⟨y0,y1,y2⟩|exact⟨Rt.cell 0,Rt.cell 1,Rt.cell 2⟩)) (first
    |(refine GL (by rfl) func98 (by kernel_rfl) (by kernel_rfl) _ _ (by rfl) [.string X] (by rfl) _ (QS.out _) ?_;intro v w5 hh;obtain⟨hv,hb5⟩:=hh;subst hv;clear t0 t1 t2 t3 Xl Xm Xn Xo r0 r1 r2 YE YF YG;have Rt:=Ou.drew.below hb5;have Y1:=Yu.kt.drew.below hb5;have V3:=Yu.kr.drew.below hb5;have u0:=Y1.cell 0;have u1:=Y1.cell 1;have u2:=Y1.cell 2;have u3:=Y1.cell 3;have uf0:=Y1.frozen 0;have wJ:=Y1.frozen 1;have BX:=Y1.frozen 2;have uf3:=Y1.frozen 3;have v0:=V3.cell 0;have v1:=V3.cell 1;have v2:=V3.cell 2;have vf0:=V3.frozen 0;have lV:=V3.frozen 1;have UJ:=V3.frozen 2))
   go_wp2;have hst5:=Yu.below ((wag _ _).drew.trans hb5);clear hst;obtain⟨hst,_⟩:vT w (A:Int) (.slice oa n c) false Bx w5/\True:=⟨hst5,trivial⟩;obtain⟨f6,f7,_,_⟩:=hst.fin (6:Int) (a:Int) (E:Int) op (0:Int) (.slice V4 (n+1) c7) false;unfold Yt at f6 f7;have h0:=f6.cell 0;have h1:=f6.cell 1;have h2:=f6.cell 2;have h3:=f6.cell 3;have i0:=f7.cell 0;have i1:=f7.cell 1;have i2:=f7.cell 2;refine bodyPost_ret (v:=.tuple #[.agg #[.int .i64 (6:Int),.int .i64 (a:Int),.int .i64 (E:Int),.bool op],.agg #[.int .i64 (0:Int),(.slice V4 (n+1) c7),.bool false]]) (by simp[results,results67,go_sem,h0,h1,h2,h3,i0,i1,i2]) rfl ?_;exact hst.Jm (t:=⟨6,a,E,op⟩) (y:=⟨0,pd++ [⟨BT,T5⟩],false⟩) (zL.out.below ((wag _ _).drew.trans hb5)) (λg hg=>by have:=zdw.out g hg;omega) (yO.refl _) rfl (λg hg=> .inr (by have:=zdw.out g hg;have:=hst.bx;omega))
theorem znT(hbd:x.body=true)(d:Dl)(ds:List Dl)(hp:x.pend=d::ds)(E:Nat)(hE:E<=s.size)(VB:∀W,Calls prog 93 #[.string s,.int .i64 (a:Int),.agg #[.string d.word,.bool d.tabs]] W λe w'=>e=.returned (.tuple #[.int .i64 (E:Int),.int .i64 0])/\Below W.heap.size W w'):
  Calls prog 67 #[.string s,.int .i64 (a:Int),zM x (.slice oa n c)] w λe w'=>VA w (.slice oa n c) ⟨7,a,E,true⟩ x e w':=by
 obtain⟨b,off,hoa,hbl,d0,d1,hn1,hnc⟩:∃b off,oa=some ⟨b,off,none⟩/\b<w.heap.size/\w.cell? ⟨b,off,none⟩=some (.string d.word)/\w.cell? ⟨b,off+1,none⟩=some (.bool d.tabs)/\n=ds.length+1/\n<=c:=by
  obtain⟨xC,c',he,hc'⟩:=hM.cap;rw[hp]at he hc';injection he with e1 e2 e3;rcases hM.src with⟨_,h,_⟩|⟨b,off,c2,h1,h2,h3⟩
  ·rw[hp]at h;cases h
  ·injection h1 with h4
   refine⟨b,off,h4,h2,?_,?_,e2,by rw[e3,e2];exact hc'⟩
   ·have:=h3 0 (.string d.word) (by rw[hp,Qx];rfl)
    rwa [Nat.add_zero]at this
   ·exact h3 1 (.bool d.tabs) (by rw[hp,Qx];rfl)
 subst hoa;have sS:=hid VB;have i1:(0:Int)<(n:Int):=by omega
 have sU:=hid hn1;have gm:=hid hp;clear VB hn1 hp;obtain⟨A,pd,bd⟩:=x;dsimp only at hbd;subst hbd;unfold zM;dsimp only;have hst:=vT.new w (A:Int) (.slice (some ⟨b,off,none⟩) n c) true;have q0:(0:Int)<=(a:Int):=by omega
 have q1:(a:Int)<(s.size:Int):=by omega
 have xn:=hst.kb.cell 2;have yH:=hst.kb.cell 1;have HM:=hid hM;have yh:Hid (∀g,(Value.slice (some ⟨b,off,none⟩) n c).ownBlock=some g->g<w.heap.size):=hid (λg hg=>VZ hM.src g hg);clear hM;go_enter func67,ntmps67;have hkeep:∀W,Below w.heap.size w W->W.cell? ⟨b,off,none⟩=some (.string d.word)/\W.cell? ⟨b,off+1,none⟩=some (.bool d.tabs):=λW hW=>⟨(hW.cell (p:=⟨b,off,none⟩) hbl).trans d0,(hW.cell (p:=⟨b,off+1,none⟩) hbl).trans d1⟩;have e0:=(hkeep _ hst.bl).1;have e1:=(hkeep _ hst.bl).2
 go_wp2_with fail
 obtain⟨W,hW⟩:∃X,(((w.alloc (.cells #[.int .i64 (A:Int),.slice (some ⟨b,off,none⟩) n c,.bool true] 62)).alloc (.cells #[.int .i64 0,.int .i64 0,.int .i64 0,.bool false] 67)).alloc (.cells #[.int .i64 0,.slice none 0 0,.bool false] 62))=X:=⟨_,rfl⟩;obtain⟨Bx,hBx⟩:∃z,w.heap.size=z:=⟨_,rfl⟩;rw[hW]at hst xn yH e0 e1 ⊢;rw[hBx]at hst xn yH yh ⊢;clear hW hBx;refine(sS.out _).mono ?_;rintro e w1 ⟨rfl,hb1⟩;obtain⟨WV,_⟩:vT w (A:Int) (.slice (some ⟨b,off,none⟩) n c) true Bx W/\True:=⟨hst,trivial⟩;clear hst;have hst:=WV.below hb1;clear WV e0 e1 d0 d1 hkeep xn yH;have a0:=hst.kb.cell 0;have a1:=hst.kb.cell 1;have a2:=hst.kb.cell 2;have t0:=hst.kt.cell 0;have t1:=hst.kt.cell 1;have t2:=hst.kt.cell 2;have t3:=hst.kt.cell 3;have Xl:=hst.kt.frozen 0;have Xm:=hst.kt.frozen 1;have Xn:=hst.kt.frozen 2;have Xo:=hst.kt.frozen 3;have r0:=hst.kr.cell 0;have r1:=hst.kr.cell 1;have r2:=hst.kr.cell 2;have YE:=hst.kr.frozen 0;have YF:=hst.kr.frozen 1;have YG:=hst.kr.frozen 2;go_wp2
 go_region
 go_wp2;obtain⟨f6,f7,_,_⟩:=hst.fin (7:Int) (a:Int) (E:Int) true (A:Int) (.slice (some ⟨b,off,none⟩) n c) true;unfold Yt at f6 f7;have h0:=f6.drew.cell 0;have h1:=f6.drew.cell 1;have h2:=f6.drew.cell 2;have h3:=f6.drew.cell 3;have i0:=f7.drew.cell 0;have i1:=f7.drew.cell 1;have i2:=f7.drew.cell 2;refine bodyPost_ret (v:=.tuple #[.agg #[.int .i64 (7:Int),.int .i64 (a:Int),.int .i64 (E:Int),.bool true],.agg #[.int .i64 (A:Int),(.slice (some ⟨b,off,none⟩) n c),.bool true]]) (by simp[results,results67,go_sem,h0,h1,h2,h3,i0,i1,i2]) rfl ?_;exact hst.Jm (t:=⟨7,a,E,true⟩) (y:=⟨A,pd,true⟩) (HM.out.below hst.bl) (λg hg=>by have:=yh.out g hg;omega) ⟨1,rfl⟩ rfl (λg hg=> .inl hg)
theorem znU(hbd:x.body=true)(d:Dl)(ds:List Dl)(hp:x.pend=d::ds)(E:Nat)(hE:E<=s.size)(VB:∀W,Calls prog 93 #[.string s,.int .i64 (a:Int),.agg #[.string d.word,.bool d.tabs]] W λe w'=>e=.returned (.tuple #[.int .i64 (E:Int),.int .i64 1])/\Below W.heap.size W w')(hc1:c=1):
  Calls prog 67 #[.string s,.int .i64 (a:Int),zM x (.slice oa n c)] w λe w'=>VA w (.slice oa n c) ⟨7,a,E,false⟩ ⟨x.await,ds,decide (1<n)⟩ e w':=by
 obtain⟨b,off,hoa,hbl,d0,d1,hn1,hnc⟩:∃b off,oa=some ⟨b,off,none⟩/\b<w.heap.size/\w.cell? ⟨b,off,none⟩=some (.string d.word)/\w.cell? ⟨b,off+1,none⟩=some (.bool d.tabs)/\n=ds.length+1/\n<=c:=by
  obtain⟨xC,c',he,hc'⟩:=hM.cap;rw[hp]at he hc';injection he with e1 e2 e3;rcases hM.src with⟨_,h,_⟩|⟨b,off,c2,h1,h2,h3⟩
  ·rw[hp]at h;cases h
  ·injection h1 with h4
   refine⟨b,off,h4,h2,?_,?_,e2,by rw[e3,e2];exact hc'⟩
   ·have:=h3 0 (.string d.word) (by rw[hp,Qx];rfl)
    rwa [Nat.add_zero]at this
   ·exact h3 1 (.bool d.tabs) (by rw[hp,Qx];rfl)
 subst hoa;have sS:=hid VB;have i1:(0:Int)<(n:Int):=by omega
 have sU:=hid hn1;have gm:=hid hp;clear VB hn1 hp;have hn1:n=1:=by have:=sU.out;omega
 subst hn1;subst hc1;obtain⟨A,pd,bd⟩:=x;dsimp only at hbd;subst hbd;unfold zM;dsimp only;have hst:=vT.new w (A:Int) (.slice (some ⟨b,off,none⟩) 1 1) true;have q0:(0:Int)<=(a:Int):=by omega
 have q1:(a:Int)<(s.size:Int):=by omega
 have xn:=hst.kb.cell 2;have yH:=hst.kb.cell 1;have HM:=hid hM;have yh:Hid (∀g,(Value.slice (some ⟨b,off,none⟩) 1 1).ownBlock=some g->g<w.heap.size):=hid (λg hg=>VZ hM.src g hg);clear hM;go_enter func67,ntmps67;have hkeep:∀W,Below w.heap.size w W->W.cell? ⟨b,off,none⟩=some (.string d.word)/\W.cell? ⟨b,off+1,none⟩=some (.bool d.tabs):=λW hW=>⟨(hW.cell (p:=⟨b,off,none⟩) hbl).trans d0,(hW.cell (p:=⟨b,off+1,none⟩) hbl).trans d1⟩;have e0:=(hkeep _ hst.bl).1;have e1:=(hkeep _ hst.bl).2
 go_wp2_with fail
 obtain⟨W,hW⟩:∃X,(((w.alloc (.cells #[.int .i64 (A:Int),.slice (some ⟨b,off,none⟩) 1 1,.bool true] 62)).alloc (.cells #[.int .i64 0,.int .i64 0,.int .i64 0,.bool false] 67)).alloc (.cells #[.int .i64 0,.slice none 0 0,.bool false] 62))=X:=⟨_,rfl⟩;obtain⟨Bx,hBx⟩:∃z,w.heap.size=z:=⟨_,rfl⟩;rw[hW]at hst xn yH e0 e1 ⊢;rw[hBx]at hst xn yH yh ⊢;clear hW hBx;refine(sS.out _).mono ?_;rintro e w1 ⟨rfl,hb1⟩;obtain⟨WV,_⟩:vT w (A:Int) (.slice (some ⟨b,off,none⟩) 1 1) true Bx W/\True:=⟨hst,trivial⟩;clear hst;have hst:=WV.below hb1;clear WV e0 e1 d0 d1 hkeep xn yH;have a0:=hst.kb.cell 0;have a1:=hst.kb.cell 1;have a2:=hst.kb.cell 2;have t0:=hst.kt.cell 0;have t1:=hst.kt.cell 1;have t2:=hst.kt.cell 2;have t3:=hst.kt.cell 3;have Xl:=hst.kt.frozen 0;have Xm:=hst.kt.frozen 1;have Xn:=hst.kt.frozen 2;have Xo:=hst.kt.frozen 3;have r0:=hst.kr.cell 0;have r1:=hst.kr.cell 1;have r2:=hst.kr.cell 2;have YE:=hst.kr.frozen 0;have YF:=hst.kr.frozen 1;have YG:=hst.kr.frozen 2;go_wp2
 go_region
 go_wp2;have IG:=(HM.out.src.below hst.bl);have Jl:pd=d::ds:=gm.out;have hl1:=sU.out;have hL:YZ w1 (.slice (some ⟨b,off,none⟩) 0 0) ⟨A,ds,false⟩:=by
  have hds:ds=[]:=List.eq_nil_of_length_eq_zero (by omega);subst hds;rcases IG with⟨h,_⟩|⟨b2,zcX,c2,h1,h2,h3⟩
  ·cases h
  ·injection h1 with h4
   injection h4 with h5;injection h5 with h6 h7;subst h6 h7;exact⟨.inr ⟨b,off,0,rfl,h2,λj u hj=>by cases hj⟩,⟨_,0,rfl,waa _⟩⟩
 obtain⟨f6,f7,_,_⟩:=hst.fin (7:Int) (a:Int) (E:Int) false (A:Int) (.slice (some ⟨b,off,none⟩) 0 0) false;unfold Yt at f6 f7;have h0:=f6.drew.cell 0;have h1:=f6.drew.cell 1;have h2:=f6.drew.cell 2;have h3:=f6.drew.cell 3;have i0:=f7.drew.cell 0;have i1:=f7.drew.cell 1;have i2:=f7.drew.cell 2;refine bodyPost_ret (v:=.tuple #[.agg #[.int .i64 (7:Int),.int .i64 (a:Int),.int .i64 (E:Int),.bool false],.agg #[.int .i64 (A:Int),(.slice (some ⟨b,off,none⟩) 0 0),.bool false]]) (by simp[results,results67,go_sem,h0,h1,h2,h3,i0,i1,i2]) rfl ?_;exact hst.Jm (t:=⟨7,a,E,false⟩) (y:=⟨A,ds,false⟩) hL (λg hg=>by have:=yh.out g hg;omega) ⟨1,rfl⟩ rfl (λg hg=> .inl hg)
theorem znV(hbd:x.body=true)(d:Dl)(ds:List Dl)(hp:x.pend=d::ds)(E:Nat)(hE:E<=s.size)(VB:∀W,Calls prog 93 #[.string s,.int .i64 (a:Int),.agg #[.string d.word,.bool d.tabs]] W λe w'=>e=.returned (.tuple #[.int .i64 (E:Int),.int .i64 1])/\Below W.heap.size W w')(hc1:c≠1):
  Calls prog 67 #[.string s,.int .i64 (a:Int),zM x (.slice oa n c)] w λe w'=>VA w (.slice oa n c) ⟨7,a,E,false⟩ ⟨x.await,ds,decide (1<n)⟩ e w':=by
 obtain⟨b,off,hoa,hbl,d0,d1,hn1,hnc⟩:∃b off,oa=some ⟨b,off,none⟩/\b<w.heap.size/\w.cell? ⟨b,off,none⟩=some (.string d.word)/\w.cell? ⟨b,off+1,none⟩=some (.bool d.tabs)/\n=ds.length+1/\n<=c:=by
  obtain⟨xC,c',he,hc'⟩:=hM.cap;rw[hp]at he hc';injection he with e1 e2 e3;rcases hM.src with⟨_,h,_⟩|⟨b,off,c2,h1,h2,h3⟩
  ·rw[hp]at h;cases h
  ·injection h1 with h4
   refine⟨b,off,h4,h2,?_,?_,e2,by rw[e3,e2];exact hc'⟩
   ·have:=h3 0 (.string d.word) (by rw[hp,Qx];rfl)
    rwa [Nat.add_zero]at this
   ·exact h3 1 (.bool d.tabs) (by rw[hp,Qx];rfl)
 subst hoa;have sS:=hid VB;have i1:(0:Int)<(n:Int):=by omega
 have sU:=hid hn1;have gm:=hid hp;clear VB hn1 hp;obtain⟨N,hN⟩:∃N,decide ((1:Int)<(n:Int))=N:=⟨_,rfl⟩;have hNN:decide (1<n)=N:=by rw[←hN];exact decide_eq_decide.2 (by omega)
 rw[hNN];have HN:=hid hN;clear hNN hN;obtain⟨A,pd,bd⟩:=x;dsimp only at hbd;subst hbd;unfold zM;dsimp only;have hst:=vT.new w (A:Int) (.slice (some ⟨b,off,none⟩) n c) true;have q0:(0:Int)<=(a:Int):=by omega
 have q1:(a:Int)<(s.size:Int):=by omega
 have xn:=hst.kb.cell 2;have yH:=hst.kb.cell 1;have HM:=hid hM;have yh:Hid (∀g,(Value.slice (some ⟨b,off,none⟩) n c).ownBlock=some g->g<w.heap.size):=hid (λg hg=>VZ hM.src g hg);clear hM;go_enter func67,ntmps67;have hkeep:∀W,Below w.heap.size w W->W.cell? ⟨b,off,none⟩=some (.string d.word)/\W.cell? ⟨b,off+1,none⟩=some (.bool d.tabs):=λW hW=>⟨(hW.cell (p:=⟨b,off,none⟩) hbl).trans d0,(hW.cell (p:=⟨b,off+1,none⟩) hbl).trans d1⟩;have e0:=(hkeep _ hst.bl).1;have e1:=(hkeep _ hst.bl).2
 go_wp2_with fail
 obtain⟨W,hW⟩:∃X,(((w.alloc (.cells #[.int .i64 (A:Int),.slice (some ⟨b,off,none⟩) n c,.bool true] 62)).alloc (.cells #[.int .i64 0,.int .i64 0,.int .i64 0,.bool false] 67)).alloc (.cells #[.int .i64 0,.slice none 0 0,.bool false] 62))=X:=⟨_,rfl⟩;obtain⟨Bx,hBx⟩:∃z,w.heap.size=z:=⟨_,rfl⟩;rw[hW]at hst xn yH e0 e1 ⊢;rw[hBx]at hst xn yH yh ⊢;clear hW hBx;refine(sS.out _).mono ?_;rintro e w1 ⟨rfl,hb1⟩;obtain⟨WV,_⟩:vT w (A:Int) (.slice (some ⟨b,off,none⟩) n c) true Bx W/\True:=⟨hst,trivial⟩;clear hst;have hst:=WV.below hb1;clear WV e0 e1 d0 d1 hkeep xn yH;have a0:=hst.kb.cell 0;have a1:=hst.kb.cell 1;have a2:=hst.kb.cell 2;have t0:=hst.kt.cell 0;have t1:=hst.kt.cell 1;have t2:=hst.kt.cell 2;have t3:=hst.kt.cell 3;have Xl:=hst.kt.frozen 0;have Xm:=hst.kt.frozen 1;have Xn:=hst.kt.frozen 2;have Xo:=hst.kt.frozen 3;have r0:=hst.kr.cell 0;have r1:=hst.kr.cell 1;have r2:=hst.kr.cell 2;have YE:=hst.kr.frozen 0;have YF:=hst.kr.frozen 1;have YG:=hst.kr.frozen 2;have i2:(1:Int)<=(n:Int):=by omega
 have i3:(n:Int)<=(c:Int):=by omega
 have i4:(1:Int)<=(c:Int):=by omega
 have i5:¬c=1:=hc1;go_wp2
 go_region
 go_wp2;rw[HN.out];have IG:=(HM.out.src.below hst.bl);have Jl:pd=d::ds:=gm.out;have hl1:=sU.out;have hL:YZ w1 (.slice (some ⟨b,off+2,none⟩) (n-1) (c-1)) ⟨A,ds,N⟩:=by
  have hz:ds.length=n-1:=by omega
  refine⟨?_,⟨_,c-1,by rw[show(⟨A,ds,N⟩:Lx).pend.length=n-1 from hz],by rw[show(⟨A,ds,N⟩:Lx).pend.length=n-1 from hz];omega⟩⟩;show Src w1 _ ds.length (jy ds);rw[hz];rcases IG with⟨h,_⟩|⟨b2,zcX,c2,h1,h2,h3⟩
  ·cases h
  ·injection h1 with h4
   injection h4 with h5;injection h5 with h6 h7;subst h6 h7;refine .inr ⟨b,off+2,c-1,rfl,h2,λj u hj=>?_⟩;have:=h3 (j+2) u (by show(jy pd)[j+2]?=_;rw[Jl,Qx];simpa using hj);rw[show off+2+j=off+(j+2) by omega];exact this
 obtain⟨f6,f7,_,_⟩:=hst.fin (7:Int) (a:Int) (E:Int) false (A:Int) (.slice (some ⟨b,off+2,none⟩) (n-1) (c-1)) N;unfold Yt at f6 f7;have h0:=f6.drew.cell 0;have h1:=f6.drew.cell 1;have h2:=f6.drew.cell 2;have h3:=f6.drew.cell 3;have i0:=f7.drew.cell 0;have i1:=f7.drew.cell 1;have i2:=f7.drew.cell 2;refine bodyPost_ret (v:=.tuple #[.agg #[.int .i64 (7:Int),.int .i64 (a:Int),.int .i64 (E:Int),.bool false],.agg #[.int .i64 (A:Int),(.slice (some ⟨b,off+2,none⟩) (n-1) (c-1)),.bool N]]) (by simp[results,results67,go_sem,h0,h1,h2,h3,i0,i1,i2]) rfl ?_;exact hst.Jm (t:=⟨7,a,E,false⟩) (y:=⟨A,ds,N⟩) hL (λg hg=>by have:=yh.out g hg;omega) ⟨1,rfl⟩ rfl (λg hg=> .inl hg)
end
theorem znW{s:ByteArray}{a:Nat}(ha:a<=s.size):JD s a 0 (jb s a):=⟨(TQ ha).1,(TQ ha).2,λi h1 h2=>zni h1 h2,λh=>znh ha h⟩
section
variable(w:World)(x:Lx)(oa:Option Addr)(n c:Nat)(hM:YZ w (.slice oa n c) x)(s:ByteArray)(a:Nat)(ha:a<s.size)(hs:s.size<=60000)
include hM ha hs
theorem znX(hpe:x.body=true->x.pend≠ [])(hA1:x.await<=1000)(hpl:x.pend.length<=900000):
  Calls prog 67 #[.string s,.int .i64 (a:Int),zM x (.slice oa n c)] w λe w'=>VA w (.slice oa n c) (xB s a x) (qY s a x) e w':=by
 have hnl:n=x.pend.length:=by
  obtain⟨xC,c',he,_⟩:=hM.cap;injection he
 by_cases hb:x.body=true
 ·obtain⟨d,ds,hp⟩:∃d ds,x.pend=d::ds:=by
   cases h:x.pend with
   |nil=>exact absurd h (hpe hb)
   |cons d ds=>exact⟨d,ds,rfl⟩
  have VB:=λW=>znv W s a d (Nat.le_of_lt ha) (by omega);have hle:=zdj s d (s.size-a) a (waa _) (Nat.le_of_lt ha);have ht:xB s a x=⟨7,a,(dA s d a).1,!(dA s d a).2⟩:=by
   unfold xB;rw[if_pos hb,hp,znl s d (Nat.le_of_lt ha)];show(⟨7,a,a+((dA s d a).1-a),_⟩:Tk)=_;rw[show a+((dA s d a).1-a)=(dA s d a).1 by omega]
  have hn:n=ds.length+1:=by rw[hnl,hp];rfl
  cases hB:(dA s d a).2 with
  |true=>
   rw[hB]at VB;have hx:qY s a x=⟨x.await,ds,decide (1<n)⟩:=by
    unfold qY;rw[ht,hB];show jw x 7 false _=_;unfold jw;rw[if_pos rfl,if_neg (by decide),hp,hb];show(⟨x.await,ds,!ds.isEmpty && true⟩:Lx)=_;rw[Bool.and_true,hn];cases ds<;>simp
   rw[ht,hx,hB];by_cases hc:c=1
   ·exact znU w x oa n c hM s a ha hs hb d ds hp _ hle.2 VB hc
   ·exact znV w x oa n c hM s a ha hs hb d ds hp _ hle.2 VB hc
  |false=>
   rw[hB]at VB;have hx:qY s a x=x:=by
    unfold qY;rw[ht,hB];show jw x 7 true _=_;unfold jw;rw[if_pos rfl,if_pos rfl]
   rw[ht,hx,hB];exact znT w x oa n c hM s a ha hs hb d ds hp _ hle.2 VB
 ·have hb':x.body=false:=by simpa using hb
  have sV:=Og ha;have hbl:=λW=>znn W s a (Nat.le_of_lt ha) (by omega);have ht:xB s a x=⟨jZ s a,a,uD s a,decide (jZ s a=6)&& Z7 (s.extract a (uD s a))⟩:=by
   unfold xB;rw[if_neg hb]
  have hx:qY s a x=jw x (jZ s a) (decide (jZ s a=6)&& Z7 (s.extract a (uD s a))) (s.extract a (uD s a)):=by
   unfold qY;rw[ht]
  have hk:jZ s a=if xM s a≠0 then 1 else if by8 s a=10 then 2 else if by8 s a=35 then 3 else if yS s a≠0 then 4 else if Zo s a≠0 then 5 else 6:=rfl
  have he:uD s a=if xM s a≠0 then qL s a else if by8 s a=10 then a+1 else if by8 s a=35 then vk s a else if yS s a≠0 then a+(txt (yS s a)).size else if Zo s a≠0 then a+Zo s a else jb s a:=rfl
  by_cases c1:xM s a≠0
  ·rw[if_pos c1]at hk he
   rw[ht,hx,hk,he];have hg:=iH (Nat.le_of_lt ha) c1;have hl:=o8 (s:=s) (a:=a) (Nat.le_of_lt ha);exact znJ w x oa n c hM s a ha hs hb' _ hg hl.2 hbl
  rw[if_neg c1]at hk he;have hz:qL s a=a:=TN (by omega);rw[hz]at hbl;by_cases c2:by8 s a=10
  ·rw[if_pos c2]at hk he
   rw[ht,hx,hk,he];have hy:jw x 2 (decide (2=6)&& Z7 (s.extract a (a+1))) (s.extract a (a+1))=⟨0,x.pend,decide (0<n)⟩:=by
    unfold jw;rw[if_neg (by decide),if_neg (by decide),if_pos rfl,hnl];cases x.pend<;>simp
   rw[hy];exact znK w x oa n c hM s a ha hs hb' hbl c2
  rw[if_neg c2]at hk he;by_cases c3:by8 s a=35
  ·rw[if_pos c3]at hk he
   rw[ht,hx,hk,he];have hy:jw x 3 (decide (3=6)&& Z7 (s.extract a (vk s a))) (s.extract a (vk s a))=⟨0,x.pend,false⟩:=by
    unfold jw;rw[if_neg (by decide),if_neg (by decide),if_neg (by decide),if_neg (by decide),if_neg (λh=>by have:=h.1;omega),hb']
   rw[hy];exact znL w x oa n c hM s a ha hs hb' hbl c3 _ (λb h1 h2 h3 h4=>(DU h1 h2 h3 h4).symm)
  rw[if_neg c3]at hk he;have hat:=λW=>zml s a W (by omega) (Nat.le_of_lt ha);by_cases c4:yS s a≠0
  ·rw[if_pos c4]at hk he
   rw[ht,hx,hk,he];have hot:=znF c4;have Rf:=(dI (nS c4)).2;have hy:jw x 4 (decide (4=6)&& Z7 (s.extract a (a+(txt (yS s a)).size))) (s.extract a (a+(txt (yS s a)).size))=⟨if yS s a=4\/yS s a=5 then yS s a else 0,x.pend,false⟩:=by
    unfold jw;rw[if_neg (by decide),if_neg (by decide),if_neg (by decide),if_pos rfl,hot,hb']
   rw[hy];have htx:=λW=>rW (yS s a) _ rfl W;generalize yS s a=o at hat htx Rf c4 ⊢;by_cases o4:o=4
   ·subst o4
    exact znM w x oa n c hM s a ha hs hb' hbl _ rfl c2 c3 hat _ Rf htx
   ·by_cases o5:o=5
    ·subst o5
     exact znN w x oa n c hM s a ha hs hb' hbl _ rfl c2 c3 hat _ Rf htx
    ·rw[if_neg (by omega)]
     exact znO w x oa n c hM s a ha hs hb' hbl _ rfl c2 c3 o (by omega) o4 o5 hat _ Rf htx
  rw[if_neg c4]at hk he;have c40:yS s a=0:=by omega
  rw[c40]at hat
  have hrl:=WX s a 6;have hR:∀b,a<=b->b<=s.size->(∀i,a<=i->i<b->cls (by8 s i)=6)->(b<s.size->cls (by8 s b)≠6)->b=a+yP s a 6:=λb h1 h2 h3 h4=>by
   have:yP s a 6=b-a:=Xq _ (by omega) (λi hi=>by
    have e:cl s (a+i)=6:=h3 (a+i) (by omega) (by omega);simpa using e) (λhi=>by
    have e:=h4 (by omega);rw[show a+(b-a)=b by omega];have e':cl s b≠6:=e;simpa using e')
   omega
  have hnd:Zo s a=if a+yP s a 6<s.size/\(by8 s (a+yP s a 6)=60\/by8 s (a+yP s a 6)=62)then yP s a 6 else 0:=rfl
  by_cases c5:Zo s a≠0
  ·rw[if_pos c5]at hk he
   rw[ht,hx,hk,he];have hc:a+yP s a 6<s.size/\(by8 s (a+yP s a 6)=60\/by8 s (a+yP s a 6)=62):=by
    by_cases g:a+yP s a 6<s.size/\(by8 s (a+yP s a 6)=60\/by8 s (a+yP s a 6)=62)
    ·exact g
    ·rw[if_neg g]at hnd;exact absurd hnd c5
   rw[if_pos hc]at hnd;have hy:jw x 5 (decide (5=6)&& Z7 (s.extract a (a+Zo s a))) (s.extract a (a+Zo s a))=⟨0,x.pend,false⟩:=by
    unfold jw;rw[if_neg (by decide),if_neg (by decide),if_neg (by decide),if_neg (by decide),if_neg (λh=>by have:=h.1;omega),hb']
   rw[hy,hnd];exact znP w x oa n c hM s a ha hs hb' hbl _ rfl c2 c3 hat _ (by omega) (by omega) hR (by omega) hc.1 _ rfl hc.2
  rw[if_neg c5]at hk he;rw[ht,hx,hk,he];rw[he]at sV;have hnum:a<a+yP s a 6->a+yP s a 6<s.size->by8 s (a+yP s a 6)≠60/\by8 s (a+yP s a 6)≠62:=λh1 h2=>by
   by_cases g:a+yP s a 6<s.size/\(by8 s (a+yP s a 6)=60\/by8 s (a+yP s a 6)=62)
   ·rw[if_pos g]at hnd;omega
   ·exact⟨λe=>g ⟨h2,.inl e⟩,λe=>g ⟨h2,.inr e⟩⟩
  have hend:∀W,Calls prog 96 #[.string s,.int .i64 (a:Int)] W λe w'=>e=.returned (.int .i64 ((jb s a:Nat):Int))/\Below W.heap.size W w':=λW=>(zfR W s a (Nat.le_of_lt ha) (by omega)).mono (λe w' h=>by
   obtain⟨⟨m,h1,h2⟩,h3⟩:=h;rw[h2.one (znW (Nat.le_of_lt ha))]at h1;exact⟨h1,h3⟩)
  have hxz:(s.extract a (jb s a)).size<=60000:=by rw[ByteArray.size_extract];omega
  have hsh:=λW=>znq W (s.extract a (jb s a)) (by omega);have hop:(decide (6=6)&& Z7 (s.extract a (jb s a)))=Z7 (s.extract a (jb s a)):=by simp
  rw[hop];by_cases hA0:x.await=0
  ·have hy:jw x 6 (Z7 (s.extract a (jb s a))) (s.extract a (jb s a))=⟨0,x.pend,false⟩:=by
    unfold jw;rw[if_neg (by decide),if_neg (by decide),if_neg (by decide),if_neg (by decide),if_neg (λh=>h.2 hA0),hb']
   rw[hy];exact znQ w x oa n c hM s a ha hs hb' hA0 hbl _ rfl c2 c3 hat _ (by omega) (by omega) hR hnum _ sV.1 sV.2 _ hend hsh
  ·have hy:jw x 6 (Z7 (s.extract a (jb s a))) (s.extract a (jb s a))=⟨0,x.pend++ [⟨vW (kS (s.extract a (jb s a))),decide (x.await=5)⟩],false⟩:=by
    unfold jw;rw[if_neg (by decide),if_neg (by decide),if_neg (by decide),if_neg (by decide),if_pos ⟨rfl,hA0⟩,hb']
   rw[hy];exact znR w x oa n c hM s a ha hs hb' hA0 hA1 hpl hbl _ rfl c2 c3 hat _ (by omega) (by omega) hR hnum _ sV.1 sV.2 _ hend hsh _ (λW=>zeU W _ hxz)
end
theorem znY{x:Lx}{k:Nat}{op:Bool}{t:ByteArray}(h:x.body=true->x.pend≠ []):(jw x k op t).body=true->(jw x k op t).pend≠ []:=by
 unfold jw;by_cases k7:k=7
 ·rw[if_pos k7]
  by_cases ho:op=true
  ·rw[if_pos ho];exact h
  ·rw[if_neg ho]
   intro hb e;have hb':(!x.pend.tail.isEmpty && x.body)=true:=hb;have e':x.pend.tail=[]:=e;rw[e']at hb';simp at hb'
 rw[if_neg k7];by_cases k1:k=1
 ·rw[if_pos k1];exact h
 rw[if_neg k1];by_cases k2:k=2
 ·rw[if_pos k2]
  intro hb e;have hb':(!x.pend.isEmpty)=true:=hb;have e':x.pend=[]:=e;rw[e']at hb';simp at hb'
 rw[if_neg k2];by_cases k4:k=4
 ·rw[if_pos k4];exact h
 rw[if_neg k4];by_cases k6:k=6/\x.await≠0
 ·rw[if_pos k6]
  intro _ e;exact absurd (List.append_eq_nil_iff.1 e).2 (by simp)
 ·rw[if_neg k6];exact h
theorem znZ{s:ByteArray}{a:Nat}{x:Lx}(h:x.body=true->x.pend≠ []):(qY s a x).body=true->(qY s a x).pend≠ []:=znY h
def RlI(s:ByteArray)(w:World)(B3 B5 z:Nat)(v4 v6:Value)(wr:World):Prop:=
 ∃(a:Nat) (x:Lx) (pre:List (Tk×Lx)) (oa:Option Addr) (n c:Nat),v6=.int .i64 (a:Int)/\a<=s.size/\vY s=pre++Yj s (s.size-a) a x/\wr.ownsRow z 67 4 v4 pre.length (YX (pre.map Prod.fst))/\
  zf wr B5 #[.int .i64 (x.await:Int),.slice oa n c,.bool x.body] 62/\zf wr B3 #[.int .i64 0,.slice none 0 0,.bool false] 62/\YZ wr (.slice oa n c) x/\(x.body=true->x.pend≠ [])/\x.await<=1000/\x.pend.length<=a/\Yk pre=x/\Below w.heap.size w wr/\z<=wr.heap.size/\pre.length<=a/\
  (∀g,(Value.slice oa n c).ownBlock=some g->v4.ownBlock≠some g/\z<=g)
section
variable(w:World)
theorem zn0(s:ByteArray)(hs:s.size<=900):
  Calls prog 41 #[.string s] w λe w'=>∃v oa n c,e=.returned (.tuple #[v,zM (Yk (vY s)) (.slice oa n c)])/\w'.ownsRow w.heap.size 67 4 v (vY s).length (YX ((vY s).map Prod.fst))/\YZ w' (.slice oa n c) (Yk (vY s))/\Below w.heap.size w w':=by
 have k3:=(zf.new w #[.int .i64 0,.slice none 0 0,.bool false] 62).alloc (.cells #[.int .i64 0,.slice none 0 0,.bool false] 62);have k5:=kJ w (.cells #[.int .i64 0,.slice none 0 0,.bool false] 62) #[.int .i64 0,.slice none 0 0,.bool false] 62;have hB:=KN w (.cells #[.int .i64 0,.slice none 0 0,.bool false] 62) (.cells #[.int .i64 0,.slice none 0 0,.bool false] 62);go_enter func41,ntmps41;go_wp2;obtain⟨W0,hW0⟩:∃X,(w.alloc (.cells #[.int .i64 0,.slice none 0 0,.bool false] 62)).alloc (.cells #[.int .i64 0,.slice none 0 0,.bool false] 62)=X:=⟨_,rfl⟩;have hz0:W0.heap.size=w.heap.size+2:=by rw[←hW0];simp
 obtain⟨B3,hB3⟩:∃x,w.heap.size=x:=⟨_,rfl⟩;rw[hW0]at k3 k5 hB ⊢;rw[hB3]at k3 k5 hz0 ⊢;have HB3:=hid hB3;have HB:=hid hB;clear hW0 hB3 hB
 go_loopw [4,6] (λv4 v6 wr=>RlI s w B3 (B3+1) (B3+2) v4 v6 wr) (λ_ v _=>s.size-(intOf v).toNat)
 case atStart=>exact⟨0,Lx.zero,[],none,0,0,rfl,Nat.zero_le _,rfl,World.ownsRow_nil _ _ _ _,k5,k3,⟨.inl ⟨rfl,rfl,rfl⟩,⟨none,0,rfl,Nat.le_refl _⟩⟩,(λh=>by cases h),Nat.zero_le _,Nat.zero_le _,rfl,HB.out,by omega,Nat.zero_le _,λg h=>by cases h⟩
 case round=>
  obtain⟨a,x,pre,oa,n,c,rfl,has,hL,hown,h5,h3,hM,hbd,haw,hpl,II,hBw,hzw,zdx,hg⟩:=hrel;clear k3 k5;obtain⟨ov,cv,rfl⟩:=KX hown;have a0:=h5.cell 0;have a1:=h5.cell 1;have a2:=h5.cell 2;by_cases hlt:a<s.size
  ·have q1:(a:Int)<(s.size:Int):=by omega
   have hst:=znX wr x oa n c hM s a hlt (by omega) hbd haw (by omega);have hlx:=zc3 x hlt;rw[hlx]at hL;have hok:=Rj x hlt;have hnk:=zc5 x hlt hpl haw;have hnb:=znZ (s:=s) (a:=a) hbd;generalize xB s a x=t at hst hL hok hnk;generalize qY s a x=y at hst hL hnk hnb;unfold zM at hst;obtain⟨zp,hzp⟩:∃zp,pre.length=zp:=⟨_,rfl⟩;rw[hzp]at zdx hown hg ⊢;have Qs:=hid hzp;have HST:=hid hst;have HL:=hid hL;have HH:=hid (And.intro hnk (And.intro hnb hg));have hol:=kK hown;have hog:=xx hown;have GI:=hid hol;have Ru:=hid hog;have HO:=hid hown;have yg:=hid hBw;have h5l:=h5.lt;have h3l:=h3.lt;clear hst hL hlx hnk hnb hg hM hbd II hown hol hog hBw hzp
   go_wp2_with fail
   refine(HST.out).mono ?_;rintro e w1 ⟨kV,n1,c1,rfl,hM1,hb1,zdy⟩;unfold xw zM;obtain⟨tk,tf,te,top⟩:=t;obtain⟨hk1,hk2,hk3⟩:=hok;dsimp only at hk1 hk2 hk3;subst hk1;have h51:=h5.below hb1;have h31:=h3.below hb1;have ho1:=uh HO.out hb1;have hs1:=hb1.size;have zt:=hid hM1;have QQ:=hid zdy;have HB1:=hid hb1;clear hM1 zdy hb1 h5 h3 a0 a1 a2
   go_upto_region 6 with fail
   have hB2:=KN w1 (.cells #[.int .i64 (tk:Int),.int .i64 (tf:Int),.int .i64 (te:Int),.bool top] 67) (.cells #[.int .i64 (y.await:Int),.slice kV n1 c1,.bool y.body] 62);have KP:zf ((w1.alloc (.cells #[.int .i64 (tk:Int),.int .i64 (tf:Int),.int .i64 (te:Int),.bool top] 67)).alloc (.cells #[.int .i64 (y.await:Int),.slice kV n1 c1,.bool y.body] 62)) w1.heap.size _ _:=(zf.new w1 #[.int .i64 (tk:Int),.int .i64 (tf:Int),.int .i64 (te:Int),.bool top] 67).alloc _;have QC:=kJ w1 (.cells #[.int .i64 (tk:Int),.int .i64 (tf:Int),.int .i64 (te:Int),.bool top] 67) #[.int .i64 (y.await:Int),.slice kV n1 c1,.bool y.body] 62;obtain⟨W2,hW2⟩:∃X,(w1.alloc (.cells #[.int .i64 (tk:Int),.int .i64 (tf:Int),.int .i64 (te:Int),.bool top] 67)).alloc (.cells #[.int .i64 (y.await:Int),.slice kV n1 c1,.bool y.body] 62)=X:=⟨_,rfl⟩;have hz2:W2.heap.size=w1.heap.size+2:=by rw[←hW2];simp
   rw[hW2]at hB2 KP QC ⊢;have h52:=h51.below hB2;have h32:=h31.below hB2;have ho2:=uh ho1 hB2;have hs2:=hB2.size;obtain⟨z1,hz1⟩:∃z,w1.heap.size=z:=⟨_,rfl⟩;have HZ1:=hid hz1;have HB2:=hid hB2;have sW:=hid ho2;have HY2:=hid QC;have HT2:=hid KP;have H52:=hid h52;have H32:=hid h32;rw[hz1]at HY2 HT2 hz2 hs1 ⊢;have hz2':z1+2<=W2.heap.size/\W2.heap.size<=z1+2:=by omega
   clear hz2;clear hW2 hz1 hB2 ho1 ho2 QC KP h51 h31 h52 h32 hs2;have kt0:=HT2.out.cell 0;have KU:=HT2.out.cell 1;have zo4:=HT2.out.cell 2;have Qz:=HT2.out.cell 3
   go_wp2_with (at_builtin;refine Zq rfl _ _ 59 67 4 32 _ rfl underlying59 zc6 rfl (by omega) (by omega) (B3+2) (.slice ov zp cv) zp (YX (pre.map Prod.fst)) rfl (sW.out.alloc _) _ 1 (QA ⟨tk,tf,te,top⟩) rfl (zc9 (x:=⟨tk,tf,te,top⟩) (zf.new W2 _ _)) rfl (zc8 _) (by omega) (by rw[World.size_alloc];omega) (zp+1) rfl ?_;intro VL c8 W8 JY Zz LH;have Rw:=(H52.out.alloc (.cells #[.int .i64 (tk:Int),.int .i64 (tf:Int),.int .i64 (te:Int),.bool top] 67)).grown Zz (λe=>by have:=Ru.out _ e.symm;omega);have D7:=(HY2.out.alloc (.cells #[.int .i64 (tk:Int),.int .i64 (tf:Int),.int .i64 (te:Int),.bool top] 67)).grown Zz (λe=>by have:=GI.out _ e.symm;omega);have kt8:=(HT2.out.alloc (.cells #[.int .i64 (tk:Int),.int .i64 (tf:Int),.int .i64 (te:Int),.bool top] 67)).grown Zz (λe=>by have:=GI.out _ e.symm;omega);have s0:=D7.cell 0;have s1:=D7.cell 1;have s2:=D7.cell 2;have e0:=Rw.cell 0;have e1:=Rw.cell 1;have e2:=Rw.cell 2;have f0:=Rw.frozen 0;have f1:=Rw.frozen 1;have f2:=Rw.frozen 2;have t2:=((kt8.other 0 (.int .i64 (y.await:Int)) (b':=B3+1) (by omega)).other 1 (.slice kV n1 c1) (b':=B3+1) (by omega)).other 2 (.bool y.body) (b':=B3+1) (by omega);have t2c:=t2.cell 2)
   go_roundw
   case rel=>
    have zo5:Below w1.heap.size w1 W8->True:=λ_=>trivial;have h38:=(H32.out.alloc (.cells #[.int .i64 (tk:Int),.int .i64 (tf:Int),.int .i64 (te:Int),.bool top] 67)).grown Zz (λe=>by have:=Ru.out _ e.symm;omega);have Zj:zg (λb=>b=B3+1) W8 (((W8.setCell ⟨B3+1,0,none⟩ (.int .i64 (y.await:Int))).setCell ⟨B3+1,1,none⟩ (.slice kV n1 c1)).setCell ⟨B3+1,2,none⟩ (.bool y.body)):=
     zg.setCell (p:=λb=>b=B3+1) (zg.setCell (p:=λb=>b=B3+1) (zg.setCell (p:=λb=>b=B3+1) (zg.refl _ W8) 0 (.inl rfl) _) 1 (.inl rfl) _) 2 (.inl rfl) _
    have h59:=((Rw.set 0 (.int .i64 (y.await:Int))).set 1 (.slice kV n1 c1)).set 2 (.bool y.body);obtain⟨hnk,hnb,hg⟩:=HH.out;have zn1:=xx JY;have hwr2:Below w.heap.size w W2:=(yg.out.trans (HB1.out.mono yg.out.size)).trans (HB2.out.mono (Nat.le_trans yg.out.size HB1.out.size));have hw8:Below w.heap.size w W8:=(hwr2.alloc hwr2.size _).grown Zz (by rw[World.size_alloc];have:=hwr2.size;omega) (λk hk=>by have:=Ru.out k hk;have:=HB3.out;omega);have hg1:∀g,(Value.slice kV n1 c1).ownBlock=some g->(Value.slice ov zp cv).ownBlock≠some g/\B3+2<=g/\g<w1.heap.size:=λg hgo=>by
     have hlt1:=VZ zt.out.src g hgo;rcases QQ.out g hgo with q|q
     ·have:=hg g q
      exact⟨this.1,this.2,hlt1⟩
     ·exact⟨λe=>by have:=GI.out g e;omega,by omega,hlt1⟩
    have hs8:W2.heap.size<=W8.heap.size:=by have:=Zz.size;rw[World.size_alloc]at this;omega
    have hz1:=HZ1.out;refine⟨te,y,pre++ [(⟨tk,tf,te,top⟩,y)],kV,n1,c1,rfl,hk3,?_,?_,h59,h38.zh Zj (by omega),?_,hnb,hnk.2,hnk.1,zda _ _,hw8.trans (Zj.below hw8.size (λb hb=>by have:=HB3.out;omega)),?_,?_,λg hgo=>?_⟩
    ·rw[HL.out,List.append_assoc];rfl
    ·have hlen:(pre++ [((⟨tk,tf,te,top⟩:Tk),y)]).length=zp+1:=by rw[List.length_append,Qs.out];rfl
     rw[hlen,List.map_append,zc7];have:=xq Zj JY (λg hgo e=>by have:=zn1 g hgo;omega);simpa[YX]using this
    ·refine⟨?_,zt.out.cap⟩
     have h1:=(zt.out.src.below HB2.out).below ((Below.refl _ W2).alloc (Nat.le_refl _) (.cells #[.int .i64 (tk:Int),.int .i64 (tf:Int),.int .i64 (te:Int),.bool top] 67));have hFg:zg (λb=>(Value.slice ov zp cv).ownBlock=some b) (W2.alloc (.cells #[.int .i64 (tk:Int),.int .i64 (tf:Int),.int .i64 (te:Int),.bool top] 67)) W8:=(zg.refl _ _).grown Zz (λk hk=> .inl hk);exact(h1.zh hFg (λg hgo e=>(hg1 g hgo).1 e)).zh Zj (λg hgo e=>by have:=(hg1 g hgo).2.1;omega)
    ·have:=Zj.size;omega
    ·rw[List.length_append,Qs.out]
     show zp+1<=te;omega
    ·refine⟨λe=>?_,(hg1 g hgo).2.1⟩
     rcases LH with q|q
     ·exact(hg1 g hgo).1 (q▸e)
     ·rw[q,World.size_alloc]at e
      injection e with e;have:=(hg1 g hgo).2.2;omega
   case measure=>simp[intOf];omega
  ·have q1:¬(a:Int)<(s.size:Int):=by omega
   rw[zc4 x hlt,List.append_nil]at hL;have Le:=hid hL;have r0:=h3.cell 0;have r1:=h3.cell 1;have r2:=h3.cell 2;have YE:=h3.frozen 0;have YF:=h3.frozen 1;have YG:=h3.frozen 2;have k9:=((h3.set 0 (.int .i64 (x.await:Int))).set 1 (.slice oa n c)).set 2 (.bool x.body);have Zj:zg (λb=>b=B3) wr (((wr.setCell ⟨B3,0,none⟩ (.int .i64 (x.await:Int))).setCell ⟨B3,1,none⟩ (.slice oa n c)).setCell ⟨B3,2,none⟩ (.bool x.body)):=
    zg.setCell (p:=λb=>b=B3) (zg.setCell (p:=λb=>b=B3) (zg.setCell (p:=λb=>b=B3) (zg.refl _ wr) 0 (.inl rfl) _) 1 (.inl rfl) _) 2 (.inl rfl) _
   have HF:=hid Zj;have HK:=hid k9;have HO:=hid hown;have HX:=hid II;have HG:=hid hg;have HM:=hid hM;have yg:=hid hBw;obtain⟨zp,hzp⟩:∃zp,pre.length=zp:=⟨_,rfl⟩;rw[hzp]at HO ⊢;have Qs:=hid hzp;clear Zj k9 hown II hg hM hBw hL hbd hzp zdx;go_wp2
   go_region
   go_wp2;have c0:=HK.out.drew.cell 0;have c1:=HK.out.drew.cell 1;have c2:=HK.out.drew.cell 2;refine bodyPost_ret (v:=.tuple #[.slice ov zp cv,.agg #[.int .i64 (x.await:Int),.slice oa n c,.bool x.body]]) (by simp[results,results41,go_sem,c0,c1,c2]) rfl ?_;have hTK:vY s=pre:=Le.out;rw[hTK,HX.out];have hge:=xx HO.out;refine⟨_,oa,n,c,rfl,?_,⟨?_,HM.out.cap⟩,?_⟩
   ·rw[Qs.out]
    exact dh (uh (xq HF.out HO.out (λg hg e=>by have:=hge g hg;omega)) ((Below.refl _ _).drew)) (by have:=HB3.out;omega)
   ·exact(HM.out.src.zh HF.out (λg hg e=>by have:=(HG.out g hg).2;omega)).below ((Below.refl _ _).drew)
   ·exact(yg.out.trans (HF.out.below yg.out.size (λb hb=>by have:=HB3.out;omega))).drew
end
theorem YZ.len{W:World}{oa:Option Addr}{n c:Nat}{x:Lx}(h:YZ W (.slice oa n c) x):n=x.pend.length:=by
 obtain⟨xC,c',he,_⟩:=h.cap;injection he
open _root_.List renaming length_map->wao
theorem zdG(s:ByteArray):∀(k a:Nat) (x:Lx),∀q∈Yj s k a x,q.1.zh<q.1.en/\q.1.en<=s.size
 |0,a,x,q,h=>by cases h
 |k+1,a,x,q,h=>by
  unfold Yj at h;by_cases g:a<s.size
  ·rw[if_pos g]at h
   have hok:=Rj x g;rcases List.mem_cons.1 h with e|e
   ·subst e
    show(xB s a x).zh<(xB s a x).en/\(xB s a x).en<=s.size;omega
   ·exact zdG s k _ _ q e
  ·rw[if_neg g]at h
   cases h
theorem zn7{s:ByteArray}{t:Tk}(h:t∈(vY s).map Prod.fst):t.zh<t.en/\t.en<=s.size:=by
 obtain⟨q,h1,h2⟩:=List.mem_map.1 h;subst h2;exact zdG s _ _ _ q h1
def RvI(s:ByteArray)(l:List Tz)(w W0:World)(v5 v6:Value)(wr:World):Prop:=
 ∃i:Nat,i<=l.length/\v6=.int .i64 (i:Int)/\wr.ownsRow W0.heap.size 37 4 v5 (uJ s (l.take i)).length (ZH (uJ s (l.take i)))/\Below W0.heap.size W0 wr
section
variable(w:World)
theorem zkb(s:ByteArray)(hs:s.size<=900):Calls prog 18 #[.string s] w λe w'=>∃v,e=.returned v/\w'.ownsRow w.heap.size 37 4 v (uJ s (((vY s).map Prod.fst).map Tk.z)).length (ZH (uJ s (((vY s).map Prod.fst).map Tk.z)))/\Below w.heap.size w w':=by
 have KC:=hid (λW=>zn0 W s hs);have hlen:=NH s s.size 0 Lx.zero;rw[show Yj s s.size 0 Lx.zero=vY s from rfl]at hlen;have xP:=hid (λt=>@zn7 s t);generalize Yk (vY s)=X at*;obtain⟨L,hL⟩:∃L,(vY s).map Prod.fst=L:=⟨_,rfl⟩;obtain⟨N,hN⟩:∃N,(vY s).length=N:=⟨_,rfl⟩;have hLN:N=L.length:=by rw[←hL,wao,hN]
 rw[hL,hN]at KC;rw[hL]at xP ⊢;rw[hN]at hlen;have VX:=hid hLN;clear hL hN hLN;go_enter func18,ntmps18
 go_wp2_with fail
 refine(KC.out _).mono ?_;rintro e w2 ⟨v,oa,n,c,rfl,ho,hM,hb2⟩;obtain⟨ot,ct,rfl,hK⟩:=Ku.Y2 VX.out ho;have hba:=(Below.refl w2.heap.size w2).alloc (Nat.le_refl _) (.cells #[.int .i64 (X.await:Int),.slice oa n c,.bool X.body] 62);have HB2:=hid (hb2.alloc hb2.size (.cells #[.int .i64 (X.await:Int),.slice oa n c,.bool X.body] 62));have uI:=hid (hK.below hba);unfold zM;clear ho hM hK hb2 hba;go_wp2;obtain⟨W0,hW0⟩:∃Z,w2.alloc (.cells #[.int .i64 (X.await:Int),.slice oa n c,.bool X.body] 62)=Z:=⟨_,rfl⟩;rw[hW0]at HB2 uI ⊢;clear hW0
 go_loopw [5,6] (λv5 v6 wr=>RvI s (L.map Tk.z) w W0 v5 v6 wr) (λ_ v _=>N-(intOf v).toNat)
 case atStart=>exact⟨0,Nat.zero_le _,rfl,World.ownsRow_nil _ _ _ _,Below.refl _ _⟩
 case round=>
  obtain⟨i,hi,rfl,hown,hBw⟩:=hrel;rw[wao]at hi;obtain⟨ov,cv,rfl⟩:=KX hown;have HO:=hid hown;have yg:=hid hBw;have IL:=PV s ((L.map Tk.z).take i);rw[List.length_take,wao]at IL;by_cases hlt:i<N
  ·have q1:(i:Int)<(N:Int):=by omega
   have q0:(0:Int)<=(i:Int):=by omega
   have hxa:L[i]?=some (L[i]'(by have:=VX.out;omega)):=List.getElem?_eq_getElem _;generalize L[i]'(by have:=VX.out;omega)=x at hxa;have hxz:(L.map Tk.z)[i]?=some x.z:=by rw[List.getElem?_map,hxa];rfl
   have hstep:=zdC s hxz;obtain⟨hx1,hx2⟩:=xP.out x (List.mem_of_getElem? hxa);obtain⟨g1,o1,rfl,h1,b0,b1,b2,b3⟩:=uI.out.cells i x hxa;have hF:Kt s x.z=if WW (x.kind:Int)=true then [⟨(x.kind:Int),s.extract x.zh x.en,(x.zh:Int),(x.en:Int)⟩]else []:=by
    have hin:KW s x.z=true:=by
     unfold KW Tk.z;simp only[Bool.and_eq_true,decide_eq_true_eq];omega
    unfold Kt J4;rw[hin];simp only[and_true,if_true];rfl
   rw[hF]at hstep;obtain⟨tk,tf,te,top⟩:=x;dsimp only at*;have hgB:∀W,Below W0.heap.size W0 W->W.cell? ⟨g1,o1+i*4,none⟩=some (.int .i64 (tk:Int))/\W.cell? ⟨g1,o1+i*4+1,none⟩=some (.int .i64 (tf:Int))/\W.cell? ⟨g1,o1+i*4+2,none⟩=some (.int .i64 (te:Int)):=λW hW=>⟨(hW.cell (p:=⟨g1,_,none⟩) h1).trans b0,(hW.cell (p:=⟨g1,_,none⟩) h1).trans b1,(hW.cell (p:=⟨g1,_,none⟩) h1).trans b2⟩;have IM:=hid hgB;have c0:=(hgB _ hBw).1;clear hgB b0 b1 b2 b3;obtain⟨TX,KT⟩:∃TX,s.extract tf te=TX:=⟨_,rfl⟩;obtain⟨z,hz⟩:∃z,(uJ s ((L.map Tk.z).take i)).length=z:=⟨_,rfl⟩;rw[hz]at HO IL ⊢;have HZ:=hid hz;have YY:=hid hstep;have sZ:i+1<=(L.map Tk.z).length:=by rw[wao];have:=VX.out;omega
   have D9:=hid sZ;have hol:=kK HO.out;have hog:=xx HO.out;have GI:=hid hol;have Ru:=hid hog;have Vp:=hid KT;obtain⟨K,hK⟩:∃K,WW (tk:Int)=K:=⟨_,rfl⟩;have HKK:=hid hK;clear hown hxa hxz hF hstep sZ hz hol hog KT hK uI xP
   go_upto_region 7 with fail
   go_cut [37]from 24 to 37 (λv wx=>v=.bool K/\wx=wr)
   case first=>
    have X8:=HKK.out;unfold WW at X8;by_cases k2:tk=2
    ·subst k2
     have Qu:=hid X8;clear X8;go_wp2;go_meet;case rel=>exact⟨by rw[←Qu.out];rfl,by first|rfl|trivial⟩
    have t2:((tk:Int)==2)=false:=beq_eq_false_iff_ne.2 (by omega);have d2:decide ((tk:Int)=2)=false:=decide_eq_false (by omega);rw[d2]at X8;by_cases k4:tk=4
    ·subst k4
     have Qu:=hid X8;clear X8 d2;go_wp2;go_meet;case rel=>exact⟨by rw[←Qu.out];rfl,by first|rfl|trivial⟩
    have t4:((tk:Int)==4)=false:=beq_eq_false_iff_ne.2 (by omega);have d4:decide ((tk:Int)=4)=false:=decide_eq_false (by omega);rw[d4]at X8;by_cases k5:tk=5
    ·subst k5
     have Qu:=hid X8;clear X8 d2 d4;go_wp2;go_meet;case rel=>exact⟨by rw[←Qu.out];rfl,by first|rfl|trivial⟩
    have t5:((tk:Int)==5)=false:=beq_eq_false_iff_ne.2 (by omega);have d5:decide ((tk:Int)=5)=false:=decide_eq_false (by omega);rw[d5]at X8;by_cases k6:tk=6
    ·subst k6
     have Qu:=hid X8;clear X8 d2 d4 d5;go_wp2;go_meet;case rel=>exact⟨by rw[←Qu.out];rfl,by first|rfl|trivial⟩
    have t6:((tk:Int)==6)=false:=beq_eq_false_iff_ne.2 (by omega);have d6:decide ((tk:Int)=6)=false:=decide_eq_false (by omega);rw[d6]at X8;have Qu:=hid X8;clear X8 d2 d4 d5 d6 k2 k4 k5 k6;go_wp2;go_meet;case rel=>exact⟨by rw[←Qu.out];rfl,by first|rfl|trivial⟩
   case rest=>
    obtain⟨hv,hw⟩:=hcut;subst hv;subst hw
    cases K with
    |false=>
     have hs2:wc.ownsRow W0.heap.size 37 4 (.slice ov z cv) (uJ s ((L.map Tk.z).take (i+1))).length (ZH (uJ s ((L.map Tk.z).take (i+1)))):=by
      rw[YY.out,if_neg (by rw[HKK.out];simp),List.append_nil,HZ.out];exact HO.out
     have HS2:=hid hs2;clear hs2;go_wp2
     go_roundw
     case rel=>exact⟨i+1,D9.out,by go_num,HS2.out,yg.out⟩
     case measure=>simp[intOf];omega
    |true=>
     have r0:(0:Int)<=(tf:Int):=by omega
     have r1:(tf:Int)<=(te:Int):=by omega
     have r2:(te:Int)<=(s.size:Int):=by omega
     have e0:wc.drew.cell? ⟨g1,o1+i*4+1,none⟩=some (.int .i64 (tf:Int))/\wc.drew.cell? ⟨g1,o1+i*4+2,none⟩=some (.int .i64 (te:Int)):=(IM.out _ yg.out.drew).2;have ea:∀o,((wc.alloc o).drew).cell? ⟨g1,o1+i*4+1,none⟩=some (.int .i64 (tf:Int))/\((wc.alloc o).drew).cell? ⟨g1,o1+i*4+2,none⟩=some (.int .i64 (te:Int)):=λo=>(IM.out _ ((yg.out.alloc yg.out.size o).drew)).2;clear c0
     go_upto_region 8 with fail
     go_region_held_law (λw'=>w'.cell? ⟨g1,o1+i*4+1,none⟩=some (.int .i64 (tf:Int))/\w'.cell? ⟨g1,o1+i*4+2,none⟩=some (.int .i64 (te:Int))) (first|exact e0|exact ea _|exact s9) (first
      |(refine QE (by rfl) _ _ 22 37 4 40 _ (by rfl) underlying22 zdz rfl (by omega) (by omega) W0.heap.size (.slice ov z cv) z (ZH (uJ s ((L.map Tk.z).take i))) (by rfl) (MN (Y7 HO.out _)) _ 1 (QD ⟨(tk:Int),s.extract tf te,(tf:Int),(te:Int)⟩) (by rfl) (zdA (x:=⟨(tk:Int),s.extract tf te,(tf:Int),(te:Int)⟩) ((zf.new wc _ _).drew)) rfl (zdD _) (by omega) (by show W0.heap.size<=(wc.alloc _).heap.size;rw[World.size_alloc];have:=yg.out.size;omega) (z+1) rfl ?_;intro Ya c9 w9 YW KO DW;have YS:Below W0.heap.size W0 w9:=((yg.out.alloc yg.out.size _).drew).grown KO (by show W0.heap.size<=(wc.alloc _).heap.size;rw[World.size_alloc];have:=yg.out.size;omega) (λk hk=>Ru.out k hk);have s9:=(IM.out _ YS).2))
     all_goals
      have hown:w9.ownsRow W0.heap.size 37 4 (.slice Ya (z+1) c9) (uJ s ((L.map Tk.z).take (i+1))).length (ZH (uJ s ((L.map Tk.z).take (i+1)))):=by
       rw[YY.out,if_pos HKK.out,zdF,List.length_append,HZ.out];simpa[ZH]using YW
      have HOWN:=hid hown;have IK:=hid YS;clear hown YS s9 KO YW e0 ea;go_wp2
      go_roundw
      case rel=>exact⟨i+1,D9.out,by go_num,HOWN.out,IK.out⟩
      case measure=>simp[intOf];omega
  ·have q1:¬(i:Int)<(N:Int):=by omega
   have hin:i=(L.map Tk.z).length:=by rw[wao];have:=VX.out;omega
   have he:(L.map Tk.z).take i=L.map Tk.z:=by rw[hin,List.take_length]
   rw[he]at hown ⊢;have sW:=hid hown;clear hown HO IL hin he;go_wp2;go_ret;exact⟨_,rfl,dh sW.out HB2.out.size,HB2.out.trans (yg.out.mono HB2.out.size)⟩
end
end Go.Proofs.YtkolpaonccmgiaaGreatDoor

/- What Step of the document's own layer 9 returns: a -/
import Derived.Test.YtdjcidackkogjaaGreatDoorTkR
import Derived.Test.YtdjcidackkogjaaGreatDoorTkB
import Derived.Test.YtdjcidackkogjaaGreatDoorQm
namespace Go.Proofs.YtdjcidackkogjaaGreatDoor
set_option linter.unusedSectionVars false
set_option linter.unusedVariables false
open Lib(hid)
set_option maxHeartbeats 8000000
set_option maxRecDepth 100000
open Go.RowKit
structure yR(W:World)(pv:Value)(x:Lx):Prop where
 src:Src W pv x.pend.length (zx x.pend)
 cap:∃oa c,pv=.slice oa x.pend.length c∧x.pend.length≤c
theorem yR.below{W W':World}{pv:Value}{x:Lx}(h:yR W pv x)(hb:Below W.heap.size W W'):yR W' pv x:=⟨h.src.below hb,h.cap⟩
theorem yR.same{W:World}{pv:Value}{x y:Lx}(h:yR W pv x)(hp:y.pend=x.pend):yR W pv y:=by
 obtain⟨h1,h2⟩:=h;rw[←hp]at h1 h2;exact⟨h1,h2⟩
def Yc(w:World)(p:Value)(t:Tk)(y:Lx)(e:Ending)(w':World):Prop:=∃oa n c,e=.returned (.tuple #[yJ t,zD y (.slice oa n c)])∧yR w' (.slice oa n c) y∧Below w.heap.size w w'∧∀g,(Value.slice oa n c).ownBlock=some g→p.ownBlock=some g∨w.heap.size≤g
structure xA(w:World)(A:Int)(pv:Value)(bd:Bool)(Bx:Nat)(W:World):Prop where
 kb:zh W Bx #[.int .i64 A,pv,.bool bd] 50
 kt:zh W (Bx+1) #[.int .i64 0,.int .i64 0,.int .i64 0,.bool false] 44
 kr:zh W (Bx+1+1) #[.int .i64 0,.slice none 0 0,.bool false] 50
 bl:Below w.heap.size w W
 bx:w.heap.size=Bx
theorem xA.new(w:World)(A:Int)(pv:Value)(bd:Bool):xA w A pv bd w.heap.size (((w.alloc (.cells #[.int .i64 A,pv,.bool bd] 50)).alloc (.cells #[.int .i64 0,.int .i64 0,.int .i64 0,.bool false] 44)).alloc (.cells #[.int .i64 0,.slice none 0 0,.bool false] 50)):=
 ⟨((zh.new w _ _).alloc _).alloc _,(xU w _ _ _).alloc _,jr w _ _ _ _,ZO _ _ _ _,rfl⟩
theorem xA.below{w W W':World}{A:Int}{pv:Value}{bd:Bool}{Bx:Nat}(h:xA w A pv bd Bx W)(hb:Below W.heap.size W W'):xA w A pv bd Bx W':=
 ⟨h.kb.below hb,h.kt.below hb,h.kr.below hb,h.bl.trans (hb.mono h.bl.size),h.bx⟩
def qW(W:World)(Bx:Nat)(k a E:Int)(op:Bool)(A:Int)(pv:Value)(bd:Bool):World:=
 ((((((W.setCell ⟨Bx+1,0,none⟩ (.int .i64 k)).setCell ⟨Bx+1,1,none⟩ (.int .i64 a)).setCell ⟨Bx+1,2,none⟩ (.int .i64 E)).setCell ⟨Bx+1,3,none⟩ (.bool op)).setCell ⟨Bx+1+1,0,none⟩ (.int .i64 A)).setCell ⟨Bx+1+1,1,none⟩ pv).setCell ⟨Bx+1+1,2,none⟩ (.bool bd)
theorem xA.fin{w W:World}{A0:Int}{Dq:Value}{eG:Bool}{Bx:Nat}(h:xA w A0 Dq eG Bx W)(k a E:Int)(op:Bool)(A:Int)(pv:Value)(bd:Bool):
  zh (qW W Bx k a E op A pv bd) (Bx+1) #[.int .i64 k,.int .i64 a,.int .i64 E,.bool op] 44∧zh (qW W Bx k a E op A pv bd) (Bx+1+1) #[.int .i64 A,pv,.bool bd] 50∧
   zg (λb=>b=Bx+1∨b=Bx+1+1) W (qW W Bx k a E op A pv bd)∧Below w.heap.size w (qW W Bx k a E op A pv bd):=by
 have hF:zg (λb=>b=Bx+1∨b=Bx+1+1) W (qW W Bx k a E op A pv bd):=
  (((((((zg.refl _ W).setCell 0 (.inl (.inl rfl)) _).setCell 1 (.inl (.inl rfl)) _).setCell 2 (.inl (.inl rfl)) _).setCell 3 (.inl (.inl rfl)) _).setCell 0 (.inl (.inr rfl)) _).setCell 1 (.inl (.inr rfl)) _).setCell 2 (.inl (.inr rfl)) _
 have e6:=(((h.kt.set 0 (.int .i64 k)).set 1 (.int .i64 a)).set 2 (.int .i64 E)).set 3 (.bool op);have f6:=((e6.other 0 (.int .i64 A) (b':=Bx+1+1) (by omega)).other 1 pv (b':=Bx+1+1) (by omega)).other 2 (.bool bd) (b':=Bx+1+1) (by omega);have e7:=(((h.kr.other 0 (.int .i64 k) (b':=Bx+1) (by omega)).other 1 (.int .i64 a) (b':=Bx+1) (by omega)).other 2 (.int .i64 E) (b':=Bx+1) (by omega)).other 3 (.bool op) (b':=Bx+1) (by omega);have f7:=((e7.set 0 (.int .i64 A)).set 1 pv).set 2 (.bool bd);exact⟨f6,f7,hF,h.bl.trans (hF.below h.bl.size (λb hb=>by have:=h.bx;omega))⟩
theorem xA.YZ{w W Wm:World}{A0:Int}{Dq:Value}{eG:Bool}{Bx:Nat}(h:xA w A0 Dq eG Bx W){t:Tk}{y:Lx}{oa:Option Addr}{n c:Nat}(hM:yR W (.slice oa n c) y)(hne:∀g,(Value.slice oa n c).ownBlock=some g→g≠Bx+1∧g≠Bx+1+1)
 (hd:vI (qW W Bx t.kind t.zf t.en t.op y.await (.slice oa n c) y.body) Wm){e:Ending}(he:e=.returned (.tuple #[yJ t,zD y (.slice oa n c)]))(hfr:∀g,(Value.slice oa n c).ownBlock=some g→Dq.ownBlock=some g∨w.heap.size≤g):Yc w Dq t y e Wm:=by
 obtain⟨q,rfl⟩:=hd;obtain⟨_,_,hF,hB⟩:=h.fin t.kind t.zf t.en t.op y.await (.slice oa n c) y.body;refine⟨oa,n,c,he,⟨?_,hM.cap⟩,below_drewN hB _,hfr⟩;exact(hM.src.zf hF (λg hg hh=>by have:=hne g hg;omega)).below (below_drewN (Below.refl _ _) _)
theorem zby{X:World}{B b o:Nat}{v v0 v1 v2:Value}(hB:B≠b)(h:X.cell? ⟨B,0,none⟩=some v0∧X.cell? ⟨B,1,none⟩=some v1∧X.cell? ⟨B,2,none⟩=some v2):
  (X.setCell ⟨b,o,none⟩ v).cell? ⟨B,0,none⟩=some v0∧(X.setCell ⟨b,o,none⟩ v).cell? ⟨B,1,none⟩=some v1∧(X.setCell ⟨b,o,none⟩ v).cell? ⟨B,2,none⟩=some v2:=by
 have e1:∀j,(X.setCell ⟨b,o,none⟩ v).cell? ⟨B,j,none⟩=X.cell? ⟨B,j,none⟩:=λj=>World.cell?_of_block (Below.heap_setCell X _ _ B hB);simp only[e1];exact h
theorem zbw(W:World):(W.alloc (.cells #[] 87)).ownsRow W.heap.size 87 2 (.slice (some ⟨W.heap.size,0,none⟩) 0 0) 0 []:=
 ⟨rfl,.inr ⟨W.heap.size,0,_,rfl,Nat.le_refl _,World.alloc_heap_new W _,Nat.le_refl _,by unfold maxLen;omega,rfl,rfl⟩⟩
theorem NT{l:List Dl}{n:Nat}(h:n=l.length):(zx l).length=n*2:=by
 rw[h];clear h
 induction l with
 |nil=>rfl
 |cons a l ih=>rw[qR];simp only[List.length_cons,ih];omega
theorem zaN{W:World}{b:Nat}{x:Dl}(h:zh W b #[.string x.word,.bool x.tabs] 87):Src W (.slice (some ⟨b,0,none⟩) 1 1) 1 [.string x.word,.bool x.tabs]:=by
 refine .inr ⟨_,0,1,rfl,h.lt,λj u hj=>?_⟩;rw[Nat.zero_add,h.cell j];simpa using hj
theorem Yv{w:World}{v:Value}{m:Nat}{xs:List Value}(h:Src w v m xs):∀g,v.ownBlock=some g→g<w.heap.size:=by
 intro g hg;rcases h with⟨rfl,_⟩|⟨b,off,c,rfl,h2,_⟩
 ·cases hg
 ·have:b=g:=by simpa[Value.ownBlock]using hg
  omega
section
variable(w:World)(x:Lx)(oa:Option Addr)(n c:Nat)(hM:yR w (.slice oa n c) x)(s:ByteArray)(a:Nat)(ha:a<s.size)(hs:s.size≤60000)
include hM ha hs
theorem zlU(hbd:x.body=false)(E:Nat)(hE:a<E)(hE2:E≤s.size)(hbl:∀W,Calls Tryz.prog 53 #[.string s,.int .i64 (a:Int)] W λe w'=>e=.returned (.int .i64 (E:Int))∧w'=W):
  Calls Tryz.prog 36 #[.string s,.int .i64 (a:Int),zD x (.slice oa n c)] w λe w'=>Yc w (.slice oa n c) ⟨1,a,E,false⟩ x e w':=by
 have vN:=hid hbl;clear hbl;have hi:(a:Int)<(E:Int):=by omega
 obtain⟨A,pd,bd⟩:=x;dsimp only at hbd;subst hbd;unfold zD;dsimp only;have hst:=xA.new w (A:Int) (.slice oa n c) false;have q0:(0:Int)≤(a:Int):=by omega
 have q1:(a:Int)<(s.size:Int):=by omega
 have yP:=hst.kb.cell 2;have zY:=hst.kb.cell 1;have HM:=hid hM;have yt:Hid (∀g,(Value.slice oa n c).ownBlock=some g→g<w.heap.size):=hid (λg hg=>Yv hM.src g hg);clear hM;go_enter Tryz.func36,Tryz.ntmps36
 go_wp2_with fail
 obtain⟨W,hW⟩:∃X,(((w.alloc (.cells #[.int .i64 (A:Int),.slice oa n c,.bool false] 50)).alloc (.cells #[.int .i64 0,.int .i64 0,.int .i64 0,.bool false] 44)).alloc (.cells #[.int .i64 0,.slice none 0 0,.bool false] 50))=X:=⟨_,rfl⟩;obtain⟨Bx,hBx⟩:∃z,w.heap.size=z:=⟨_,rfl⟩;rw[hW]at hst yP zY ⊢;rw[hBx]at hst yP zY yt ⊢;clear hW hBx;refine(vN.out _).mono ?_;rintro e w1 ⟨rfl,rfl⟩;have a0:=hst.kb.cell 0;have a1:=hst.kb.cell 1;have a2:=hst.kb.cell 2;have t0:=hst.kt.cell 0;have t1:=hst.kt.cell 1;have t2:=hst.kt.cell 2;have t3:=hst.kt.cell 3;have kT:=hst.kt.frozen 0;have kU:=hst.kt.frozen 1;have kV:=hst.kt.frozen 2;have kW:=hst.kt.frozen 3;have r0:=hst.kr.cell 0;have r1:=hst.kr.cell 1;have r2:=hst.kr.cell 2;have kH:=hst.kr.frozen 0;have kJ:=hst.kr.frozen 1;have kK:=hst.kr.frozen 2;go_wp2
 go_region
 go_wp2;obtain⟨f6,f7,_,_⟩:=hst.fin (1:Int) (a:Int) (E:Int) false (A:Int) (.slice oa n c) false;unfold qW at f6 f7;have h0:=f6.drew.cell 0;have h1:=f6.drew.cell 1;have h2:=f6.drew.cell 2;have h3:=f6.drew.cell 3;have i0:=f7.drew.cell 0;have i1:=f7.drew.cell 1;have i2:=f7.drew.cell 2;refine bodyPost_ret (v:=.tuple #[.agg #[.int .i64 (1:Int),.int .i64 (a:Int),.int .i64 (E:Int),.bool false],.agg #[.int .i64 (A:Int),(.slice oa n c),.bool false]]) (by simp[results,Tryz.results36,go_sem,h0,h1,h2,h3,i0,i1,i2]) rfl ?_;exact hst.YZ (t:=⟨1,a,E,false⟩) (y:=⟨A,pd,false⟩) (HM.out.below hst.bl) (λg hg=>by have:=yt.out g hg;omega) ⟨1,rfl⟩ rfl (λg hg=> .inl hg)
theorem zlV(hbd:x.body=false)(hbl:∀W,Calls Tryz.prog 53 #[.string s,.int .i64 (a:Int)] W λe w'=>e=.returned (.int .i64 (a:Int))∧w'=W)(hby:by8 s a=10):
  Calls Tryz.prog 36 #[.string s,.int .i64 (a:Int),zD x (.slice oa n c)] w λe w'=>Yc w (.slice oa n c) ⟨2,a,a+1,false⟩ ⟨0,x.pend,decide (0<n)⟩ e w':=by
 have vN:=hid hbl;clear hbl;have hix:∀hh:a<s.size,(s[a]'hh).toNat=10:=λhh=>by rw[←hby];unfold by8;rw[yx hh]
 clear hby;have hi:¬(a:Int)<(a:Int):=by omega
 have r1:IntKind.i64.wrap ((a:Int)+1)=((a+1:Nat):Int):=by rw[IntWalk.i64_in _ (by omega)];omega
 obtain⟨E,hE⟩:∃E,a+1=E:=⟨_,rfl⟩;rw[hE]at r1 ⊢;clear hE;obtain⟨A,pd,bd⟩:=x;dsimp only at hbd;subst hbd;unfold zD;dsimp only;have hst:=xA.new w (A:Int) (.slice oa n c) false;have q0:(0:Int)≤(a:Int):=by omega
 have q1:(a:Int)<(s.size:Int):=by omega
 have yP:=hst.kb.cell 2;have zY:=hst.kb.cell 1;have HM:=hid hM;have yt:Hid (∀g,(Value.slice oa n c).ownBlock=some g→g<w.heap.size):=hid (λg hg=>Yv hM.src g hg);clear hM;go_enter Tryz.func36,Tryz.ntmps36
 go_wp2_with fail
 obtain⟨W,hW⟩:∃X,(((w.alloc (.cells #[.int .i64 (A:Int),.slice oa n c,.bool false] 50)).alloc (.cells #[.int .i64 0,.int .i64 0,.int .i64 0,.bool false] 44)).alloc (.cells #[.int .i64 0,.slice none 0 0,.bool false] 50))=X:=⟨_,rfl⟩;obtain⟨Bx,hBx⟩:∃z,w.heap.size=z:=⟨_,rfl⟩;rw[hW]at hst yP zY ⊢;rw[hBx]at hst yP zY yt ⊢;clear hW hBx;refine(vN.out _).mono ?_;rintro e w1 ⟨rfl,rfl⟩;have a0:=hst.kb.cell 0;have a1:=hst.kb.cell 1;have a2:=hst.kb.cell 2;have t0:=hst.kt.cell 0;have t1:=hst.kt.cell 1;have t2:=hst.kt.cell 2;have t3:=hst.kt.cell 3;have kT:=hst.kt.frozen 0;have kU:=hst.kt.frozen 1;have kV:=hst.kt.frozen 2;have kW:=hst.kt.frozen 3;have r0:=hst.kr.cell 0;have r1:=hst.kr.cell 1;have r2:=hst.kr.cell 2;have kH:=hst.kr.frozen 0;have kJ:=hst.kr.frozen 1;have kK:=hst.kr.frozen 2;go_wp2
 go_region
 go_wp2;obtain⟨f6,f7,_,_⟩:=hst.fin (2:Int) (a:Int) (E:Int) false (0:Int) (.slice oa n c) (decide (0<n));unfold qW at f6 f7;have h0:=f6.drew.cell 0;have h1:=f6.drew.cell 1;have h2:=f6.drew.cell 2;have h3:=f6.drew.cell 3;have i0:=f7.drew.cell 0;have i1:=f7.drew.cell 1;have i2:=f7.drew.cell 2;refine bodyPost_ret (v:=.tuple #[.agg #[.int .i64 (2:Int),.int .i64 (a:Int),.int .i64 (E:Int),.bool false],.agg #[.int .i64 (0:Int),(.slice oa n c),.bool (decide (0<n))]]) (by simp[results,Tryz.results36,go_sem,h0,h1,h2,h3,i0,i1,i2]) rfl ?_;exact hst.YZ (t:=⟨2,a,E,false⟩) (y:=⟨0,pd,decide (0<n)⟩) ((HM.out.below hst.bl).same rfl) (λg hg=>by have:=yt.out g hg;omega) ⟨1,rfl⟩ rfl (λg hg=> .inl hg)
theorem zlW(hbd:x.body=false)(hbl:∀W,Calls Tryz.prog 53 #[.string s,.int .i64 (a:Int)] W λe w'=>e=.returned (.int .i64 (a:Int))∧w'=W)(hby:by8 s a=35)(E:Nat)(hE:∀b,a≤b→b≤s.size→(∀i,a≤i→i<b→by8 s i≠10)→(b<s.size→by8 s b=10)→b=E):
  Calls Tryz.prog 36 #[.string s,.int .i64 (a:Int),zD x (.slice oa n c)] w λe w'=>Yc w (.slice oa n c) ⟨3,a,E,false⟩ ⟨0,x.pend,false⟩ e w':=by
 have vN:=hid hbl;clear hbl;have hix:∀hh:a<s.size,(s[a]'hh).toNat=35:=λhh=>by rw[←hby];unfold by8;rw[yx hh]
 clear hby;have hi:¬(a:Int)<(a:Int):=by omega
 have HE:=hid hE;clear hE;obtain⟨A,pd,bd⟩:=x;dsimp only at hbd;subst hbd;unfold zD;dsimp only;have hst:=xA.new w (A:Int) (.slice oa n c) false;have q0:(0:Int)≤(a:Int):=by omega
 have q1:(a:Int)<(s.size:Int):=by omega
 have yP:=hst.kb.cell 2;have zY:=hst.kb.cell 1;have HM:=hid hM;have yt:Hid (∀g,(Value.slice oa n c).ownBlock=some g→g<w.heap.size):=hid (λg hg=>Yv hM.src g hg);clear hM;go_enter Tryz.func36,Tryz.ntmps36
 go_wp2_with fail
 obtain⟨W,hW⟩:∃X,(((w.alloc (.cells #[.int .i64 (A:Int),.slice oa n c,.bool false] 50)).alloc (.cells #[.int .i64 0,.int .i64 0,.int .i64 0,.bool false] 44)).alloc (.cells #[.int .i64 0,.slice none 0 0,.bool false] 50))=X:=⟨_,rfl⟩;obtain⟨Bx,hBx⟩:∃z,w.heap.size=z:=⟨_,rfl⟩;rw[hW]at hst yP zY ⊢;rw[hBx]at hst yP zY yt ⊢;clear hW hBx;refine(vN.out _).mono ?_;rintro e w1 ⟨rfl,rfl⟩;have a0:=hst.kb.cell 0;have a1:=hst.kb.cell 1;have a2:=hst.kb.cell 2;have kZ:Bx+3≤w1.heap.size:=by have:=hst.kr.lt;omega
 go_upto_block 0 with fail
 have ky:=zh.new w1 #[.int .i64 0,.slice oa n c,.bool false] 50;have hst2:=hst.below ((Below.refl _ w1).alloc (Nat.le_refl _) (.cells #[.int .i64 0,.slice oa n c,.bool false] 50));obtain⟨W2,hW2⟩:∃X,w1.alloc (.cells #[.int .i64 0,.slice oa n c,.bool false] 50)=X:=⟨_,rfl⟩;obtain⟨By,uK⟩:∃z,w1.heap.size=z:=⟨_,rfl⟩;rw[hW2]at ky hst2 ⊢;rw[uK]at ky kZ ⊢;clear hW2 uK hst a0 a1 a2 yP zY;obtain⟨hst,hst2⟩:xA w (A:Int) (.slice oa n c) false Bx W2∧True:=⟨hst2,trivial⟩
 go_cut [12]from 80 to 91 (λv12 wx=>v12=.int .i64 (E:Int)∧wx=W2)
 case first=>
  go_wp2
  go_loopw [12] (λv wr=>∃b:Nat,a≤b∧b≤s.size∧v=.int .i64 (b:Int)∧(∀i,a≤i→i<b→by8 s i≠10)∧wr=W2) (λv _=>s.size-(intOf v).toNat)
  case atStart=>exact⟨a,Nat.le_refl _,by omega,rfl,λi h1 h2=>by omega,rfl⟩
  case round=>
   obtain⟨b,hab,hbs,rfl,hin,rfl⟩:=hrel;have ug:=hid hin;clear hin;have u0:(0:Int)≤(b:Int):=by omega
   by_cases hlt:b<s.size
   ·have u1:(b:Int)<(s.size:Int):=by omega
    obtain⟨cc,hcc⟩:∃cc,by8 s b=cc:=⟨_,rfl⟩;have eH:∀hh:b<s.size,(s[b]'hh).toNat=cc:=λhh=>by rw[←hcc];unfold by8;rw[yx hh]
    have jk:=hid hcc;clear hcc;by_cases h10:cc=10
    ·have Dt:b=E:=HE.out b hab hbs ug.out (λ_=>by rw[jk.out];exact h10)
     have jF:=hid Dt;subst h10;clear Dt;go_wp2;go_meet;case rel=>exact⟨by rw[jF.out],rfl⟩
    ·have t10:((cc:Int)!=10)=true:=by rw[bne,beq_eq_false_iff_ne.2 (by omega)];rfl
     have zlK:((cc:Int)==10)=false:=beq_eq_false_iff_ne.2 (by omega);go_wp2
     go_roundw
     case rel=>
      refine⟨b+1,by omega,by omega,by go_num,λi h1 h2=>?_,by first|rfl|trivial⟩;by_cases e:i=b
      ·rw[e,jk.out];exact h10
      ·exact ug.out i h1 (by omega)
     case measure=>simp[intOf];omega
   ·have Dt:b=E:=HE.out b hab hbs ug.out (λh=>absurd h hlt)
    have jF:=hid Dt;have u1:¬(b:Int)<(s.size:Int):=by omega
    clear Dt hlt;go_wp2;go_meet;case rel=>exact⟨by rw[jF.out],rfl⟩
 case rest=>
  obtain⟨hv,hw⟩:=hcut;subst hv;subst hw;have y0:=ky.cell 0;have y1:=ky.cell 1;have y2:=ky.cell 2;have VN:=ky.frozen 0;have t0:=hst.kt.cell 0;have t1:=hst.kt.cell 1;have t2:=hst.kt.cell 2;have t3:=hst.kt.cell 3;have kT:=hst.kt.frozen 0;have kU:=hst.kt.frozen 1;have kV:=hst.kt.frozen 2;have kW:=hst.kt.frozen 3;have r0:=hst.kr.cell 0;have r1:=hst.kr.cell 1;have r2:=hst.kr.cell 2;have kH:=hst.kr.frozen 0;have kJ:=hst.kr.frozen 1;have kK:=hst.kr.frozen 2;go_wp2
  go_region
  go_wp2;obtain⟨f6,f7,_,_⟩:=hst.fin (3:Int) (a:Int) (E:Int) false (0:Int) (.slice oa n c) false;unfold qW at f6 f7;have h0:=f6.drew.cell 0;have h1:=f6.drew.cell 1;have h2:=f6.drew.cell 2;have h3:=f6.drew.cell 3;have i0:=f7.drew.cell 0;have i1:=f7.drew.cell 1;have i2:=f7.drew.cell 2;refine bodyPost_ret (v:=.tuple #[.agg #[.int .i64 (3:Int),.int .i64 (a:Int),.int .i64 (E:Int),.bool false],.agg #[.int .i64 (0:Int),(.slice oa n c),.bool false]]) (by simp[results,Tryz.results36,go_sem,h0,h1,h2,h3,i0,i1,i2]) rfl ?_;exact hst.YZ (t:=⟨3,a,E,false⟩) (y:=⟨0,pd,false⟩) ((HM.out.below hst.bl).same rfl) (λg hg=>by have:=yt.out g hg;omega) ⟨1,rfl⟩ rfl (λg hg=> .inl hg)
theorem zlX(hbd:x.body=false)(hbl:∀W,Calls Tryz.prog 53 #[.string s,.int .i64 (a:Int)] W λe w'=>e=.returned (.int .i64 (a:Int))∧w'=W)(bb:Nat)(hby:by8 s a=bb)(Gn:bb≠10)(Du:bb≠35)(hat:∀W,Calls Tryz.prog 54 #[.string s,.int .i64 (a:Int)] W λe w'=>e=.returned (.int .i64 (4:Int))∧w'=W)(T:ByteArray)(hT:T.size≤3)(htx:∀W,Calls Tryz.prog 55 #[.int .i64 (4:Int)] W λe w'=>e=.returned (.string T)∧w'=W):
  Calls Tryz.prog 36 #[.string s,.int .i64 (a:Int),zD x (.slice oa n c)] w λe w'=>Yc w (.slice oa n c) ⟨4,a,a+T.size,false⟩ ⟨4,x.pend,false⟩ e w':=by
 have vN:=hid hbl;clear hbl;have hix:∀hh:a<s.size,(s[a]'hh).toNat=bb:=λhh=>by rw[←hby];unfold by8;rw[yx hh]
 have Dv:((bb:Int)==10)=false:=beq_eq_false_iff_ne.2 (by omega);have tb2:((bb:Int)==35)=false:=beq_eq_false_iff_ne.2 (by omega);clear hby;have hi:¬(a:Int)<(a:Int):=by omega
 have HAT:=hid hat
 have VJ:=hid htx;obtain⟨E,hE⟩:∃E,a+T.size=E:=⟨_,rfl⟩;have r1:IntKind.i64.wrap ((a:Int)+(T.size:Int))=(E:Int):=by rw[IntWalk.i64_in _ (by omega)];omega
 rw[hE];clear hat htx hE;obtain⟨A,pd,bd⟩:=x;dsimp only at hbd;subst hbd;unfold zD;dsimp only;have hst:=xA.new w (A:Int) (.slice oa n c) false;have q0:(0:Int)≤(a:Int):=by omega
 have q1:(a:Int)<(s.size:Int):=by omega
 have yP:=hst.kb.cell 2;have zY:=hst.kb.cell 1;have HM:=hid hM;have yt:Hid (∀g,(Value.slice oa n c).ownBlock=some g→g<w.heap.size):=hid (λg hg=>Yv hM.src g hg);clear hM;go_enter Tryz.func36,Tryz.ntmps36
 go_wp2_with fail
 obtain⟨W,hW⟩:∃X,(((w.alloc (.cells #[.int .i64 (A:Int),.slice oa n c,.bool false] 50)).alloc (.cells #[.int .i64 0,.int .i64 0,.int .i64 0,.bool false] 44)).alloc (.cells #[.int .i64 0,.slice none 0 0,.bool false] 50))=X:=⟨_,rfl⟩;obtain⟨Bx,hBx⟩:∃z,w.heap.size=z:=⟨_,rfl⟩;rw[hW]at hst yP zY ⊢;rw[hBx]at hst yP zY yt ⊢;clear hW hBx;refine(vN.out _).mono ?_;rintro e w1 ⟨rfl,rfl⟩;have a0:=hst.kb.cell 0;have a1:=hst.kb.cell 1;have a2:=hst.kb.cell 2;have kZ:Bx+3≤w1.heap.size:=by have:=hst.kr.lt;omega
 go_wp2_with fail
 have ky:=zh.new w1 #[.int .i64 0,.slice oa n c,.bool false] 50;have hst2:=hst.below ((Below.refl _ w1).alloc (Nat.le_refl _) (.cells #[.int .i64 0,.slice oa n c,.bool false] 50));obtain⟨W2,hW2⟩:∃X,w1.alloc (.cells #[.int .i64 0,.slice oa n c,.bool false] 50)=X:=⟨_,rfl⟩;obtain⟨By,uK⟩:∃z,w1.heap.size=z:=⟨_,rfl⟩;rw[hW2]at ky hst2 ⊢;rw[uK]at ky kZ ⊢;clear hW2 uK hst a0 a1 a2 yP zY;obtain⟨hst,hst2⟩:xA w (A:Int) (.slice oa n c) false Bx W2∧True:=⟨hst2,trivial⟩;refine(HAT.out _).mono ?_;rintro e w2 ⟨rfl,rfl⟩;have y0:=ky.cell 0;have y1:=ky.cell 1;have y2:=ky.cell 2;have VN:=ky.frozen 0
 go_upto_region 21 with fail
 have XQ:=ky.set 0 (.int .i64 4);have hst3:xA w (A:Int) (.slice oa n c) false Bx (w2.setCell ⟨By,0,none⟩ (.int .i64 4)):=⟨hst.kb.other 0 _ (by omega),hst.kt.other 0 _ (by omega),hst.kr.other 0 _ (by omega),hst.bl.setCell (p:=⟨By,0,none⟩) (by have:=hst.bx;show w.heap.size≤By;omega) _,hst.bx⟩;obtain⟨W3,hW3⟩:∃X,w2.setCell ⟨By,0,none⟩ (.int .i64 4)=X:=⟨_,rfl⟩;rw[hW3]at XQ hst3 ⊢;clear hW3 hst ky y0 y1 y2 VN;obtain⟨hst,hst3⟩:xA w (A:Int) (.slice oa n c) false Bx W3∧True:=⟨hst3,trivial⟩;have ky:zh W3 By #[.int .i64 4,.slice oa n c,.bool false] 50:=XQ;clear XQ;have y0:=ky.cell 0;have y1:=ky.cell 1;have y2:=ky.cell 2;have VN:=ky.frozen 0;have t0:=hst.kt.cell 0;have t1:=hst.kt.cell 1;have t2:=hst.kt.cell 2;have t3:=hst.kt.cell 3;have kT:=hst.kt.frozen 0;have kU:=hst.kt.frozen 1;have kV:=hst.kt.frozen 2;have kW:=hst.kt.frozen 3;have r0:=hst.kr.cell 0;have r1:=hst.kr.cell 1;have r2:=hst.kr.cell 2;have kH:=hst.kr.frozen 0;have kJ:=hst.kr.frozen 1;have kK:=hst.kr.frozen 2
 go_region_with (go_at_call 55;refine(VJ.out _).mono ?_;rintro e w4 ⟨rfl,rfl⟩)
 all_goals
  go_wp2;obtain⟨f6,f7,_,_⟩:=hst.fin (4:Int) (a:Int) (E:Int) false (4:Int) (.slice oa n c) false;unfold qW at f6 f7;have h0:=f6.drew.cell 0;have h1:=f6.drew.cell 1;have h2:=f6.drew.cell 2;have h3:=f6.drew.cell 3;have i0:=f7.drew.cell 0;have i1:=f7.drew.cell 1;have i2:=f7.drew.cell 2;refine bodyPost_ret (v:=.tuple #[.agg #[.int .i64 (4:Int),.int .i64 (a:Int),.int .i64 (E:Int),.bool false],.agg #[.int .i64 (4:Int),(.slice oa n c),.bool false]]) (by simp[results,Tryz.results36,go_sem,h0,h1,h2,h3,i0,i1,i2]) rfl ?_;exact hst.YZ (t:=⟨4,a,E,false⟩) (y:=⟨4,pd,false⟩) ((HM.out.below hst.bl).same rfl) (λg hg=>by have:=yt.out g hg;omega) ⟨1,rfl⟩ rfl (λg hg=> .inl hg)
theorem zlY(hbd:x.body=false)(hbl:∀W,Calls Tryz.prog 53 #[.string s,.int .i64 (a:Int)] W λe w'=>e=.returned (.int .i64 (a:Int))∧w'=W)(bb:Nat)(hby:by8 s a=bb)(Gn:bb≠10)(Du:bb≠35)(hat:∀W,Calls Tryz.prog 54 #[.string s,.int .i64 (a:Int)] W λe w'=>e=.returned (.int .i64 (5:Int))∧w'=W)(T:ByteArray)(hT:T.size≤3)(htx:∀W,Calls Tryz.prog 55 #[.int .i64 (5:Int)] W λe w'=>e=.returned (.string T)∧w'=W):
  Calls Tryz.prog 36 #[.string s,.int .i64 (a:Int),zD x (.slice oa n c)] w λe w'=>Yc w (.slice oa n c) ⟨4,a,a+T.size,false⟩ ⟨5,x.pend,false⟩ e w':=by
 have vN:=hid hbl;clear hbl;have hix:∀hh:a<s.size,(s[a]'hh).toNat=bb:=λhh=>by rw[←hby];unfold by8;rw[yx hh]
 have Dv:((bb:Int)==10)=false:=beq_eq_false_iff_ne.2 (by omega);have tb2:((bb:Int)==35)=false:=beq_eq_false_iff_ne.2 (by omega);clear hby;have hi:¬(a:Int)<(a:Int):=by omega
 have HAT:=hid hat
 have VJ:=hid htx;obtain⟨E,hE⟩:∃E,a+T.size=E:=⟨_,rfl⟩;have r1:IntKind.i64.wrap ((a:Int)+(T.size:Int))=(E:Int):=by rw[IntWalk.i64_in _ (by omega)];omega
 rw[hE];clear hat htx hE;obtain⟨A,pd,bd⟩:=x;dsimp only at hbd;subst hbd;unfold zD;dsimp only;have hst:=xA.new w (A:Int) (.slice oa n c) false;have q0:(0:Int)≤(a:Int):=by omega
 have q1:(a:Int)<(s.size:Int):=by omega
 have yP:=hst.kb.cell 2;have zY:=hst.kb.cell 1;have HM:=hid hM;have yt:Hid (∀g,(Value.slice oa n c).ownBlock=some g→g<w.heap.size):=hid (λg hg=>Yv hM.src g hg);clear hM;go_enter Tryz.func36,Tryz.ntmps36
 go_wp2_with fail
 obtain⟨W,hW⟩:∃X,(((w.alloc (.cells #[.int .i64 (A:Int),.slice oa n c,.bool false] 50)).alloc (.cells #[.int .i64 0,.int .i64 0,.int .i64 0,.bool false] 44)).alloc (.cells #[.int .i64 0,.slice none 0 0,.bool false] 50))=X:=⟨_,rfl⟩;obtain⟨Bx,hBx⟩:∃z,w.heap.size=z:=⟨_,rfl⟩;rw[hW]at hst yP zY ⊢;rw[hBx]at hst yP zY yt ⊢;clear hW hBx;refine(vN.out _).mono ?_;rintro e w1 ⟨rfl,rfl⟩;have a0:=hst.kb.cell 0;have a1:=hst.kb.cell 1;have a2:=hst.kb.cell 2;have kZ:Bx+3≤w1.heap.size:=by have:=hst.kr.lt;omega
 go_wp2_with fail
 have ky:=zh.new w1 #[.int .i64 0,.slice oa n c,.bool false] 50;have hst2:=hst.below ((Below.refl _ w1).alloc (Nat.le_refl _) (.cells #[.int .i64 0,.slice oa n c,.bool false] 50));obtain⟨W2,hW2⟩:∃X,w1.alloc (.cells #[.int .i64 0,.slice oa n c,.bool false] 50)=X:=⟨_,rfl⟩;obtain⟨By,uK⟩:∃z,w1.heap.size=z:=⟨_,rfl⟩;rw[hW2]at ky hst2 ⊢;rw[uK]at ky kZ ⊢;clear hW2 uK hst a0 a1 a2 yP zY;obtain⟨hst,hst2⟩:xA w (A:Int) (.slice oa n c) false Bx W2∧True:=⟨hst2,trivial⟩;refine(HAT.out _).mono ?_;rintro e w2 ⟨rfl,rfl⟩;have y0:=ky.cell 0;have y1:=ky.cell 1;have y2:=ky.cell 2;have VN:=ky.frozen 0
 go_upto_region 21 with fail
 have XQ:=ky.set 0 (.int .i64 5);have hst3:xA w (A:Int) (.slice oa n c) false Bx (w2.setCell ⟨By,0,none⟩ (.int .i64 5)):=⟨hst.kb.other 0 _ (by omega),hst.kt.other 0 _ (by omega),hst.kr.other 0 _ (by omega),hst.bl.setCell (p:=⟨By,0,none⟩) (by have:=hst.bx;show w.heap.size≤By;omega) _,hst.bx⟩;obtain⟨W3,hW3⟩:∃X,w2.setCell ⟨By,0,none⟩ (.int .i64 5)=X:=⟨_,rfl⟩;rw[hW3]at XQ hst3 ⊢;clear hW3 hst ky y0 y1 y2 VN;obtain⟨hst,hst3⟩:xA w (A:Int) (.slice oa n c) false Bx W3∧True:=⟨hst3,trivial⟩;have ky:zh W3 By #[.int .i64 5,.slice oa n c,.bool false] 50:=XQ;clear XQ;have y0:=ky.cell 0;have y1:=ky.cell 1;have y2:=ky.cell 2;have VN:=ky.frozen 0;have t0:=hst.kt.cell 0;have t1:=hst.kt.cell 1;have t2:=hst.kt.cell 2;have t3:=hst.kt.cell 3;have kT:=hst.kt.frozen 0;have kU:=hst.kt.frozen 1;have kV:=hst.kt.frozen 2;have kW:=hst.kt.frozen 3;have r0:=hst.kr.cell 0;have r1:=hst.kr.cell 1;have r2:=hst.kr.cell 2;have kH:=hst.kr.frozen 0;have kJ:=hst.kr.frozen 1;have kK:=hst.kr.frozen 2
 go_region_with (go_at_call 55;refine(VJ.out _).mono ?_;rintro e w4 ⟨rfl,rfl⟩)
 all_goals
  go_wp2;obtain⟨f6,f7,_,_⟩:=hst.fin (4:Int) (a:Int) (E:Int) false (5:Int) (.slice oa n c) false;unfold qW at f6 f7;have h0:=f6.drew.cell 0;have h1:=f6.drew.cell 1;have h2:=f6.drew.cell 2;have h3:=f6.drew.cell 3;have i0:=f7.drew.cell 0;have i1:=f7.drew.cell 1;have i2:=f7.drew.cell 2;refine bodyPost_ret (v:=.tuple #[.agg #[.int .i64 (4:Int),.int .i64 (a:Int),.int .i64 (E:Int),.bool false],.agg #[.int .i64 (5:Int),(.slice oa n c),.bool false]]) (by simp[results,Tryz.results36,go_sem,h0,h1,h2,h3,i0,i1,i2]) rfl ?_;exact hst.YZ (t:=⟨4,a,E,false⟩) (y:=⟨5,pd,false⟩) ((HM.out.below hst.bl).same rfl) (λg hg=>by have:=yt.out g hg;omega) ⟨1,rfl⟩ rfl (λg hg=> .inl hg)
theorem zlZ(hbd:x.body=false)(hbl:∀W,Calls Tryz.prog 53 #[.string s,.int .i64 (a:Int)] W λe w'=>e=.returned (.int .i64 (a:Int))∧w'=W)(bb:Nat)(hby:by8 s a=bb)(Gn:bb≠10)(Du:bb≠35)(o:Nat)(ho0:0<o)(wY:o≠4)(Wq:o≠5)(hat:∀W,Calls Tryz.prog 54 #[.string s,.int .i64 (a:Int)] W λe w'=>e=.returned (.int .i64 (o:Int))∧w'=W)(T:ByteArray)(hT:T.size≤3)(htx:∀W,Calls Tryz.prog 55 #[.int .i64 (o:Int)] W λe w'=>e=.returned (.string T)∧w'=W):
  Calls Tryz.prog 36 #[.string s,.int .i64 (a:Int),zD x (.slice oa n c)] w λe w'=>Yc w (.slice oa n c) ⟨4,a,a+T.size,false⟩ ⟨0,x.pend,false⟩ e w':=by
 have vN:=hid hbl;clear hbl;have hix:∀hh:a<s.size,(s[a]'hh).toNat=bb:=λhh=>by rw[←hby];unfold by8;rw[yx hh]
 have Dv:((bb:Int)==10)=false:=beq_eq_false_iff_ne.2 (by omega);have tb2:((bb:Int)==35)=false:=beq_eq_false_iff_ne.2 (by omega);clear hby;have hi:¬(a:Int)<(a:Int):=by omega
 have HAT:=hid hat
 have VJ:=hid htx;obtain⟨E,hE⟩:∃E,a+T.size=E:=⟨_,rfl⟩;have r1:IntKind.i64.wrap ((a:Int)+(T.size:Int))=(E:Int):=by rw[IntWalk.i64_in _ (by omega)];omega
 rw[hE];clear hat htx hE;have to0:(0:Int)<(o:Int):=by omega
 have to4:((o:Int)==4)=false:=beq_eq_false_iff_ne.2 (by omega);have to5:((o:Int)==5)=false:=beq_eq_false_iff_ne.2 (by omega);obtain⟨A,pd,bd⟩:=x;dsimp only at hbd;subst hbd;unfold zD;dsimp only;have hst:=xA.new w (A:Int) (.slice oa n c) false;have q0:(0:Int)≤(a:Int):=by omega
 have q1:(a:Int)<(s.size:Int):=by omega
 have yP:=hst.kb.cell 2;have zY:=hst.kb.cell 1;have HM:=hid hM;have yt:Hid (∀g,(Value.slice oa n c).ownBlock=some g→g<w.heap.size):=hid (λg hg=>Yv hM.src g hg);clear hM;go_enter Tryz.func36,Tryz.ntmps36
 go_wp2_with fail
 obtain⟨W,hW⟩:∃X,(((w.alloc (.cells #[.int .i64 (A:Int),.slice oa n c,.bool false] 50)).alloc (.cells #[.int .i64 0,.int .i64 0,.int .i64 0,.bool false] 44)).alloc (.cells #[.int .i64 0,.slice none 0 0,.bool false] 50))=X:=⟨_,rfl⟩;obtain⟨Bx,hBx⟩:∃z,w.heap.size=z:=⟨_,rfl⟩;rw[hW]at hst yP zY ⊢;rw[hBx]at hst yP zY yt ⊢;clear hW hBx;refine(vN.out _).mono ?_;rintro e w1 ⟨rfl,rfl⟩;have a0:=hst.kb.cell 0;have a1:=hst.kb.cell 1;have a2:=hst.kb.cell 2;have kZ:Bx+3≤w1.heap.size:=by have:=hst.kr.lt;omega
 go_wp2_with fail
 have ky:=zh.new w1 #[.int .i64 0,.slice oa n c,.bool false] 50;have hst2:=hst.below ((Below.refl _ w1).alloc (Nat.le_refl _) (.cells #[.int .i64 0,.slice oa n c,.bool false] 50));obtain⟨W2,hW2⟩:∃X,w1.alloc (.cells #[.int .i64 0,.slice oa n c,.bool false] 50)=X:=⟨_,rfl⟩;obtain⟨By,uK⟩:∃z,w1.heap.size=z:=⟨_,rfl⟩;rw[hW2]at ky hst2 ⊢;rw[uK]at ky kZ ⊢;clear hW2 uK hst a0 a1 a2 yP zY;obtain⟨hst,hst2⟩:xA w (A:Int) (.slice oa n c) false Bx W2∧True:=⟨hst2,trivial⟩;refine(HAT.out _).mono ?_;rintro e w2 ⟨rfl,rfl⟩;have y0:=ky.cell 0;have y1:=ky.cell 1;have y2:=ky.cell 2;have VN:=ky.frozen 0
 go_upto_region 21 with fail
 have t0:=hst.kt.cell 0;have t1:=hst.kt.cell 1;have t2:=hst.kt.cell 2;have t3:=hst.kt.cell 3;have kT:=hst.kt.frozen 0;have kU:=hst.kt.frozen 1;have kV:=hst.kt.frozen 2;have kW:=hst.kt.frozen 3;have r0:=hst.kr.cell 0;have r1:=hst.kr.cell 1;have r2:=hst.kr.cell 2;have kH:=hst.kr.frozen 0;have kJ:=hst.kr.frozen 1;have kK:=hst.kr.frozen 2
 go_region_with (go_at_call 55;refine(VJ.out _).mono ?_;rintro e w4 ⟨rfl,rfl⟩)
 all_goals
  go_wp2;obtain⟨f6,f7,_,_⟩:=hst.fin (4:Int) (a:Int) (E:Int) false (0:Int) (.slice oa n c) false;unfold qW at f6 f7;have h0:=f6.drew.cell 0;have h1:=f6.drew.cell 1;have h2:=f6.drew.cell 2;have h3:=f6.drew.cell 3;have i0:=f7.drew.cell 0;have i1:=f7.drew.cell 1;have i2:=f7.drew.cell 2;refine bodyPost_ret (v:=.tuple #[.agg #[.int .i64 (4:Int),.int .i64 (a:Int),.int .i64 (E:Int),.bool false],.agg #[.int .i64 (0:Int),(.slice oa n c),.bool false]]) (by simp[results,Tryz.results36,go_sem,h0,h1,h2,h3,i0,i1,i2]) rfl ?_;exact hst.YZ (t:=⟨4,a,E,false⟩) (y:=⟨0,pd,false⟩) ((HM.out.below hst.bl).same rfl) (λg hg=>by have:=yt.out g hg;omega) ⟨1,rfl⟩ rfl (λg hg=> .inl hg)
theorem zl0(hbd:x.body=false)(hbl:∀W,Calls Tryz.prog 53 #[.string s,.int .i64 (a:Int)] W λe w'=>e=.returned (.int .i64 (a:Int))∧w'=W)(bb:Nat)(hby:by8 s a=bb)(Gn:bb≠10)(Du:bb≠35)(hat:∀W,Calls Tryz.prog 54 #[.string s,.int .i64 (a:Int)] W λe w'=>e=.returned (.int .i64 (0:Int))∧w'=W)(R:Nat)(hRa:a≤R)(hRs:R≤s.size)(hR:∀b,a≤b→b≤s.size→(∀i,a≤i→i<b→cls (by8 s i)=6)→(b<s.size→cls (by8 s b)≠6)→b=R)(h1:a<R)(h2:R<s.size)(b2:Nat)(hb2:by8 s R=b2)(h3:b2=60∨b2=62):
  Calls Tryz.prog 36 #[.string s,.int .i64 (a:Int),zD x (.slice oa n c)] w λe w'=>Yc w (.slice oa n c) ⟨5,a,R,false⟩ ⟨0,x.pend,false⟩ e w':=by
 have vN:=hid hbl;clear hbl;have hix:∀hh:a<s.size,(s[a]'hh).toNat=bb:=λhh=>by rw[←hby];unfold by8;rw[yx hh]
 have Dv:((bb:Int)==10)=false:=beq_eq_false_iff_ne.2 (by omega);have tb2:((bb:Int)==35)=false:=beq_eq_false_iff_ne.2 (by omega);clear hby;have hi:¬(a:Int)<(a:Int):=by omega
 have HAT:=hid hat
 have HR:=hid hR;clear hat hR;have p1:(a:Int)≤(R:Int):=by omega
 have zbz:∀hh:R<s.size,(s[R]'hh).toNat=b2:=λhh=>by rw[←hb2];unfold by8;rw[yx hh]
 clear hb2;have p2:(a:Int)<(R:Int):=by omega
 have p3:(R:Int)<(s.size:Int):=by omega
 have p4:(0:Int)≤(R:Int):=by omega
 obtain⟨A,pd,bd⟩:=x;dsimp only at hbd;subst hbd;unfold zD;dsimp only;have hst:=xA.new w (A:Int) (.slice oa n c) false;have q0:(0:Int)≤(a:Int):=by omega
 have q1:(a:Int)<(s.size:Int):=by omega
 have yP:=hst.kb.cell 2;have zY:=hst.kb.cell 1;have HM:=hid hM;have yt:Hid (∀g,(Value.slice oa n c).ownBlock=some g→g<w.heap.size):=hid (λg hg=>Yv hM.src g hg);clear hM;go_enter Tryz.func36,Tryz.ntmps36
 go_wp2_with fail
 obtain⟨W,hW⟩:∃X,(((w.alloc (.cells #[.int .i64 (A:Int),.slice oa n c,.bool false] 50)).alloc (.cells #[.int .i64 0,.int .i64 0,.int .i64 0,.bool false] 44)).alloc (.cells #[.int .i64 0,.slice none 0 0,.bool false] 50))=X:=⟨_,rfl⟩;obtain⟨Bx,hBx⟩:∃z,w.heap.size=z:=⟨_,rfl⟩;rw[hW]at hst yP zY ⊢;rw[hBx]at hst yP zY yt ⊢;clear hW hBx;refine(vN.out _).mono ?_;rintro e w1 ⟨rfl,rfl⟩;have a0:=hst.kb.cell 0;have a1:=hst.kb.cell 1;have a2:=hst.kb.cell 2;have kZ:Bx+3≤w1.heap.size:=by have:=hst.kr.lt;omega
 go_wp2_with fail
 have ky:=zh.new w1 #[.int .i64 0,.slice oa n c,.bool false] 50;have hst2:=hst.below ((Below.refl _ w1).alloc (Nat.le_refl _) (.cells #[.int .i64 0,.slice oa n c,.bool false] 50));obtain⟨W2,hW2⟩:∃X,w1.alloc (.cells #[.int .i64 0,.slice oa n c,.bool false] 50)=X:=⟨_,rfl⟩;obtain⟨By,uK⟩:∃z,w1.heap.size=z:=⟨_,rfl⟩;rw[hW2]at ky hst2 ⊢;rw[uK]at ky kZ ⊢;clear hW2 uK hst a0 a1 a2 yP zY;obtain⟨hst,hst2⟩:xA w (A:Int) (.slice oa n c) false Bx W2∧True:=⟨hst2,trivial⟩;refine(HAT.out _).mono ?_;rintro e w2 ⟨rfl,rfl⟩
 go_upto_block 2 with fail
 go_cut [14]from 118 to 130 (λv14 wx=>v14=.int .i64 (R:Int)∧wx=w2)
 case first=>
  go_wp2
  go_loopw [14] (λv wr=>∃b:Nat,a≤b∧b≤s.size∧v=.int .i64 (b:Int)∧(∀i,a≤i→i<b→cls (by8 s i)=6)∧wr=w2) (λv _=>s.size-(intOf v).toNat)
  case atStart=>exact⟨a,Nat.le_refl _,by omega,rfl,λi h1 h2=>by omega,rfl⟩
  case round=>
   obtain⟨b,hab,hbs,rfl,hin,rfl⟩:=hrel;have ug:=hid hin;clear hin;have u0:(0:Int)≤(b:Int):=by omega
   by_cases hlt:b<s.size
   ·have u1:(b:Int)<(s.size:Int):=by omega
    obtain⟨cc,hcc⟩:∃cc,by8 s b=cc:=⟨_,rfl⟩;have eH:∀hh:b<s.size,(s[b]'hh).toNat=cc:=λhh=>by rw[←hcc];unfold by8;rw[yx hh]
    obtain⟨k6,hk6⟩:∃k6,cls cc=k6:=⟨_,rfl⟩;have hca:=λW=>Lu cc W;rw[hk6]at hca;have QC:=hid hca;have jk:=hid hcc;have jK:=hid hk6;clear hcc hk6 hca;by_cases h6:k6=6
    ·have H6:Hid (cls cc=6):=hid (jK.out.trans h6)
     subst h6
     go_wp2_with fail
     refine(QC.out _).mono ?_;rintro e w5 ⟨rfl,rfl⟩;go_wp2
     go_roundw
     case rel=>
      refine⟨b+1,by omega,by omega,by go_num,λi h1 h2=>?_,by first|rfl|trivial⟩;by_cases e:i=b
      ·rw[e,jk.out];exact H6.out
      ·exact ug.out i h1 (by omega)
     case measure=>simp[intOf];omega
    ·have t6:((k6:Int)==6)=false:=beq_eq_false_iff_ne.2 (by omega)
     have hbR:b=R:=HR.out b hab hbs ug.out (λ_=>by rw[jk.out,jK.out];exact h6);have uC:=hid hbR;clear hbR h6
     go_wp2_with fail
     refine(QC.out _).mono ?_;rintro e w5 ⟨rfl,rfl⟩;go_wp2;go_meet;case rel=>exact⟨by rw[uC.out],by first|rfl|trivial⟩
   ·have hbR:b=R:=HR.out b hab hbs ug.out (λh=>absurd h hlt)
    have uC:=hid hbR;have u1:¬(b:Int)<(s.size:Int):=by omega
    clear hbR hlt;go_wp2;go_meet;case rel=>exact⟨by rw[uC.out],by first|rfl|trivial⟩
 case rest=>
  obtain⟨hv,hw⟩:=hcut;subst hv;subst hw;have y0:=ky.cell 0;have y1:=ky.cell 1;have y2:=ky.cell 2;have VN:=ky.frozen 0;have t0:=hst.kt.cell 0;have t1:=hst.kt.cell 1;have t2:=hst.kt.cell 2;have t3:=hst.kt.cell 3;have kT:=hst.kt.frozen 0;have kU:=hst.kt.frozen 1;have kV:=hst.kt.frozen 2;have kW:=hst.kt.frozen 3;have r0:=hst.kr.cell 0;have r1:=hst.kr.cell 1;have r2:=hst.kr.cell 2;have kH:=hst.kr.frozen 0;have kJ:=hst.kr.frozen 1;have kK:=hst.kr.frozen 2;rcases h3 with rfl|rfl
  all_goals
   go_wp2
   go_region
   go_wp2;obtain⟨f6,f7,_,_⟩:=hst.fin (5:Int) (a:Int) (R:Int) false (0:Int) (.slice oa n c) false;unfold qW at f6 f7;have h0:=f6.drew.cell 0;have h1:=f6.drew.cell 1;have h2:=f6.drew.cell 2;have h3:=f6.drew.cell 3;have i0:=f7.drew.cell 0;have i1:=f7.drew.cell 1;have i2:=f7.drew.cell 2;refine bodyPost_ret (v:=.tuple #[.agg #[.int .i64 (5:Int),.int .i64 (a:Int),.int .i64 (R:Int),.bool false],.agg #[.int .i64 (0:Int),(.slice oa n c),.bool false]]) (by simp[results,Tryz.results36,go_sem,h0,h1,h2,h3,i0,i1,i2]) rfl ?_;exact hst.YZ (t:=⟨5,a,R,false⟩) (y:=⟨0,pd,false⟩) ((HM.out.below hst.bl).same rfl) (λg hg=>by have:=yt.out g hg;omega) ⟨1,rfl⟩ rfl (λg hg=> .inl hg)
theorem zl1(hbd:x.body=false)(hA0:x.await=0)(hbl:∀W,Calls Tryz.prog 53 #[.string s,.int .i64 (a:Int)] W λe w'=>e=.returned (.int .i64 (a:Int))∧w'=W)(bb:Nat)(hby:by8 s a=bb)(Gn:bb≠10)(Du:bb≠35)(hat:∀W,Calls Tryz.prog 54 #[.string s,.int .i64 (a:Int)] W λe w'=>e=.returned (.int .i64 (0:Int))∧w'=W)(R:Nat)(hRa:a≤R)(hRs:R≤s.size)(hR:∀b,a≤b→b≤s.size→(∀i,a≤i→i<b→cls (by8 s i)=6)→(b<s.size→cls (by8 s b)≠6)→b=R)(hnum:a<R→R<s.size→by8 s R≠60∧by8 s R≠62)(E:Nat)(hE1:a<E)(hE2:E≤s.size)(op:Bool)(hend:∀W,Calls Tryz.prog 57 #[.string s,.int .i64 (a:Int)] W λe w'=>e=.returned (.int .i64 (E:Int))∧Below W.heap.size W w')(hshut:∀W,Calls Tryz.prog 59 #[.string (s.extract a E)] W λe w'=>e=.returned (.bool (!op))∧Below W.heap.size W w'):
  Calls Tryz.prog 36 #[.string s,.int .i64 (a:Int),zD x (.slice oa n c)] w λe w'=>Yc w (.slice oa n c) ⟨6,a,E,op⟩ ⟨0,x.pend,false⟩ e w':=by
 have vN:=hid hbl;clear hbl;have hix:∀hh:a<s.size,(s[a]'hh).toNat=bb:=λhh=>by rw[←hby];unfold by8;rw[yx hh]
 have Dv:((bb:Int)==10)=false:=beq_eq_false_iff_ne.2 (by omega);have tb2:((bb:Int)==35)=false:=beq_eq_false_iff_ne.2 (by omega);clear hby;have hi:¬(a:Int)<(a:Int):=by omega
 have HAT:=hid hat
 have HR:=hid hR;clear hat hR;have p1:(a:Int)≤(R:Int):=by omega
 have Xu:=hid hend;have eP:=hid hnum;have hsh:∀W:World,Calls Tryz.prog 59 #[.string (s.extract a E)] W λe w'=>∃v,e=.returned v∧(v=.bool (!op)∧Below W.heap.size W w'):=λW=>(hshut W).mono (λe w' h=>⟨_,h.1,rfl,h.2⟩);have Va:=hid hsh;have u0:(a:Int)≤(E:Int):=by omega
 have u1:(E:Int)≤(s.size:Int):=by omega
 obtain⟨X,hX⟩:∃X,s.extract a E=X:=⟨_,rfl⟩;rw[hX]at Va;have QJ:=hid hX;clear hend hnum hshut hsh;have HA0:=hid hA0;clear hA0;obtain⟨A,pd,bd⟩:=x;dsimp only at hbd;subst hbd;unfold zD;dsimp only;have hst:=xA.new w (A:Int) (.slice oa n c) false;have q0:(0:Int)≤(a:Int):=by omega
 have q1:(a:Int)<(s.size:Int):=by omega
 have yP:=hst.kb.cell 2;have zY:=hst.kb.cell 1;have HM:=hid hM;have yt:Hid (∀g,(Value.slice oa n c).ownBlock=some g→g<w.heap.size):=hid (λg hg=>Yv hM.src g hg);clear hM;go_enter Tryz.func36,Tryz.ntmps36
 go_wp2_with fail
 obtain⟨W,hW⟩:∃X,(((w.alloc (.cells #[.int .i64 (A:Int),.slice oa n c,.bool false] 50)).alloc (.cells #[.int .i64 0,.int .i64 0,.int .i64 0,.bool false] 44)).alloc (.cells #[.int .i64 0,.slice none 0 0,.bool false] 50))=X:=⟨_,rfl⟩;obtain⟨Bx,hBx⟩:∃z,w.heap.size=z:=⟨_,rfl⟩;rw[hW]at hst yP zY ⊢;rw[hBx]at hst yP zY yt ⊢;clear hW hBx;refine(vN.out _).mono ?_;rintro e w1 ⟨rfl,rfl⟩;have a0:=hst.kb.cell 0;have a1:=hst.kb.cell 1;have a2:=hst.kb.cell 2;have kZ:Bx+3≤w1.heap.size:=by have:=hst.kr.lt;omega
 go_wp2_with fail
 have ky:=zh.new w1 #[.int .i64 0,.slice oa n c,.bool false] 50;have hst2:=hst.below ((Below.refl _ w1).alloc (Nat.le_refl _) (.cells #[.int .i64 0,.slice oa n c,.bool false] 50));obtain⟨W2,hW2⟩:∃X,w1.alloc (.cells #[.int .i64 0,.slice oa n c,.bool false] 50)=X:=⟨_,rfl⟩;obtain⟨By,uK⟩:∃z,w1.heap.size=z:=⟨_,rfl⟩;rw[hW2]at ky hst2 ⊢;rw[uK]at ky kZ ⊢;clear hW2 uK hst a0 a1 a2 yP zY;obtain⟨hst,hst2⟩:xA w (A:Int) (.slice oa n c) false Bx W2∧True:=⟨hst2,trivial⟩;refine(HAT.out _).mono ?_;rintro e w2 ⟨rfl,rfl⟩
 go_upto_block 2 with fail
 go_cut [14]from 118 to 130 (λv14 wx=>v14=.int .i64 (R:Int)∧wx=w2)
 case first=>
  go_wp2
  go_loopw [14] (λv wr=>∃b:Nat,a≤b∧b≤s.size∧v=.int .i64 (b:Int)∧(∀i,a≤i→i<b→cls (by8 s i)=6)∧wr=w2) (λv _=>s.size-(intOf v).toNat)
  case atStart=>exact⟨a,Nat.le_refl _,by omega,rfl,λi h1 h2=>by omega,rfl⟩
  case round=>
   obtain⟨b,hab,hbs,rfl,hin,rfl⟩:=hrel;have ug:=hid hin;clear hin;have u0:(0:Int)≤(b:Int):=by omega
   by_cases hlt:b<s.size
   ·have u1:(b:Int)<(s.size:Int):=by omega
    obtain⟨cc,hcc⟩:∃cc,by8 s b=cc:=⟨_,rfl⟩;have eH:∀hh:b<s.size,(s[b]'hh).toNat=cc:=λhh=>by rw[←hcc];unfold by8;rw[yx hh]
    obtain⟨k6,hk6⟩:∃k6,cls cc=k6:=⟨_,rfl⟩;have hca:=λW=>Lu cc W;rw[hk6]at hca;have QC:=hid hca;have jk:=hid hcc;have jK:=hid hk6;clear hcc hk6 hca;by_cases h6:k6=6
    ·have H6:Hid (cls cc=6):=hid (jK.out.trans h6)
     subst h6
     go_wp2_with fail
     refine(QC.out _).mono ?_;rintro e w5 ⟨rfl,rfl⟩;go_wp2
     go_roundw
     case rel=>
      refine⟨b+1,by omega,by omega,by go_num,λi h1 h2=>?_,by first|rfl|trivial⟩;by_cases e:i=b
      ·rw[e,jk.out];exact H6.out
      ·exact ug.out i h1 (by omega)
     case measure=>simp[intOf];omega
    ·have t6:((k6:Int)==6)=false:=beq_eq_false_iff_ne.2 (by omega)
     have hbR:b=R:=HR.out b hab hbs ug.out (λ_=>by rw[jk.out,jK.out];exact h6);have uC:=hid hbR;clear hbR h6
     go_wp2_with fail
     refine(QC.out _).mono ?_;rintro e w5 ⟨rfl,rfl⟩;go_wp2;go_meet;case rel=>exact⟨by rw[uC.out],by first|rfl|trivial⟩
   ·have hbR:b=R:=HR.out b hab hbs ug.out (λh=>absurd h hlt)
    have uC:=hid hbR;have u1:¬(b:Int)<(s.size:Int):=by omega
    clear hbR hlt;go_wp2;go_meet;case rel=>exact⟨by rw[uC.out],by first|rfl|trivial⟩
 case rest=>
  obtain⟨hv,hw⟩:=hcut;subst hv;subst hw
  go_upto_region 25 with fail
  go_cut [151]from 131 to 151 (λeQ wx=>eQ=.bool false∧wx=wc)
  case first=>
   by_cases h1:a<R
   ·have p2:(a:Int)<(R:Int):=by omega
    by_cases h2:R<s.size
    ·have p3:(R:Int)<(s.size:Int):=by omega
     have p4:(0:Int)≤(R:Int):=by omega
     obtain⟨b2,hb2⟩:∃b2,by8 s R=b2:=⟨_,rfl⟩;have zbz:∀hh:R<s.size,(s[R]'hh).toNat=b2:=λhh=>by rw[←hb2];unfold by8;rw[yx hh]
     have hnb:=eP.out h1 h2;rw[hb2]at hnb;have t60:((b2:Int)==60)=false:=beq_eq_false_iff_ne.2 (by omega);have t62:((b2:Int)==62)=false:=beq_eq_false_iff_ne.2 (by omega);clear hb2 hnb;go_wp2;go_meet;case rel=>exact⟨by first|rfl|simp,by first|rfl|trivial⟩
    ·have p3:¬(R:Int)<(s.size:Int):=by omega
     go_wp2;go_meet;case rel=>exact⟨by first|rfl|simp,by first|rfl|trivial⟩
   ·have p2:¬(a:Int)<(R:Int):=by omega
    go_wp2;go_meet;case rel=>exact⟨by first|rfl|simp,by first|rfl|trivial⟩
  case rest=>
   obtain⟨hv,hw⟩:=hcut;subst hv;subst hw
   go_wp2_with fail
   refine(Xu.out _).mono ?_;rintro e w4 ⟨rfl,hb4⟩;have uu:=hst.below hb4;have ZM:=ky.below hb4;have a0:w4.cell? ⟨Bx,0,none⟩=some (.int .i64 0):=by have:=uu.kb.cell 0;rw[HA0.out]at this;exact this
   go_upto_region 31 with fail
   have eU:Bx+3≤By:=kZ;have y0:=ZM.drew.cell 0;have y1:=ZM.drew.cell 1;have y2:=ZM.drew.cell 2;have t0:=uu.kt.drew.cell 0;have t1:=uu.kt.drew.cell 1;have t2:=uu.kt.drew.cell 2;have t3:=uu.kt.drew.cell 3;have kT:=uu.kt.drew.frozen 0;have kU:=uu.kt.drew.frozen 1;have kV:=uu.kt.drew.frozen 2;have kW:=uu.kt.drew.frozen 3;have r0:=uu.kr.drew.cell 0;have r1:=uu.kr.drew.cell 1;have r2:=uu.kr.drew.cell 2;have kH:=uu.kr.drew.frozen 0;have kJ:=uu.kr.drew.frozen 1;have kK:=uu.kr.drew.frozen 2
   go_region_held3 (λw'=>w'.cell? ⟨By,0,none⟩=some (.int .i64 0)∧w'.cell? ⟨By,1,none⟩=some (.slice oa n c)∧w'.cell? ⟨By,2,none⟩=some (.bool false)) (((repeat(refine zby (by omega) ?_));first|exact⟨y0,y1,y2⟩|exact⟨uO.cell 0,uO.cell 1,uO.cell 2⟩)) (first
    |(refine um (by rfl) Tryz.func59 (by kernel_rfl) (by kernel_rfl) _ _ (by rfl) [.string X] (by rfl) _ (Va.out _) ?_;intro v w5 hh;obtain⟨hv,hb5⟩:=hh;subst hv;clear t0 t1 t2 t3 kT kU kV kW r0 r1 r2 kH kJ kK;have uO:=ZM.drew.below hb5;have jf:=uu.kt.drew.below hb5;have xy:=uu.kr.drew.below hb5;have u0:=jf.cell 0;have u1:=jf.cell 1;have u2:=jf.cell 2;have u3:=jf.cell 3;have uf0:=jf.frozen 0;have J3:=jf.frozen 1;have pG:=jf.frozen 2;have uf3:=jf.frozen 3;have v0:=xy.cell 0;have v1:=xy.cell 1;have v2:=xy.cell 2;have vf0:=xy.frozen 0;have Q3:=xy.frozen 1;have H9:=xy.frozen 2))
   go_wp2;have hst5:=uu.below ((Below.refl _ _).drew.trans hb5);clear hst;obtain⟨hst,_⟩:xA w (A:Int) (.slice oa n c) false Bx w5∧True:=⟨hst5,trivial⟩;obtain⟨f6,f7,_,_⟩:=hst.fin (6:Int) (a:Int) (E:Int) op (0:Int) (.slice oa n c) false;unfold qW at f6 f7;have h0:=f6.cell 0;have h1:=f6.cell 1;have h2:=f6.cell 2;have h3:=f6.cell 3;have i0:=f7.cell 0;have i1:=f7.cell 1;have i2:=f7.cell 2;refine bodyPost_ret (v:=.tuple #[.agg #[.int .i64 (6:Int),.int .i64 (a:Int),.int .i64 (E:Int),.bool op],.agg #[.int .i64 (0:Int),(.slice oa n c),.bool false]]) (by simp[results,Tryz.results36,go_sem,h0,h1,h2,h3,i0,i1,i2]) rfl ?_;exact hst.YZ (t:=⟨6,a,E,op⟩) (y:=⟨0,pd,false⟩) ((HM.out.below hst.bl).same rfl) (λg hg=>by have:=yt.out g hg;omega) (vI.refl _) rfl (λg hg=> .inl hg)
theorem zl2(hbd:x.body=false)(hA0:x.await≠0)(hA1:x.await≤1000)(hpl:x.pend.length≤900000)(hbl:∀W,Calls Tryz.prog 53 #[.string s,.int .i64 (a:Int)] W λe w'=>e=.returned (.int .i64 (a:Int))∧w'=W)(bb:Nat)(hby:by8 s a=bb)(Gn:bb≠10)(Du:bb≠35)(hat:∀W,Calls Tryz.prog 54 #[.string s,.int .i64 (a:Int)] W λe w'=>e=.returned (.int .i64 (0:Int))∧w'=W)(R:Nat)(hRa:a≤R)(hRs:R≤s.size)(hR:∀b,a≤b→b≤s.size→(∀i,a≤i→i<b→cls (by8 s i)=6)→(b<s.size→cls (by8 s b)≠6)→b=R)(hnum:a<R→R<s.size→by8 s R≠60∧by8 s R≠62)(E:Nat)(hE1:a<E)(hE2:E≤s.size)(op:Bool)(hend:∀W,Calls Tryz.prog 57 #[.string s,.int .i64 (a:Int)] W λe w'=>e=.returned (.int .i64 (E:Int))∧Below W.heap.size W w')(hshut:∀W,Calls Tryz.prog 59 #[.string (s.extract a E)] W λe w'=>e=.returned (.bool (!op))∧Below W.heap.size W w')(BT:ByteArray)(hbare:∀W,Calls Tryz.prog 58 #[.string (s.extract a E)] W λe w'=>e=.returned (.string BT)∧Below W.heap.size W w'):
  Calls Tryz.prog 36 #[.string s,.int .i64 (a:Int),zD x (.slice oa n c)] w λe w'=>Yc w (.slice oa n c) ⟨6,a,E,op⟩ ⟨0,x.pend++ [⟨BT,decide (x.await=5)⟩],false⟩ e w':=by
 have vN:=hid hbl;clear hbl;have hix:∀hh:a<s.size,(s[a]'hh).toNat=bb:=λhh=>by rw[←hby];unfold by8;rw[yx hh]
 have Dv:((bb:Int)==10)=false:=beq_eq_false_iff_ne.2 (by omega);have tb2:((bb:Int)==35)=false:=beq_eq_false_iff_ne.2 (by omega);clear hby;have hi:¬(a:Int)<(a:Int):=by omega
 have HAT:=hid hat
 have HR:=hid hR;clear hat hR;have p1:(a:Int)≤(R:Int):=by omega
 have Xu:=hid hend;have eP:=hid hnum;have hsh:∀W:World,Calls Tryz.prog 59 #[.string (s.extract a E)] W λe w'=>∃v,e=.returned v∧(v=.bool (!op)∧Below W.heap.size W w'):=λW=>(hshut W).mono (λe w' h=>⟨_,h.1,rfl,h.2⟩);have Va:=hid hsh;have u0:(a:Int)≤(E:Int):=by omega
 have u1:(E:Int)≤(s.size:Int):=by omega
 obtain⟨X,hX⟩:∃X,s.extract a E=X:=⟨_,rfl⟩;have hba:∀W:World,Calls Tryz.prog 58 #[.string (s.extract a E)] W λe w'=>∃v,e=.returned v∧(v=.string BT∧Below W.heap.size W w'):=λW=>(hbare W).mono (λe w' h=>⟨_,h.1,rfl,h.2⟩);have QB:=hid hba;rw[hX]at Va QB;clear hba hbare;have QJ:=hid hX;clear hend hnum hshut hsh;obtain⟨T5,XY⟩:∃T5,decide (x.await=5)=T5:=⟨_,rfl⟩;have hdec:((x.await:Int)==5)=T5:=by
  rw[←XY];by_cases h5:x.await=5
  ·rw[h5];rfl
  ·rw[decide_eq_false h5];exact beq_eq_false_iff_ne.2 (by omega)
 rw[XY];have ha0:((x.await:Int)!=0)=true:=by rw[bne,beq_eq_false_iff_ne.2 (by omega)];rfl
 have znw:((x.await:Int)==0)=false:=beq_eq_false_iff_ne.2 (by omega);have NP:=hid hpl;clear XY hA0 hpl;obtain⟨A,pd,bd⟩:=x;dsimp only at hbd;subst hbd;unfold zD;dsimp only;have hst:=xA.new w (A:Int) (.slice oa n c) false;have q0:(0:Int)≤(a:Int):=by omega
 have q1:(a:Int)<(s.size:Int):=by omega
 have yP:=hst.kb.cell 2;have zY:=hst.kb.cell 1;have HM:=hid hM;have yt:Hid (∀g,(Value.slice oa n c).ownBlock=some g→g<w.heap.size):=hid (λg hg=>Yv hM.src g hg);clear hM;go_enter Tryz.func36,Tryz.ntmps36
 go_wp2_with fail
 obtain⟨W,hW⟩:∃X,(((w.alloc (.cells #[.int .i64 (A:Int),.slice oa n c,.bool false] 50)).alloc (.cells #[.int .i64 0,.int .i64 0,.int .i64 0,.bool false] 44)).alloc (.cells #[.int .i64 0,.slice none 0 0,.bool false] 50))=X:=⟨_,rfl⟩;obtain⟨Bx,hBx⟩:∃z,w.heap.size=z:=⟨_,rfl⟩;rw[hW]at hst yP zY ⊢;rw[hBx]at hst yP zY yt ⊢;clear hW hBx;refine(vN.out _).mono ?_;rintro e w1 ⟨rfl,rfl⟩;have a0:=hst.kb.cell 0;have a1:=hst.kb.cell 1;have a2:=hst.kb.cell 2;have kZ:Bx+3≤w1.heap.size:=by have:=hst.kr.lt;omega
 go_wp2_with fail
 have ky:=zh.new w1 #[.int .i64 0,.slice oa n c,.bool false] 50;have hst2:=hst.below ((Below.refl _ w1).alloc (Nat.le_refl _) (.cells #[.int .i64 0,.slice oa n c,.bool false] 50));obtain⟨W2,hW2⟩:∃X,w1.alloc (.cells #[.int .i64 0,.slice oa n c,.bool false] 50)=X:=⟨_,rfl⟩;obtain⟨By,uK⟩:∃z,w1.heap.size=z:=⟨_,rfl⟩;rw[hW2]at ky hst2 ⊢;rw[uK]at ky kZ ⊢;clear hW2 uK hst a0 a1 a2 yP zY;obtain⟨hst,hst2⟩:xA w (A:Int) (.slice oa n c) false Bx W2∧True:=⟨hst2,trivial⟩;refine(HAT.out _).mono ?_;rintro e w2 ⟨rfl,rfl⟩
 go_upto_block 2 with fail
 go_cut [14]from 118 to 130 (λv14 wx=>v14=.int .i64 (R:Int)∧wx=w2)
 case first=>
  go_wp2
  go_loopw [14] (λv wr=>∃b:Nat,a≤b∧b≤s.size∧v=.int .i64 (b:Int)∧(∀i,a≤i→i<b→cls (by8 s i)=6)∧wr=w2) (λv _=>s.size-(intOf v).toNat)
  case atStart=>exact⟨a,Nat.le_refl _,by omega,rfl,λi h1 h2=>by omega,rfl⟩
  case round=>
   obtain⟨b,hab,hbs,rfl,hin,rfl⟩:=hrel;have ug:=hid hin;clear hin;have u0:(0:Int)≤(b:Int):=by omega
   by_cases hlt:b<s.size
   ·have u1:(b:Int)<(s.size:Int):=by omega
    obtain⟨cc,hcc⟩:∃cc,by8 s b=cc:=⟨_,rfl⟩;have eH:∀hh:b<s.size,(s[b]'hh).toNat=cc:=λhh=>by rw[←hcc];unfold by8;rw[yx hh]
    obtain⟨k6,hk6⟩:∃k6,cls cc=k6:=⟨_,rfl⟩;have hca:=λW=>Lu cc W;rw[hk6]at hca;have QC:=hid hca;have jk:=hid hcc;have jK:=hid hk6;clear hcc hk6 hca;by_cases h6:k6=6
    ·have H6:Hid (cls cc=6):=hid (jK.out.trans h6)
     subst h6
     go_wp2_with fail
     refine(QC.out _).mono ?_;rintro e w5 ⟨rfl,rfl⟩;go_wp2
     go_roundw
     case rel=>
      refine⟨b+1,by omega,by omega,by go_num,λi h1 h2=>?_,by first|rfl|trivial⟩;by_cases e:i=b
      ·rw[e,jk.out];exact H6.out
      ·exact ug.out i h1 (by omega)
     case measure=>simp[intOf];omega
    ·have t6:((k6:Int)==6)=false:=beq_eq_false_iff_ne.2 (by omega)
     have hbR:b=R:=HR.out b hab hbs ug.out (λ_=>by rw[jk.out,jK.out];exact h6);have uC:=hid hbR;clear hbR h6
     go_wp2_with fail
     refine(QC.out _).mono ?_;rintro e w5 ⟨rfl,rfl⟩;go_wp2;go_meet;case rel=>exact⟨by rw[uC.out],by first|rfl|trivial⟩
   ·have hbR:b=R:=HR.out b hab hbs ug.out (λh=>absurd h hlt)
    have uC:=hid hbR;have u1:¬(b:Int)<(s.size:Int):=by omega
    clear hbR hlt;go_wp2;go_meet;case rel=>exact⟨by rw[uC.out],by first|rfl|trivial⟩
 case rest=>
  obtain⟨hv,hw⟩:=hcut;subst hv;subst hw
  go_upto_region 25 with fail
  go_cut [151]from 131 to 151 (λeQ wx=>eQ=.bool false∧wx=wc)
  case first=>
   by_cases h1:a<R
   ·have p2:(a:Int)<(R:Int):=by omega
    by_cases h2:R<s.size
    ·have p3:(R:Int)<(s.size:Int):=by omega
     have p4:(0:Int)≤(R:Int):=by omega
     obtain⟨b2,hb2⟩:∃b2,by8 s R=b2:=⟨_,rfl⟩;have zbz:∀hh:R<s.size,(s[R]'hh).toNat=b2:=λhh=>by rw[←hb2];unfold by8;rw[yx hh]
     have hnb:=eP.out h1 h2;rw[hb2]at hnb;have t60:((b2:Int)==60)=false:=beq_eq_false_iff_ne.2 (by omega);have t62:((b2:Int)==62)=false:=beq_eq_false_iff_ne.2 (by omega);clear hb2 hnb;go_wp2;go_meet;case rel=>exact⟨by first|rfl|simp,by first|rfl|trivial⟩
    ·have p3:¬(R:Int)<(s.size:Int):=by omega
     go_wp2;go_meet;case rel=>exact⟨by first|rfl|simp,by first|rfl|trivial⟩
   ·have p2:¬(a:Int)<(R:Int):=by omega
    go_wp2;go_meet;case rel=>exact⟨by first|rfl|simp,by first|rfl|trivial⟩
  case rest=>
   obtain⟨hv,hw⟩:=hcut;subst hv;subst hw
   go_wp2_with fail
   refine(Xu.out _).mono ?_;rintro e w4 ⟨rfl,hb4⟩;have uu:=hst.below hb4;have ZM:=ky.below hb4;have a0:=uu.kb.cell 0
   go_upto_region 30 with fail
   have dF:n=pd.length:=by
    obtain⟨yD,c',he,_⟩:=HM.out.cap;injection he
   have hsrc:Src w4 (.slice oa n c) n (zx pd):=by rw[dF];rw[dF]at HM;exact(HM.out.below uu.bl).src
   have HN9:=hid dF;have hnl:n≤900000:=by have:=NP.out;omega
   have VU:=hid hsrc;clear dF hsrc a0;have eU:Bx+3≤By:=kZ;have znx:By<w4.heap.size:=ZM.lt;have zl3:=hid uu;have e0:w4.drew.cell? ⟨Bx,0,none⟩=some (.int .i64 (A:Int)):=uu.kb.cell 0;have e1:w4.drew.cell? ⟨Bx,1,none⟩=some (.slice oa n c):=uu.kb.cell 1;have z1:((w4.alloc (.cells #[] 87)).drew).cell? ⟨Bx,0,none⟩=some (.int .i64 (A:Int))∧((w4.alloc (.cells #[] 87)).drew).cell? ⟨Bx,1,none⟩=some (.slice oa n c):=⟨((uu.kb.alloc _).drew).cell 0,((uu.kb.alloc _).drew).cell 1⟩
   go_region_held_law (λw'=>w'.cell? ⟨Bx,0,none⟩=some (.int .i64 (A:Int))∧w'.cell? ⟨Bx,1,none⟩=some (.slice oa n c)) (first|exact⟨e0,e1⟩|exact z1|exact⟨kb8.cell 0,kb8.cell 1⟩|exact⟨xx.cell 0,xx.cell 1⟩|exact zbA _|exact⟨Dw.cell 0,Dw.cell 1⟩|exact zbB) (first
    |(refine Y0 (by rfl) _ _ 48 87 2 24 _ (by rfl) Tryz.underlying48 Jp rfl (by omega) (by omega) w4.heap.size (.slice (some ⟨w4.heap.size,0,none⟩) 0 0) 0 [] (by rfl) (vM (zbw w4) ((Below.refl _ _).drew)) _ n (zx pd) (by rfl) (VU.out.below (((Below.refl _ _).alloc (Nat.le_refl _) _).drew)) (NT HN9.out) (Qk pd) (by omega) (by show w4.heap.size≤(w4.alloc _).heap.size;rw[World.size_alloc];exact Nat.le_succ _) n (Nat.zero_add n) ?_;intro Yr c8 w8 XH jC Z7;have kb8:=(uu.kb.alloc (.cells #[] 87)).drew.grown jC (λe=>by have:Bx=w4.heap.size:=(by injection e);omega);have WT:=(ZM.alloc (.cells #[] 87)).drew.grown jC (λe=>by have:By=w4.heap.size:=(by injection e);omega);have hb8:Below w4.heap.size w4 w8:=(((Below.refl w4.heap.size w4).alloc (Nat.le_refl _) _).drew).grown jC (by show w4.heap.size≤(w4.alloc _).heap.size;rw[World.size_alloc];exact Nat.le_succ _) (λk hk=>by have:w4.heap.size=k:=(by injection hk);omega))
    |(refine um (by rfl) Tryz.func58 (by kernel_rfl) (by kernel_rfl) _ _ (by rfl) [.string X] (by rfl) _ (QB.out _) ?_;intro v w9 hh;obtain⟨BR,vH⟩:=hh;subst BR;have xx:=kb8.below vH;have ky9:=WT.below vH;have jg:=vM XH vH;have zbA:∀o,(w9.alloc o).cell? ⟨Bx,0,none⟩=some (.int .i64 (A:Int))∧(w9.alloc o).cell? ⟨Bx,1,none⟩=some (.slice oa n c):=λo=>⟨(xx.alloc o).cell 0,(xx.alloc o).cell 1⟩;have Dx:Below w4.heap.size w4 w9:=hb8.trans (vH.mono hb8.size))
    |(refine Y0 (by rfl) _ _ 48 87 2 24 _ (by rfl) Tryz.underlying48 Jp rfl (by omega) (by omega) w4.heap.size (.slice Yr n c8) n ([]++zx pd) (by rfl) (vM jg ((Below.refl _ _).alloc (Nat.le_refl _) _)) _ 1 [.string BT,.bool T5] (by rfl) (zaN (x:=⟨BT,T5⟩) (zh.new w9 _ _)) rfl (Qk [⟨BT,T5⟩]) (by omega) (by rw[World.size_alloc];have:=Dx.size;omega) (n+1) rfl ?_;intro Yw c7 w7 J9 Qa VR;have tY:=(ky9.alloc (.cells #[.string BT,.bool T5] 87)).grown Qa (λe=>by have:=yH jg _ e.symm;omega);have y1:=tY.cell 1;have ZC:=tY.frozen 1;have Dw:=(xx.alloc (.cells #[.string BT,.bool T5] 87)).grown Qa (λe=>by have:=yH jg _ e.symm;have:=uu.kb.lt;omega);have zbB:(w7.setCell ⟨By,1,none⟩ (.slice Yw (n+1) c7)).cell? ⟨Bx,0,none⟩=some (.int .i64 (A:Int))∧(w7.setCell ⟨By,1,none⟩ (.slice Yw (n+1) c7)).cell? ⟨Bx,1,none⟩=some (.slice oa n c):=⟨(Dw.other 1 _ (by omega)).cell 0,(Dw.other 1 _ (by omega)).cell 1⟩))
   have hb7:Below w4.heap.size w4 w7:=(Dx.alloc Dx.size _).grown Qa (by rw[World.size_alloc];have:=Dx.size;omega) (λk hk=>yH jg k hk);have Dy:=zl3.out.below hb7;have VF:=tY.set 1 (.slice Yw (n+1) c7);have jP:zg (λb=>b=By) w7 (w7.setCell ⟨By,1,none⟩ (.slice Yw (n+1) c7)):=zg.setCell (p:=λb=>b=By) (zg.refl _ w7) 1 (.inl rfl) _;have qX:xA w (A:Int) (.slice oa n c) false Bx (w7.setCell ⟨By,1,none⟩ (.slice Yw (n+1) c7)):=⟨Dy.kb.other 1 _ (by omega),Dy.kt.other 1 _ (by omega),Dy.kr.other 1 _ (by omega),Dy.bl.setCell (p:=⟨By,1,none⟩) (by have:=hst.bx;show w.heap.size≤By;omega) _,hst.bx⟩;have eX:=yH J9;have hown6:=zQ jP J9 (λg hg hh=>by have:=eX g hg;omega);obtain⟨g9,zk0,gG,Qv,CQ,_,CU⟩:=VT J9 (by omega);have hc7:n+1≤c7:=by
    injection gG with _ _ e3;omega
   clear gG Qv CQ CU;obtain⟨W6,hW6⟩:∃Y,w7.setCell ⟨By,1,none⟩ (.slice Yw (n+1) c7)=Y:=⟨_,rfl⟩;rw[hW6]at VF qX hown6 ⊢;have tZ:zh W6 By #[.int .i64 0,.slice Yw (n+1) c7,.bool false] 50:=VF;have hlen:(pd++ [(⟨BT,T5⟩:Dl)]).length=n+1:=by rw[List.length_append,←HN9.out];rfl
   have hce:zx (pd++ [(⟨BT,T5⟩:Dl)])=[]++zx pd++ [.string BT,.bool T5]:=by rw[Rj];rfl
   have VK:yR W6 (.slice Yw (n+1) c7) ⟨0,pd++ [⟨BT,T5⟩],false⟩:=by
    refine⟨?_,⟨Yw,c7,?_,?_⟩⟩
    ·show Src W6 _ (pd++ [(⟨BT,T5⟩:Dl)]).length (zx (pd++ [(⟨BT,T5⟩:Dl)]))
     rw[hlen,hce];exact Src.uT hown6
    ·show _=Value.slice Yw (pd++ [(⟨BT,T5⟩:Dl)]).length c7
     rw[hlen]
    ·show(pd++ [(⟨BT,T5⟩:Dl)]).length≤c7
     rw[hlen];exact hc7
   have HM6:=hid VK;have zbC:=hid eX;clear hlen hce VK eX hown6 J9 XH jg hW6 VF Dy zbB Dw xx kb8 WT ky9 tY zbA y1 ZC Qa jC VR Z7 jP e0 e1 z1 hb7 Dx hb8 vH;have kZ:Bx+3≤By:=eU
   go_upto_region 31 with fail
   have eU:Bx+3≤By:=kZ;have y0:=tZ.drew.cell 0;have y1:=tZ.drew.cell 1;have y2:=tZ.drew.cell 2;have t0:=qX.kt.drew.cell 0;have t1:=qX.kt.drew.cell 1;have t2:=qX.kt.drew.cell 2;have t3:=qX.kt.drew.cell 3;have kT:=qX.kt.drew.frozen 0;have kU:=qX.kt.drew.frozen 1;have kV:=qX.kt.drew.frozen 2;have kW:=qX.kt.drew.frozen 3;have r0:=qX.kr.drew.cell 0;have r1:=qX.kr.drew.cell 1;have r2:=qX.kr.drew.cell 2;have kH:=qX.kr.drew.frozen 0;have kJ:=qX.kr.drew.frozen 1;have kK:=qX.kr.drew.frozen 2
   go_region_held3 (λw'=>w'.cell? ⟨By,0,none⟩=some (.int .i64 0)∧w'.cell? ⟨By,1,none⟩=some (.slice Yw (n+1) c7)∧w'.cell? ⟨By,2,none⟩=some (.bool false)) (((repeat(refine zby (by omega) ?_));first|exact⟨y0,y1,y2⟩|exact⟨uO.cell 0,uO.cell 1,uO.cell 2⟩)) (first
    |(refine um (by rfl) Tryz.func59 (by kernel_rfl) (by kernel_rfl) _ _ (by rfl) [.string X] (by rfl) _ (Va.out _) ?_;intro v w5 hh;obtain⟨hv,hb5⟩:=hh;subst hv;clear t0 t1 t2 t3 kT kU kV kW r0 r1 r2 kH kJ kK;have uO:=tZ.drew.below hb5;have jf:=qX.kt.drew.below hb5;have xy:=qX.kr.drew.below hb5;have u0:=jf.cell 0;have u1:=jf.cell 1;have u2:=jf.cell 2;have u3:=jf.cell 3;have uf0:=jf.frozen 0;have J3:=jf.frozen 1;have pG:=jf.frozen 2;have uf3:=jf.frozen 3;have v0:=xy.cell 0;have v1:=xy.cell 1;have v2:=xy.cell 2;have vf0:=xy.frozen 0;have Q3:=xy.frozen 1;have H9:=xy.frozen 2))
   go_wp2;have hst5:=qX.below ((Below.refl _ _).drew.trans hb5);clear hst;obtain⟨hst,_⟩:xA w (A:Int) (.slice oa n c) false Bx w5∧True:=⟨hst5,trivial⟩;obtain⟨f6,f7,_,_⟩:=hst.fin (6:Int) (a:Int) (E:Int) op (0:Int) (.slice Yw (n+1) c7) false;unfold qW at f6 f7;have h0:=f6.cell 0;have h1:=f6.cell 1;have h2:=f6.cell 2;have h3:=f6.cell 3;have i0:=f7.cell 0;have i1:=f7.cell 1;have i2:=f7.cell 2;refine bodyPost_ret (v:=.tuple #[.agg #[.int .i64 (6:Int),.int .i64 (a:Int),.int .i64 (E:Int),.bool op],.agg #[.int .i64 (0:Int),(.slice Yw (n+1) c7),.bool false]]) (by simp[results,Tryz.results36,go_sem,h0,h1,h2,h3,i0,i1,i2]) rfl ?_;exact hst.YZ (t:=⟨6,a,E,op⟩) (y:=⟨0,pd++ [⟨BT,T5⟩],false⟩) (HM6.out.below ((Below.refl _ _).drew.trans hb5)) (λg hg=>by have:=zbC.out g hg;omega) (vI.refl _) rfl (λg hg=> .inr (by have:=zbC.out g hg;have:=hst.bx;omega))
theorem zl4(hbd:x.body=true)(d:Dl)(ds:List Dl)(hp:x.pend=d::ds)(E:Nat)(hE:E≤s.size)(Yd:∀W,Calls Tryz.prog 52 #[.string s,.int .i64 (a:Int),.agg #[.string d.word,.bool d.tabs]] W λe w'=>e=.returned (.tuple #[.int .i64 (E:Int),.int .i64 0])∧Below W.heap.size W w'):
  Calls Tryz.prog 36 #[.string s,.int .i64 (a:Int),zD x (.slice oa n c)] w λe w'=>Yc w (.slice oa n c) ⟨7,a,E,true⟩ x e w':=by
 obtain⟨b,off,hoa,hbl,d0,d1,hn1,hnc⟩:∃b off,oa=some ⟨b,off,none⟩∧b<w.heap.size∧w.cell? ⟨b,off,none⟩=some (.string d.word)∧w.cell? ⟨b,off+1,none⟩=some (.bool d.tabs)∧n=ds.length+1∧n≤c:=by
  obtain⟨yD,c',he,hc'⟩:=hM.cap;rw[hp]at he hc';injection he with e1 e2 e3;rcases hM.src with⟨_,h,_⟩|⟨b,off,c2,h1,h2,h3⟩
  ·rw[hp]at h;cases h
  ·injection h1 with h4
   refine⟨b,off,h4,h2,?_,?_,e2,by rw[e3,e2];exact hc'⟩
   ·have:=h3 0 (.string d.word) (by rw[hp,qR];rfl)
    rwa [Nat.add_zero]at this
   ·exact h3 1 (.bool d.tabs) (by rw[hp,qR];rfl)
 subst hoa;have Dz:=hid Yd;have i1:(0:Int)<(n:Int):=by omega
 have DC:=hid hn1;have GG:=hid hp;clear Yd hn1 hp;obtain⟨A,pd,bd⟩:=x;dsimp only at hbd;subst hbd;unfold zD;dsimp only;have hst:=xA.new w (A:Int) (.slice (some ⟨b,off,none⟩) n c) true;have q0:(0:Int)≤(a:Int):=by omega
 have q1:(a:Int)<(s.size:Int):=by omega
 have yP:=hst.kb.cell 2;have zY:=hst.kb.cell 1;have HM:=hid hM;have yt:Hid (∀g,(Value.slice (some ⟨b,off,none⟩) n c).ownBlock=some g→g<w.heap.size):=hid (λg hg=>Yv hM.src g hg);clear hM;go_enter Tryz.func36,Tryz.ntmps36;have hkeep:∀W,Below w.heap.size w W→W.cell? ⟨b,off,none⟩=some (.string d.word)∧W.cell? ⟨b,off+1,none⟩=some (.bool d.tabs):=λW hW=>⟨(hW.cell (p:=⟨b,off,none⟩) hbl).trans d0,(hW.cell (p:=⟨b,off+1,none⟩) hbl).trans d1⟩;have e0:=(hkeep _ hst.bl).1;have e1:=(hkeep _ hst.bl).2
 go_wp2_with fail
 obtain⟨W,hW⟩:∃X,(((w.alloc (.cells #[.int .i64 (A:Int),.slice (some ⟨b,off,none⟩) n c,.bool true] 50)).alloc (.cells #[.int .i64 0,.int .i64 0,.int .i64 0,.bool false] 44)).alloc (.cells #[.int .i64 0,.slice none 0 0,.bool false] 50))=X:=⟨_,rfl⟩;obtain⟨Bx,hBx⟩:∃z,w.heap.size=z:=⟨_,rfl⟩;rw[hW]at hst yP zY e0 e1 ⊢;rw[hBx]at hst yP zY yt ⊢;clear hW hBx;refine(Dz.out _).mono ?_;rintro e w1 ⟨rfl,hb1⟩;obtain⟨YY,_⟩:xA w (A:Int) (.slice (some ⟨b,off,none⟩) n c) true Bx W∧True:=⟨hst,trivial⟩;clear hst;have hst:=YY.below hb1;clear YY e0 e1 d0 d1 hkeep yP zY;have a0:=hst.kb.cell 0;have a1:=hst.kb.cell 1;have a2:=hst.kb.cell 2;have t0:=hst.kt.cell 0;have t1:=hst.kt.cell 1;have t2:=hst.kt.cell 2;have t3:=hst.kt.cell 3;have kT:=hst.kt.frozen 0;have kU:=hst.kt.frozen 1;have kV:=hst.kt.frozen 2;have kW:=hst.kt.frozen 3;have r0:=hst.kr.cell 0;have r1:=hst.kr.cell 1;have r2:=hst.kr.cell 2;have kH:=hst.kr.frozen 0;have kJ:=hst.kr.frozen 1;have kK:=hst.kr.frozen 2;go_wp2
 go_region
 go_wp2;obtain⟨f6,f7,_,_⟩:=hst.fin (7:Int) (a:Int) (E:Int) true (A:Int) (.slice (some ⟨b,off,none⟩) n c) true;unfold qW at f6 f7;have h0:=f6.drew.cell 0;have h1:=f6.drew.cell 1;have h2:=f6.drew.cell 2;have h3:=f6.drew.cell 3;have i0:=f7.drew.cell 0;have i1:=f7.drew.cell 1;have i2:=f7.drew.cell 2;refine bodyPost_ret (v:=.tuple #[.agg #[.int .i64 (7:Int),.int .i64 (a:Int),.int .i64 (E:Int),.bool true],.agg #[.int .i64 (A:Int),(.slice (some ⟨b,off,none⟩) n c),.bool true]]) (by simp[results,Tryz.results36,go_sem,h0,h1,h2,h3,i0,i1,i2]) rfl ?_;exact hst.YZ (t:=⟨7,a,E,true⟩) (y:=⟨A,pd,true⟩) (HM.out.below hst.bl) (λg hg=>by have:=yt.out g hg;omega) ⟨1,rfl⟩ rfl (λg hg=> .inl hg)
theorem zl5(hbd:x.body=true)(d:Dl)(ds:List Dl)(hp:x.pend=d::ds)(E:Nat)(hE:E≤s.size)(Yd:∀W,Calls Tryz.prog 52 #[.string s,.int .i64 (a:Int),.agg #[.string d.word,.bool d.tabs]] W λe w'=>e=.returned (.tuple #[.int .i64 (E:Int),.int .i64 1])∧Below W.heap.size W w')(hc1:c=1):
  Calls Tryz.prog 36 #[.string s,.int .i64 (a:Int),zD x (.slice oa n c)] w λe w'=>Yc w (.slice oa n c) ⟨7,a,E,false⟩ ⟨x.await,ds,decide (1<n)⟩ e w':=by
 obtain⟨b,off,hoa,hbl,d0,d1,hn1,hnc⟩:∃b off,oa=some ⟨b,off,none⟩∧b<w.heap.size∧w.cell? ⟨b,off,none⟩=some (.string d.word)∧w.cell? ⟨b,off+1,none⟩=some (.bool d.tabs)∧n=ds.length+1∧n≤c:=by
  obtain⟨yD,c',he,hc'⟩:=hM.cap;rw[hp]at he hc';injection he with e1 e2 e3;rcases hM.src with⟨_,h,_⟩|⟨b,off,c2,h1,h2,h3⟩
  ·rw[hp]at h;cases h
  ·injection h1 with h4
   refine⟨b,off,h4,h2,?_,?_,e2,by rw[e3,e2];exact hc'⟩
   ·have:=h3 0 (.string d.word) (by rw[hp,qR];rfl)
    rwa [Nat.add_zero]at this
   ·exact h3 1 (.bool d.tabs) (by rw[hp,qR];rfl)
 subst hoa;have Dz:=hid Yd;have i1:(0:Int)<(n:Int):=by omega
 have DC:=hid hn1;have GG:=hid hp;clear Yd hn1 hp;have hn1:n=1:=by have:=DC.out;omega
 subst hn1;subst hc1;obtain⟨A,pd,bd⟩:=x;dsimp only at hbd;subst hbd;unfold zD;dsimp only;have hst:=xA.new w (A:Int) (.slice (some ⟨b,off,none⟩) 1 1) true;have q0:(0:Int)≤(a:Int):=by omega
 have q1:(a:Int)<(s.size:Int):=by omega
 have yP:=hst.kb.cell 2;have zY:=hst.kb.cell 1;have HM:=hid hM;have yt:Hid (∀g,(Value.slice (some ⟨b,off,none⟩) 1 1).ownBlock=some g→g<w.heap.size):=hid (λg hg=>Yv hM.src g hg);clear hM;go_enter Tryz.func36,Tryz.ntmps36;have hkeep:∀W,Below w.heap.size w W→W.cell? ⟨b,off,none⟩=some (.string d.word)∧W.cell? ⟨b,off+1,none⟩=some (.bool d.tabs):=λW hW=>⟨(hW.cell (p:=⟨b,off,none⟩) hbl).trans d0,(hW.cell (p:=⟨b,off+1,none⟩) hbl).trans d1⟩;have e0:=(hkeep _ hst.bl).1;have e1:=(hkeep _ hst.bl).2
 go_wp2_with fail
 obtain⟨W,hW⟩:∃X,(((w.alloc (.cells #[.int .i64 (A:Int),.slice (some ⟨b,off,none⟩) 1 1,.bool true] 50)).alloc (.cells #[.int .i64 0,.int .i64 0,.int .i64 0,.bool false] 44)).alloc (.cells #[.int .i64 0,.slice none 0 0,.bool false] 50))=X:=⟨_,rfl⟩;obtain⟨Bx,hBx⟩:∃z,w.heap.size=z:=⟨_,rfl⟩;rw[hW]at hst yP zY e0 e1 ⊢;rw[hBx]at hst yP zY yt ⊢;clear hW hBx;refine(Dz.out _).mono ?_;rintro e w1 ⟨rfl,hb1⟩;obtain⟨YY,_⟩:xA w (A:Int) (.slice (some ⟨b,off,none⟩) 1 1) true Bx W∧True:=⟨hst,trivial⟩;clear hst;have hst:=YY.below hb1;clear YY e0 e1 d0 d1 hkeep yP zY;have a0:=hst.kb.cell 0;have a1:=hst.kb.cell 1;have a2:=hst.kb.cell 2;have t0:=hst.kt.cell 0;have t1:=hst.kt.cell 1;have t2:=hst.kt.cell 2;have t3:=hst.kt.cell 3;have kT:=hst.kt.frozen 0;have kU:=hst.kt.frozen 1;have kV:=hst.kt.frozen 2;have kW:=hst.kt.frozen 3;have r0:=hst.kr.cell 0;have r1:=hst.kr.cell 1;have r2:=hst.kr.cell 2;have kH:=hst.kr.frozen 0;have kJ:=hst.kr.frozen 1;have kK:=hst.kr.frozen 2;go_wp2
 go_region
 go_wp2;have eY:=(HM.out.src.below hst.bl);have kR:pd=d::ds:=GG.out;have hl1:=DC.out;have hL:yR w1 (.slice (some ⟨b,off,none⟩) 0 0) ⟨A,ds,false⟩:=by
  have hds:ds=[]:=List.eq_nil_of_length_eq_zero (by omega);subst hds;rcases eY with⟨h,_⟩|⟨b2,zbc,c2,h1,h2,h3⟩
  ·cases h
  ·injection h1 with h4
   injection h4 with h5;injection h5 with h6 h7;subst h6 h7;exact⟨.inr ⟨b,off,0,rfl,h2,λj u hj=>by cases hj⟩,⟨_,0,rfl,Nat.le_refl _⟩⟩
 obtain⟨f6,f7,_,_⟩:=hst.fin (7:Int) (a:Int) (E:Int) false (A:Int) (.slice (some ⟨b,off,none⟩) 0 0) false;unfold qW at f6 f7;have h0:=f6.drew.cell 0;have h1:=f6.drew.cell 1;have h2:=f6.drew.cell 2;have h3:=f6.drew.cell 3;have i0:=f7.drew.cell 0;have i1:=f7.drew.cell 1;have i2:=f7.drew.cell 2;refine bodyPost_ret (v:=.tuple #[.agg #[.int .i64 (7:Int),.int .i64 (a:Int),.int .i64 (E:Int),.bool false],.agg #[.int .i64 (A:Int),(.slice (some ⟨b,off,none⟩) 0 0),.bool false]]) (by simp[results,Tryz.results36,go_sem,h0,h1,h2,h3,i0,i1,i2]) rfl ?_;exact hst.YZ (t:=⟨7,a,E,false⟩) (y:=⟨A,ds,false⟩) hL (λg hg=>by have:=yt.out g hg;omega) ⟨1,rfl⟩ rfl (λg hg=> .inl hg)
theorem zl6(hbd:x.body=true)(d:Dl)(ds:List Dl)(hp:x.pend=d::ds)(E:Nat)(hE:E≤s.size)(Yd:∀W,Calls Tryz.prog 52 #[.string s,.int .i64 (a:Int),.agg #[.string d.word,.bool d.tabs]] W λe w'=>e=.returned (.tuple #[.int .i64 (E:Int),.int .i64 1])∧Below W.heap.size W w')(hc1:c≠1):
  Calls Tryz.prog 36 #[.string s,.int .i64 (a:Int),zD x (.slice oa n c)] w λe w'=>Yc w (.slice oa n c) ⟨7,a,E,false⟩ ⟨x.await,ds,decide (1<n)⟩ e w':=by
 obtain⟨b,off,hoa,hbl,d0,d1,hn1,hnc⟩:∃b off,oa=some ⟨b,off,none⟩∧b<w.heap.size∧w.cell? ⟨b,off,none⟩=some (.string d.word)∧w.cell? ⟨b,off+1,none⟩=some (.bool d.tabs)∧n=ds.length+1∧n≤c:=by
  obtain⟨yD,c',he,hc'⟩:=hM.cap;rw[hp]at he hc';injection he with e1 e2 e3;rcases hM.src with⟨_,h,_⟩|⟨b,off,c2,h1,h2,h3⟩
  ·rw[hp]at h;cases h
  ·injection h1 with h4
   refine⟨b,off,h4,h2,?_,?_,e2,by rw[e3,e2];exact hc'⟩
   ·have:=h3 0 (.string d.word) (by rw[hp,qR];rfl)
    rwa [Nat.add_zero]at this
   ·exact h3 1 (.bool d.tabs) (by rw[hp,qR];rfl)
 subst hoa;have Dz:=hid Yd;have i1:(0:Int)<(n:Int):=by omega
 have DC:=hid hn1;have GG:=hid hp;clear Yd hn1 hp;obtain⟨N,hN⟩:∃N,decide ((1:Int)<(n:Int))=N:=⟨_,rfl⟩;have hNN:decide (1<n)=N:=by rw[←hN];exact decide_eq_decide.2 (by omega)
 rw[hNN];have HN:=hid hN;clear hNN hN;obtain⟨A,pd,bd⟩:=x;dsimp only at hbd;subst hbd;unfold zD;dsimp only;have hst:=xA.new w (A:Int) (.slice (some ⟨b,off,none⟩) n c) true;have q0:(0:Int)≤(a:Int):=by omega
 have q1:(a:Int)<(s.size:Int):=by omega
 have yP:=hst.kb.cell 2;have zY:=hst.kb.cell 1;have HM:=hid hM;have yt:Hid (∀g,(Value.slice (some ⟨b,off,none⟩) n c).ownBlock=some g→g<w.heap.size):=hid (λg hg=>Yv hM.src g hg);clear hM;go_enter Tryz.func36,Tryz.ntmps36;have hkeep:∀W,Below w.heap.size w W→W.cell? ⟨b,off,none⟩=some (.string d.word)∧W.cell? ⟨b,off+1,none⟩=some (.bool d.tabs):=λW hW=>⟨(hW.cell (p:=⟨b,off,none⟩) hbl).trans d0,(hW.cell (p:=⟨b,off+1,none⟩) hbl).trans d1⟩;have e0:=(hkeep _ hst.bl).1;have e1:=(hkeep _ hst.bl).2
 go_wp2_with fail
 obtain⟨W,hW⟩:∃X,(((w.alloc (.cells #[.int .i64 (A:Int),.slice (some ⟨b,off,none⟩) n c,.bool true] 50)).alloc (.cells #[.int .i64 0,.int .i64 0,.int .i64 0,.bool false] 44)).alloc (.cells #[.int .i64 0,.slice none 0 0,.bool false] 50))=X:=⟨_,rfl⟩;obtain⟨Bx,hBx⟩:∃z,w.heap.size=z:=⟨_,rfl⟩;rw[hW]at hst yP zY e0 e1 ⊢;rw[hBx]at hst yP zY yt ⊢;clear hW hBx;refine(Dz.out _).mono ?_;rintro e w1 ⟨rfl,hb1⟩;obtain⟨YY,_⟩:xA w (A:Int) (.slice (some ⟨b,off,none⟩) n c) true Bx W∧True:=⟨hst,trivial⟩;clear hst;have hst:=YY.below hb1;clear YY e0 e1 d0 d1 hkeep yP zY;have a0:=hst.kb.cell 0;have a1:=hst.kb.cell 1;have a2:=hst.kb.cell 2;have t0:=hst.kt.cell 0;have t1:=hst.kt.cell 1;have t2:=hst.kt.cell 2;have t3:=hst.kt.cell 3;have kT:=hst.kt.frozen 0;have kU:=hst.kt.frozen 1;have kV:=hst.kt.frozen 2;have kW:=hst.kt.frozen 3;have r0:=hst.kr.cell 0;have r1:=hst.kr.cell 1;have r2:=hst.kr.cell 2;have kH:=hst.kr.frozen 0;have kJ:=hst.kr.frozen 1;have kK:=hst.kr.frozen 2;have i2:(1:Int)≤(n:Int):=by omega
 have i3:(n:Int)≤(c:Int):=by omega
 have i4:(1:Int)≤(c:Int):=by omega
 have i5:¬c=1:=hc1;go_wp2
 go_region
 go_wp2;rw[HN.out];have eY:=(HM.out.src.below hst.bl);have kR:pd=d::ds:=GG.out;have hl1:=DC.out;have hL:yR w1 (.slice (some ⟨b,off+2,none⟩) (n-1) (c-1)) ⟨A,ds,N⟩:=by
  have hz:ds.length=n-1:=by omega
  refine⟨?_,⟨_,c-1,by rw[show(⟨A,ds,N⟩:Lx).pend.length=n-1 from hz],by rw[show(⟨A,ds,N⟩:Lx).pend.length=n-1 from hz];omega⟩⟩;show Src w1 _ ds.length (zx ds);rw[hz];rcases eY with⟨h,_⟩|⟨b2,zbc,c2,h1,h2,h3⟩
  ·cases h
  ·injection h1 with h4
   injection h4 with h5;injection h5 with h6 h7;subst h6 h7;refine .inr ⟨b,off+2,c-1,rfl,h2,λj u hj=>?_⟩;have:=h3 (j+2) u (by show(zx pd)[j+2]?=_;rw[kR,qR];simpa using hj);rw[show off+2+j=off+(j+2) by omega];exact this
 obtain⟨f6,f7,_,_⟩:=hst.fin (7:Int) (a:Int) (E:Int) false (A:Int) (.slice (some ⟨b,off+2,none⟩) (n-1) (c-1)) N;unfold qW at f6 f7;have h0:=f6.drew.cell 0;have h1:=f6.drew.cell 1;have h2:=f6.drew.cell 2;have h3:=f6.drew.cell 3;have i0:=f7.drew.cell 0;have i1:=f7.drew.cell 1;have i2:=f7.drew.cell 2;refine bodyPost_ret (v:=.tuple #[.agg #[.int .i64 (7:Int),.int .i64 (a:Int),.int .i64 (E:Int),.bool false],.agg #[.int .i64 (A:Int),(.slice (some ⟨b,off+2,none⟩) (n-1) (c-1)),.bool N]]) (by simp[results,Tryz.results36,go_sem,h0,h1,h2,h3,i0,i1,i2]) rfl ?_;exact hst.YZ (t:=⟨7,a,E,false⟩) (y:=⟨A,ds,N⟩) hL (λg hg=>by have:=yt.out g hg;omega) ⟨1,rfl⟩ rfl (λg hg=> .inl hg)
end
theorem zl7{s:ByteArray}{a:Nat}(ha:a≤s.size):QZ s a 0 (xe s a):=⟨(gW ha).1,(gW ha).2,λi h1 h2=>zbi h1 h2,λh=>CX ha h⟩
theorem vJ.rd{W:World}{pv:Value}{x:Lx}(h:vJ W pv x):yR W pv x:=⟨h.src,h.cap⟩
section
variable(w:World)(x:Lx)(oa:Option Addr)(n c:Nat)(hM:yR w (.slice oa n c) x)(s:ByteArray)(a:Nat)(ha:a<s.size)(hs:s.size≤60000)
include hM ha hs
theorem zl8(hpe:x.body=true→x.pend≠ [])(hA1:x.await≤1000)(hpl:x.pend.length≤900000):
  Calls Tryz.prog 36 #[.string s,.int .i64 (a:Int),zD x (.slice oa n c)] w λe w'=>Yc w (.slice oa n c) (zo s a x) (zy s a x) e w':=by
 have hnl:n=x.pend.length:=by
  obtain⟨yD,c',he,_⟩:=hM.cap;injection he
 by_cases hb:x.body=true
 ·obtain⟨d,ds,hp⟩:∃d ds,x.pend=d::ds:=by
   cases h:x.pend with
   |nil=>exact absurd h (hpe hb)
   |cons d ds=>exact⟨d,ds,rfl⟩
  have Yd:=λW=>zlH W s a d (Nat.le_of_lt ha) (by omega);have hle:=tV s d (s.size-a) a (Nat.le_refl _) (Nat.le_of_lt ha);have ht:zo s a x=⟨7,a,(dA s d a).1,!(dA s d a).2⟩:=by
   unfold zo;rw[if_pos hb,hp,CY s d (Nat.le_of_lt ha)];show(⟨7,a,a+((dA s d a).1-a),_⟩:Tk)=_;rw[show a+((dA s d a).1-a)=(dA s d a).1 by omega]
  have hn:n=ds.length+1:=by rw[hnl,hp];rfl
  cases hB:(dA s d a).2 with
  |true=>
   rw[hB]at Yd;have hx:zy s a x=⟨x.await,ds,decide (1<n)⟩:=by
    unfold zy;rw[ht,hB];show xG x 7 false _=_;unfold xG;rw[if_pos rfl,if_neg (by decide),hp,hb];show(⟨x.await,ds,!ds.isEmpty && true⟩:Lx)=_;rw[Bool.and_true,hn];cases ds<;>simp
   rw[ht,hx,hB];by_cases hc:c=1
   ·exact zl5 w x oa n c hM s a ha hs hb d ds hp _ hle.2 Yd hc
   ·exact zl6 w x oa n c hM s a ha hs hb d ds hp _ hle.2 Yd hc
  |false=>
   rw[hB]at Yd;have hx:zy s a x=x:=by
    unfold zy;rw[ht,hB];show xG x 7 true _=_;unfold xG;rw[if_pos rfl,if_pos rfl]
   rw[ht,hx,hB];exact zl4 w x oa n c hM s a ha hs hb d ds hp _ hle.2 Yd
 ·have hb':x.body=false:=by simpa using hb
  have DD:=Di ha;have hbl:=λW=>zlz W s a (Nat.le_of_lt ha) (by omega);have ht:zo s a x=⟨xW s a,a,yQ s a,decide (xW s a=6)&& qE (s.extract a (yQ s a))⟩:=by
   unfold zo;rw[if_neg hb]
  have hx:zy s a x=xG x (xW s a) (decide (xW s a=6)&& qE (s.extract a (yQ s a))) (s.extract a (yQ s a)):=by
   unfold zy;rw[ht]
  have hk:xW s a=if zS s a≠0 then 1 else if by8 s a=10 then 2 else if by8 s a=35 then 3 else if yC s a≠0 then 4 else if vP s a≠0 then 5 else 6:=rfl
  have he:yQ s a=if zS s a≠0 then vZ s a else if by8 s a=10 then a+1 else if by8 s a=35 then yO s a else if yC s a≠0 then a+(txt (yC s a)).size else if vP s a≠0 then a+vP s a else xe s a:=rfl
  by_cases c1:zS s a≠0
  ·rw[if_pos c1]at hk he
   rw[ht,hx,hk,he];have hg:=NL (Nat.le_of_lt ha) c1;have hl:=WB (s:=s) (a:=a) (Nat.le_of_lt ha);exact zlU w x oa n c hM s a ha hs hb' _ hg hl.2 hbl
  rw[if_neg c1]at hk he;have hz:vZ s a=a:=Qp (by omega);rw[hz]at hbl;by_cases c2:by8 s a=10
  ·rw[if_pos c2]at hk he
   rw[ht,hx,hk,he];have hy:xG x 2 (decide (2=6)&& qE (s.extract a (a+1))) (s.extract a (a+1))=⟨0,x.pend,decide (0<n)⟩:=by
    unfold xG;rw[if_neg (by decide),if_neg (by decide),if_pos rfl,hnl];cases x.pend<;>simp
   rw[hy];exact zlV w x oa n c hM s a ha hs hb' hbl c2
  rw[if_neg c2]at hk he;by_cases c3:by8 s a=35
  ·rw[if_pos c3]at hk he
   rw[ht,hx,hk,he];have hy:xG x 3 (decide (3=6)&& qE (s.extract a (yO s a))) (s.extract a (yO s a))=⟨0,x.pend,false⟩:=by
    unfold xG;rw[if_neg (by decide),if_neg (by decide),if_neg (by decide),if_neg (by decide),if_neg (λh=>by have:=h.1;omega),hb']
   rw[hy];exact zlW w x oa n c hM s a ha hs hb' hbl c3 _ (λb h1 h2 h3 h4=>(gV h1 h2 h3 h4).symm)
  rw[if_neg c3]at hk he;have hat:=λW=>zkr s a W (by omega) (Nat.le_of_lt ha);by_cases c4:yC s a≠0
  ·rw[if_pos c4]at hk he
   rw[ht,hx,hk,he];have hot:=zlR c4;have Gf:=(G9 (mZ c4)).2;have hy:xG x 4 (decide (4=6)&& qE (s.extract a (a+(txt (yC s a)).size))) (s.extract a (a+(txt (yC s a)).size))=⟨if yC s a=4∨yC s a=5 then yC s a else 0,x.pend,false⟩:=by
    unfold xG;rw[if_neg (by decide),if_neg (by decide),if_neg (by decide),if_pos rfl,hot,hb']
   rw[hy];have htx:=λW=>gU (yC s a) _ rfl W;generalize yC s a=o at hat htx Gf c4 ⊢;by_cases o4:o=4
   ·subst o4
    exact zlX w x oa n c hM s a ha hs hb' hbl _ rfl c2 c3 hat _ Gf htx
   ·by_cases o5:o=5
    ·subst o5
     exact zlY w x oa n c hM s a ha hs hb' hbl _ rfl c2 c3 hat _ Gf htx
    ·rw[if_neg (by omega)]
     exact zlZ w x oa n c hM s a ha hs hb' hbl _ rfl c2 c3 o (by omega) o4 o5 hat _ Gf htx
  rw[if_neg c4]at hk he;have c40:yC s a=0:=by omega
  rw[c40]at hat
  have hrl:=JE s a 6;have hR:∀b,a≤b→b≤s.size→(∀i,a≤i→i<b→cls (by8 s i)=6)→(b<s.size→cls (by8 s b)≠6)→b=a+zC s a 6:=λb h1 h2 h3 h4=>by
   have:zC s a 6=b-a:=ZT _ (by omega) (λi hi=>by
    have e:cl s (a+i)=6:=h3 (a+i) (by omega) (by omega);simpa using e) (λhi=>by
    have e:=h4 (by omega);rw[show a+(b-a)=b by omega];have e':cl s b≠6:=e;simpa using e')
   omega
  have hnd:vP s a=if a+zC s a 6<s.size∧(by8 s (a+zC s a 6)=60∨by8 s (a+zC s a 6)=62)then zC s a 6 else 0:=rfl
  by_cases c5:vP s a≠0
  ·rw[if_pos c5]at hk he
   rw[ht,hx,hk,he];have hc:a+zC s a 6<s.size∧(by8 s (a+zC s a 6)=60∨by8 s (a+zC s a 6)=62):=by
    by_cases g:a+zC s a 6<s.size∧(by8 s (a+zC s a 6)=60∨by8 s (a+zC s a 6)=62)
    ·exact g
    ·rw[if_neg g]at hnd;exact absurd hnd c5
   rw[if_pos hc]at hnd;have hy:xG x 5 (decide (5=6)&& qE (s.extract a (a+vP s a))) (s.extract a (a+vP s a))=⟨0,x.pend,false⟩:=by
    unfold xG;rw[if_neg (by decide),if_neg (by decide),if_neg (by decide),if_neg (by decide),if_neg (λh=>by have:=h.1;omega),hb']
   rw[hy,hnd];exact zl0 w x oa n c hM s a ha hs hb' hbl _ rfl c2 c3 hat _ (by omega) (by omega) hR (by omega) hc.1 _ rfl hc.2
  rw[if_neg c5]at hk he;rw[ht,hx,hk,he];rw[he]at DD;have hnum:a<a+zC s a 6→a+zC s a 6<s.size→by8 s (a+zC s a 6)≠60∧by8 s (a+zC s a 6)≠62:=λh1 h2=>by
   by_cases g:a+zC s a 6<s.size∧(by8 s (a+zC s a 6)=60∨by8 s (a+zC s a 6)=62)
   ·rw[if_pos g]at hnd;omega
   ·exact⟨λe=>g ⟨h2,.inl e⟩,λe=>g ⟨h2,.inr e⟩⟩
  have hend:∀W,Calls Tryz.prog 57 #[.string s,.int .i64 (a:Int)] W λe w'=>e=.returned (.int .i64 ((xe s a:Nat):Int))∧Below W.heap.size W w':=λW=>(zd4 W s a (Nat.le_of_lt ha) (by omega)).mono (λe w' h=>by
   obtain⟨⟨m,h1,h2⟩,h3⟩:=h;rw[h2.one (zl7 (Nat.le_of_lt ha))]at h1;exact⟨h1,h3⟩)
  have hxz:(s.extract a (xe s a)).size≤60000:=by rw[ByteArray.size_extract];omega
  have hsh:=λW=>zlC W (s.extract a (xe s a)) (by omega);have hop:(decide (6=6)&& qE (s.extract a (xe s a)))=qE (s.extract a (xe s a)):=by simp
  rw[hop];by_cases hA0:x.await=0
  ·have hy:xG x 6 (qE (s.extract a (xe s a))) (s.extract a (xe s a))=⟨0,x.pend,false⟩:=by
    unfold xG;rw[if_neg (by decide),if_neg (by decide),if_neg (by decide),if_neg (by decide),if_neg (λh=>h.2 hA0),hb']
   rw[hy];exact zl1 w x oa n c hM s a ha hs hb' hA0 hbl _ rfl c2 c3 hat _ (by omega) (by omega) hR hnum _ DD.1 DD.2 _ hend hsh
  ·have hy:xG x 6 (qE (s.extract a (xe s a))) (s.extract a (xe s a))=⟨0,x.pend++ [⟨xJ (jw (s.extract a (xe s a))),decide (x.await=5)⟩],false⟩:=by
    unfold xG;rw[if_neg (by decide),if_neg (by decide),if_neg (by decide),if_neg (by decide),if_pos ⟨rfl,hA0⟩,hb']
   rw[hy];exact zl2 w x oa n c hM s a ha hs hb' hA0 hA1 hpl hbl _ rfl c2 c3 hat _ (by omega) (by omega) hR hnum _ DD.1 DD.2 _ hend hsh _ (λW=>zc4 W _ hxz)
end
theorem zmf{x:Lx}{k:Nat}{op:Bool}{t:ByteArray}(h:x.body=true→x.pend≠ []):(xG x k op t).body=true→(xG x k op t).pend≠ []:=by
 unfold xG;by_cases k7:k=7
 ·rw[if_pos k7]
  by_cases ho:op=true
  ·rw[if_pos ho];exact h
  ·rw[if_neg ho]
   intro hb e;have hb':(!x.pend.tail.isEmpty && x.body)=true:=hb;have e':x.pend.tail=[]:=e;rw[e']at hb';simp at hb'
 rw[if_neg k7];by_cases k1:k=1
 ·rw[if_pos k1];exact h
 rw[if_neg k1];by_cases k2:k=2
 ·rw[if_pos k2]
  intro hb e;have hb':(!x.pend.isEmpty)=true:=hb;have e':x.pend=[]:=e;rw[e']at hb';simp at hb'
 rw[if_neg k2];by_cases k4:k=4
 ·rw[if_pos k4];exact h
 rw[if_neg k4];by_cases k6:k=6∧x.await≠0
 ·rw[if_pos k6]
  intro _ e;exact absurd (List.append_eq_nil_iff.1 e).2 (by simp)
 ·rw[if_neg k6];exact h
theorem zmg{s:ByteArray}{a:Nat}{x:Lx}(h:x.body=true→x.pend≠ []):(zy s a x).body=true→(zy s a x).pend≠ []:=zmf h
def RlI(s:ByteArray)(w:World)(B3 B5 z:Nat)(v4 v6:Value)(wr:World):Prop:=
 ∃(a:Nat) (x:Lx) (pre:List (Tk×Lx)) (oa:Option Addr) (n c:Nat),v6=.int .i64 (a:Int)∧a≤s.size∧ui s=pre++vO s (s.size-a) a x∧wr.ownsRow z 44 4 v4 pre.length (Yb (pre.map Prod.fst))∧
  zh wr B5 #[.int .i64 (x.await:Int),.slice oa n c,.bool x.body] 50∧zh wr B3 #[.int .i64 0,.slice none 0 0,.bool false] 50∧yR wr (.slice oa n c) x∧(x.body=true→x.pend≠ [])∧x.await≤1000∧x.pend.length≤a∧XD pre=x∧Below w.heap.size w wr∧z≤wr.heap.size∧pre.length≤a∧
  (∀g,(Value.slice oa n c).ownBlock=some g→v4.ownBlock≠some g∧z≤g)
section
variable(w:World)
theorem AX(s:ByteArray)(hs:s.size≤900):
  Calls Tryz.prog 28 #[.string s] w λe w'=>∃v oa n c,e=.returned (.tuple #[v,zD (XD (ui s)) (.slice oa n c)])∧w'.ownsRow w.heap.size 44 4 v (ui s).length (Yb ((ui s).map Prod.fst))∧yR w' (.slice oa n c) (XD (ui s))∧Below w.heap.size w w':=by
 have k3:=(zh.new w #[.int .i64 0,.slice none 0 0,.bool false] 50).alloc (.cells #[.int .i64 0,.slice none 0 0,.bool false] 50);have k5:=xU w (.cells #[.int .i64 0,.slice none 0 0,.bool false] 50) #[.int .i64 0,.slice none 0 0,.bool false] 50;have hB:=jd w (.cells #[.int .i64 0,.slice none 0 0,.bool false] 50) (.cells #[.int .i64 0,.slice none 0 0,.bool false] 50);go_enter Tryz.func28,Tryz.ntmps28;go_wp2;obtain⟨W0,hW0⟩:∃X,(w.alloc (.cells #[.int .i64 0,.slice none 0 0,.bool false] 50)).alloc (.cells #[.int .i64 0,.slice none 0 0,.bool false] 50)=X:=⟨_,rfl⟩;have hz0:W0.heap.size=w.heap.size+2:=by rw[←hW0];simp
 obtain⟨B3,hB3⟩:∃x,w.heap.size=x:=⟨_,rfl⟩;rw[hW0]at k3 k5 hB ⊢;rw[hB3]at k3 k5 hz0 ⊢;have HB3:=hid hB3;have HB:=hid hB;clear hW0 hB3 hB
 go_loopw [4,6] (λv4 v6 wr=>RlI s w B3 (B3+1) (B3+2) v4 v6 wr) (λ_ v _=>s.size-(intOf v).toNat)
 case atStart=>exact⟨0,Lx.zero,[],none,0,0,rfl,Nat.zero_le _,rfl,World.ownsRow_nil _ _ _ _,k5,k3,⟨.inl ⟨rfl,rfl,rfl⟩,⟨none,0,rfl,Nat.le_refl _⟩⟩,(λh=>by cases h),Nat.zero_le _,Nat.zero_le _,rfl,HB.out,by omega,Nat.zero_le _,λg h=>by cases h⟩
 case round=>
  obtain⟨a,x,pre,oa,n,c,rfl,has,hL,hown,h5,h3,hM,hbd,haw,hpl,Ec,hBw,hzw,zbF,hg⟩:=hrel;clear k3 k5;obtain⟨ov,cv,rfl⟩:=JD hown;have a0:=h5.cell 0;have a1:=h5.cell 1;have a2:=h5.cell 2;by_cases hlt:a<s.size
  ·have q1:(a:Int)<(s.size:Int):=by omega
   have hst:=zl8 wr x oa n c hM s a hlt (by omega) hbd haw (by omega);have hlx:=Nh x hlt;rw[hlx]at hL;have hok:=jB x hlt;have hnk:=OA x hlt hpl haw;have hnb:=zmg (s:=s) (a:=a) hbd;generalize zo s a x=t at hst hL hok hnk;generalize zy s a x=y at hst hL hnk hnb;unfold zD at hst;obtain⟨zp,hzp⟩:∃zp,pre.length=zp:=⟨_,rfl⟩;rw[hzp]at zbF hown hg ⊢;have Yl:=hid hzp;have HST:=hid hst;have HL:=hid hL;have HH:=hid (And.intro hnk (And.intro hnb hg));have hol:=ji hown;have hog:=yH hown;have Jf:=hid hol;have Gl:=hid hog;have HO:=hid hown;have yg:=hid hBw;have h5l:=h5.lt;have h3l:=h3.lt;clear hst hL hlx hnk hnb hg hM hbd Ec hown hol hog hBw hzp
   go_wp2_with fail
   refine(HST.out).mono ?_;rintro e w1 ⟨y8,n1,c1,rfl,hM1,hb1,zbG⟩;unfold yJ zD;obtain⟨tk,tf,te,top⟩:=t;obtain⟨hk1,hk2,hk3⟩:=hok;dsimp only at hk1 hk2 hk3;subst hk1;have h51:=h5.below hb1;have h31:=h3.below hb1;have ho1:=vM HO.out hb1;have hs1:=hb1.size;have YF:=hid hM1;have jT:=hid zbG;have HB1:=hid hb1;clear hM1 zbG hb1 h5 h3 a0 a1 a2
   go_upto_region 6 with fail
   have hB2:=jd w1 (.cells #[.int .i64 (tk:Int),.int .i64 (tf:Int),.int .i64 (te:Int),.bool top] 44) (.cells #[.int .i64 (y.await:Int),.slice y8 n1 c1,.bool y.body] 50);have VM:zh ((w1.alloc (.cells #[.int .i64 (tk:Int),.int .i64 (tf:Int),.int .i64 (te:Int),.bool top] 44)).alloc (.cells #[.int .i64 (y.await:Int),.slice y8 n1 c1,.bool y.body] 50)) w1.heap.size _ _:=(zh.new w1 #[.int .i64 (tk:Int),.int .i64 (tf:Int),.int .i64 (te:Int),.bool top] 44).alloc _;have XQ:=xU w1 (.cells #[.int .i64 (tk:Int),.int .i64 (tf:Int),.int .i64 (te:Int),.bool top] 44) #[.int .i64 (y.await:Int),.slice y8 n1 c1,.bool y.body] 50;obtain⟨W2,hW2⟩:∃X,(w1.alloc (.cells #[.int .i64 (tk:Int),.int .i64 (tf:Int),.int .i64 (te:Int),.bool top] 44)).alloc (.cells #[.int .i64 (y.await:Int),.slice y8 n1 c1,.bool y.body] 50)=X:=⟨_,rfl⟩;have hz2:W2.heap.size=w1.heap.size+2:=by rw[←hW2];simp
   rw[hW2]at hB2 VM XQ ⊢;have h52:=h51.below hB2;have h32:=h31.below hB2;have ho2:=vM ho1 hB2;have hs2:=hB2.size;obtain⟨z1,hz1⟩:∃z,w1.heap.size=z:=⟨_,rfl⟩;have HZ1:=hid hz1;have HB2:=hid hB2;have DF:=hid ho2;have HY2:=hid XQ;have HT2:=hid VM;have H52:=hid h52;have H32:=hid h32;rw[hz1]at HY2 HT2 hz2 hs1 ⊢;have hz2':z1+2≤W2.heap.size∧W2.heap.size≤z1+2:=by omega
   clear hz2;clear hW2 hz1 hB2 ho1 ho2 XQ VM h51 h31 h52 h32 hs2;have kt0:=HT2.out.cell 0;have kt1:=HT2.out.cell 1;have zny:=HT2.out.cell 2;have uP:=HT2.out.cell 3
   go_wp2_with (at_builtin;refine jh rfl _ _ 39 44 4 32 _ rfl Tryz.underlying39 zat rfl (by omega) (by omega) (B3+2) (.slice ov zp cv) zp (Yb (pre.map Prod.fst)) rfl (DF.out.alloc _) _ 1 (VO ⟨tk,tf,te,top⟩) rfl (zlk (x:=⟨tk,tf,te,top⟩) (zh.new W2 _ _)) rfl (zlj _) (by omega) (by rw[World.size_alloc];omega) (zp+1) rfl ?_;intro Yr c8 W8 XH jC Z7;have Gm:=(H52.out.alloc (.cells #[.int .i64 (tk:Int),.int .i64 (tf:Int),.int .i64 (te:Int),.bool top] 44)).grown jC (λe=>by have:=Gl.out _ e.symm;omega);have WT:=(HY2.out.alloc (.cells #[.int .i64 (tk:Int),.int .i64 (tf:Int),.int .i64 (te:Int),.bool top] 44)).grown jC (λe=>by have:=Jf.out _ e.symm;omega);have kt8:=(HT2.out.alloc (.cells #[.int .i64 (tk:Int),.int .i64 (tf:Int),.int .i64 (te:Int),.bool top] 44)).grown jC (λe=>by have:=Jf.out _ e.symm;omega);have s0:=WT.cell 0;have s1:=WT.cell 1;have s2:=WT.cell 2;have e0:=Gm.cell 0;have e1:=Gm.cell 1;have e2:=Gm.cell 2;have f0:=Gm.frozen 0;have f1:=Gm.frozen 1;have f2:=Gm.frozen 2;have t2:=((kt8.other 0 (.int .i64 (y.await:Int)) (b':=B3+1) (by omega)).other 1 (.slice y8 n1 c1) (b':=B3+1) (by omega)).other 2 (.bool y.body) (b':=B3+1) (by omega);have t2c:=t2.cell 2)
   go_roundw
   case rel=>
    have znz:Below w1.heap.size w1 W8→True:=λ_=>trivial;have h38:=(H32.out.alloc (.cells #[.int .i64 (tk:Int),.int .i64 (tf:Int),.int .i64 (te:Int),.bool top] 44)).grown jC (λe=>by have:=Gl.out _ e.symm;omega);have xw:zg (λb=>b=B3+1) W8 (((W8.setCell ⟨B3+1,0,none⟩ (.int .i64 (y.await:Int))).setCell ⟨B3+1,1,none⟩ (.slice y8 n1 c1)).setCell ⟨B3+1,2,none⟩ (.bool y.body)):=
     zg.setCell (p:=λb=>b=B3+1) (zg.setCell (p:=λb=>b=B3+1) (zg.setCell (p:=λb=>b=B3+1) (zg.refl _ W8) 0 (.inl rfl) _) 1 (.inl rfl) _) 2 (.inl rfl) _
    have h59:=((Gm.set 0 (.int .i64 (y.await:Int))).set 1 (.slice y8 n1 c1)).set 2 (.bool y.body);obtain⟨hnk,hnb,hg⟩:=HH.out;have zmh:=yH XH;have hwr2:Below w.heap.size w W2:=(yg.out.trans (HB1.out.mono yg.out.size)).trans (HB2.out.mono (Nat.le_trans yg.out.size HB1.out.size));have hw8:Below w.heap.size w W8:=(hwr2.alloc hwr2.size _).grown jC (by rw[World.size_alloc];have:=hwr2.size;omega) (λk hk=>by have:=Gl.out k hk;have:=HB3.out;omega);have hg1:∀g,(Value.slice y8 n1 c1).ownBlock=some g→(Value.slice ov zp cv).ownBlock≠some g∧B3+2≤g∧g<w1.heap.size:=λg hgo=>by
     have hlt1:=Yv YF.out.src g hgo;rcases jT.out g hgo with q|q
     ·have:=hg g q
      exact⟨this.1,this.2,hlt1⟩
     ·exact⟨λe=>by have:=Jf.out g e;omega,by omega,hlt1⟩
    have hs8:W2.heap.size≤W8.heap.size:=by have:=jC.size;rw[World.size_alloc]at this;omega
    have hz1:=HZ1.out;refine⟨te,y,pre++ [(⟨tk,tf,te,top⟩,y)],y8,n1,c1,rfl,hk3,?_,?_,h59,h38.zf xw (by omega),?_,hnb,hnk.2,hnk.1,zll _ _,hw8.trans (xw.below hw8.size (λb hb=>by have:=HB3.out;omega)),?_,?_,λg hgo=>?_⟩
    ·rw[HL.out,List.append_assoc];rfl
    ·have hlen:(pre++ [((⟨tk,tf,te,top⟩:Tk),y)]).length=zp+1:=by rw[List.length_append,Yl.out];rfl
     rw[hlen,List.map_append,zli];have:=zQ xw XH (λg hgo e=>by have:=zmh g hgo;omega);simpa[Yb]using this
    ·refine⟨?_,YF.out.cap⟩
     have h1:=(YF.out.src.below HB2.out).below ((Below.refl _ W2).alloc (Nat.le_refl _) (.cells #[.int .i64 (tk:Int),.int .i64 (tf:Int),.int .i64 (te:Int),.bool top] 44));have hFg:zg (λb=>(Value.slice ov zp cv).ownBlock=some b) (W2.alloc (.cells #[.int .i64 (tk:Int),.int .i64 (tf:Int),.int .i64 (te:Int),.bool top] 44)) W8:=(zg.refl _ _).grown jC (λk hk=> .inl hk);exact(h1.zf hFg (λg hgo e=>(hg1 g hgo).1 e)).zf xw (λg hgo e=>by have:=(hg1 g hgo).2.1;omega)
    ·have:=xw.size;omega
    ·rw[List.length_append,Yl.out]
     show zp+1≤te;omega
    ·refine⟨λe=>?_,(hg1 g hgo).2.1⟩
     rcases Z7 with q|q
     ·exact(hg1 g hgo).1 (q▸e)
     ·rw[q,World.size_alloc]at e
      injection e with e;have:=(hg1 g hgo).2.2;omega
   case measure=>simp[intOf];omega
  ·have q1:¬(a:Int)<(s.size:Int):=by omega
   rw[nY x hlt,List.append_nil]at hL;have dH:=hid hL;have r0:=h3.cell 0;have r1:=h3.cell 1;have r2:=h3.cell 2;have kH:=h3.frozen 0;have kJ:=h3.frozen 1;have kK:=h3.frozen 2;have k9:=((h3.set 0 (.int .i64 (x.await:Int))).set 1 (.slice oa n c)).set 2 (.bool x.body);have xw:zg (λb=>b=B3) wr (((wr.setCell ⟨B3,0,none⟩ (.int .i64 (x.await:Int))).setCell ⟨B3,1,none⟩ (.slice oa n c)).setCell ⟨B3,2,none⟩ (.bool x.body)):=
    zg.setCell (p:=λb=>b=B3) (zg.setCell (p:=λb=>b=B3) (zg.setCell (p:=λb=>b=B3) (zg.refl _ wr) 0 (.inl rfl) _) 1 (.inl rfl) _) 2 (.inl rfl) _
   have HF:=hid xw;have HK:=hid k9;have HO:=hid hown;have HX:=hid Ec;have HG:=hid hg;have HM:=hid hM;have yg:=hid hBw;obtain⟨zp,hzp⟩:∃zp,pre.length=zp:=⟨_,rfl⟩;rw[hzp]at HO ⊢;have Yl:=hid hzp;clear xw k9 hown Ec hg hM hBw hL hbd hzp zbF;go_wp2
   go_region
   go_wp2;have c0:=HK.out.drew.cell 0;have c1:=HK.out.drew.cell 1;have c2:=HK.out.drew.cell 2;refine bodyPost_ret (v:=.tuple #[.slice ov zp cv,.agg #[.int .i64 (x.await:Int),.slice oa n c,.bool x.body]]) (by simp[results,Tryz.results28,go_sem,c0,c1,c2]) rfl ?_;have hTK:ui s=pre:=dH.out;rw[hTK,HX.out];have hge:=yH HO.out;refine⟨_,oa,n,c,rfl,?_,⟨?_,HM.out.cap⟩,?_⟩
   ·rw[Yl.out]
    exact JR (vM (zQ HF.out HO.out (λg hg e=>by have:=hge g hg;omega)) ((Below.refl _ _).drew)) (by have:=HB3.out;omega)
   ·exact(HM.out.src.zf HF.out (λg hg e=>by have:=(HG.out g hg).2;omega)).below ((Below.refl _ _).drew)
   ·exact(yg.out.trans (HF.out.below yg.out.size (λb hb=>by have:=HB3.out;omega))).drew
end
theorem yR.len{W:World}{oa:Option Addr}{n c:Nat}{x:Lx}(h:yR W (.slice oa n c) x):n=x.pend.length:=by
 obtain⟨yD,c',he,_⟩:=h.cap;injection he
end Go.Proofs.YtdjcidackkogjaaGreatDoor

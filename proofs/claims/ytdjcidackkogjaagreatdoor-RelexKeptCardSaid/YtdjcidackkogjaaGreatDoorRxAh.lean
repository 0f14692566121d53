/- What the document's own Ahead of layer 10 (relex)  -/
import Derived.Test.YtdjcidackkogjaaGreatDoorQq
namespace Go.Proofs.YtdjcidackkogjaaGreatDoor
set_option linter.unusedVariables false
open Lib(hid)
set_option maxHeartbeats 8000000
set_option maxRecDepth 100000
open Go Go.RowKit
theorem ziJ{w0 w:World}(h:Below w0.heap.size w0 w)(o:Obj):Below w0.heap.size w0 (w.alloc o):=h.alloc h.size o
theorem znG{w0 w:World}{b:Nat}(h:Below w0.heap.size w0 w)(hb:w0.heap.size≤b)(o:Nat)(u:Value):Below w0.heap.size w0 (w.setCell ⟨b,o,none⟩ u):=
 h.trans ((zg.setCell (p:=λj=>j=b) (zg.refl _ w) o (.inl rfl) u).below h.size (λj hj=>by rw[hj];exact hb))
def znC(p:Lx×Option Addr×Nat):List Value:=[.int .i64 (p.1.await:Int),.slice p.2.1 p.1.pend.length p.2.2,.bool p.1.body]
def znA(l:List (Lx×Option Addr×Nat)):List Value:=l.flatMap znC
theorem zn9(l k:List (Lx×Option Addr×Nat)):znA (l++k)=znA l++znA k:=by unfold znA;rw[List.flatMap_append]
theorem zoa(x:Lx×Option Addr×Nat):∀u∈znC x,u.oneCell'=true:=by
 intro u hu;simp[znC]at hu;rcases hu with rfl|rfl|rfl<;>rfl
theorem znP:∀(l:List (Lx×Option Addr×Nat)) (j k:Nat) (t:Lx×Option Addr×Nat),l[j]?=some t→k<3→(znA l)[j*3+k]?=(znC t)[k]?
 | [],j,k,t,h,_=>by cases h
 |a::l,0,k,t,h,hk=>by
  cases h;show(znC a++znA l)[0*3+k]?=_;rw[List.getElem?_append_left (by show 0*3+k<3;omega),Nat.zero_mul,Nat.zero_add]
 |a::l,j+1,k,t,h,hk=>by
  show(znC a++znA l)[(j+1)*3+k]?=_;rw[List.getElem?_append_right (by show 3≤_;omega),show(j+1)*3+k-(znC a).length=j*3+k from by show(j+1)*3+k-3=_;omega];exact znP l j k t h hk
theorem zob:(Tryz.prog.info? 50).map (λi=>(i.zero,i.size,i.bytes))=some (some (.agg #[.int .i64 0,.slice none 0 0,.bool false]),3,40):=by kernel_rfl
structure OkX(W:World)(z:Nat)(vb:Option Nat)(p:Lx×Option Addr×Nat):Prop where
 rd:yR W (.slice p.2.1 p.1.pend.length p.2.2) p.1
 ap:∀g,(Value.slice p.2.1 p.1.pend.length p.2.2).ownBlock=some g→vb≠some g∧z≤g∧g<W.heap.size
theorem OkX.zf{P:Nat→Prop}{W W':World}{z:Nat}{vb vb':Option Nat}{p:Lx×Option Addr×Nat}(h:OkX W z vb p)(hf:zg P W W')(hp:∀g,z≤g→vb≠some g→g<W.heap.size→¬P g∧vb'≠some g):OkX W' z vb' p:=
 ⟨⟨h.rd.src.zf hf (λg hg=>by have:=h.ap g hg;exact(hp g this.2.1 this.1 this.2.2).1),h.rd.cap⟩,λg hg=>by
  have:=h.ap g hg;exact⟨(hp g this.2.1 this.1 this.2.2).2,this.2.1,Nat.lt_of_lt_of_le this.2.2 hf.size⟩⟩
def AhC(W:World)(y:Lx)(xv:Value)(wx:World)(v:Value):Prop:=
 ∃(yb:Nat) (yo:Option Addr) (yc:Nat),v=.pointer (some ⟨yb,0,none⟩)∧zh wx yb #[.int .i64 (y.await:Int),.slice yo y.pend.length yc,.bool y.body] 50∧yR wx (.slice yo y.pend.length yc) y∧Below W.heap.size W wx∧W.heap.size≤yb∧(∀g,(Value.slice yo y.pend.length yc).ownBlock=some g→xv.ownBlock=some g∨(W.heap.size≤g∧g≠yb))
theorem zoc{w:World}{base base':Nat}{e:TypeId}{size n:Nat}{v:Value}{xs:List Value}(h:w.ownsRow base e size v n xs)(hb:base'≤base):w.ownsRow base' e size v n xs:=by
 obtain⟨h1,h2⟩:=h;refine⟨h1,?_⟩;rcases h2 with h|⟨g,cap,cur,e1,e2,e3⟩
 ·exact .inl h
 ·exact .inr ⟨g,cap,cur,e1,Nat.le_trans hb e2,e3⟩
theorem zod{W:World}{b:Nat}{p:Lx×Option Addr×Nat}(h:zh W b #[.int .i64 (p.1.await:Int),.slice p.2.1 p.1.pend.length p.2.2,.bool p.1.body] 50):Src W (.slice (some ⟨b,0,none⟩) 1 1) 1 (znC p):=by
 refine .inr ⟨b,0,1,rfl,h.lt,λj u hj=>?_⟩;have e:=h.cell (0+j);rw[e];have e2:(#[.int .i64 (p.1.await:Int),.slice p.2.1 p.1.pend.length p.2.2,.bool p.1.body]:Array Value)[0+j]?=(znC p)[j]?:=by
  rw[Nat.zero_add,←Array.getElem?_toList];rfl
 rw[e2];exact hj
theorem znE{wr w4 wx:World}{y:Lx}{xv:Value}{yo:Option Addr}{yc:Nat}(tb yb N:Nat)(hF:zg (λj=>j=tb∨j=yb) w4 wx)(hk:zh wx yb #[.int .i64 (y.await:Int),.slice yo y.pend.length yc,.bool y.body] 50)(hL:yR w4 (.slice yo y.pend.length yc) y)(hb:Below wr.heap.size wr w4)(htb:wr.heap.size≤tb)(hyb:wr.heap.size≤yb)(hx:∀g,xv.ownBlock=some g→g<wr.heap.size)(hy:∀g,(Value.slice yo y.pend.length yc).ownBlock=some g→xv.ownBlock=some g∨N≤g)(ht:tb<N∨w4.heap.size≤tb)(hyy:yb<N∨w4.heap.size≤yb)(hN:wr.heap.size≤N):AhC wr y xv wx (.pointer (some ⟨yb,0,none⟩)):=by
 have hg:∀g,(Value.slice yo y.pend.length yc).ownBlock=some g→g<w4.heap.size∧g≠tb∧g≠yb:=λg hg=>by
  have h1:=Yv hL.src g hg;have h2:=(hy g hg).imp (hx g) id;exact⟨h1,by omega,by omega⟩
 refine⟨yb,yo,yc,rfl,hk,⟨hL.src.zf hF (λg h=>by have:=hg g h;omega),hL.cap⟩,hb.trans (hF.below hb.size (λj hj=>by omega)),hyb,λg h=>?_⟩;by_cases h9:xv.ownBlock=some g
 ·exact .inl h9
 ·have h2:=hy g h
  have h3:=hg g h;refine .inr ⟨?_,h3.2.2⟩;rcases h2 with h2|h2
  ·exact absurd h2 h9
  ·omega
def AhI(s:ByteArray)(w:World)(xb z:Nat)(v6 v7:Value)(wr:World):Prop:=
 ∃(a:Nat) (x:Lx) (pre:List (Tk×Lx)) (xo:Option Addr) (xc:Nat) (l:List (Lx×Option Addr×Nat)) (ov:Option Addr) (cv:Nat),v6=.slice ov (pre.length+1) cv∧v7=.int .i64 (pre.length:Int)∧a≤s.size∧ui s=pre++vO s (s.size-a) a x∧l.map Prod.fst=Lx.zero::pre.map Prod.snd∧wr.ownsRow z 50 3 (.slice ov (pre.length+1) cv) (pre.length+1) (znA l)∧
  zh wr xb #[.int .i64 (x.await:Int),.slice xo x.pend.length xc,.bool x.body] 50∧(∀p∈l,OkX wr z (Value.slice ov (pre.length+1) cv).ownBlock p)∧OkX wr z (Value.slice ov (pre.length+1) cv).ownBlock (x,xo,xc)∧(x.body=true→x.pend≠ [])∧x.await≤1000∧x.pend.length≤a∧Below w.heap.size w wr∧z≤wr.heap.size∧pre.length≤a∧xb<z
theorem zoe(w:World)(s:ByteArray)(hs:s.size≤900):Calls Tryz.prog 19 #[.string s] w λe w'=>∃v l,e=.returned v∧l.map Prod.fst=Lx.zero::(ui s).map Prod.snd∧w'.ownsRow w.heap.size 50 3 v ((ui s).length+1) (znA l)∧(∀p∈l,yR w' (.slice p.2.1 p.1.pend.length p.2.2) p.1)∧Below w.heap.size w w':=by
 have HR:=hid (AX w s hs);go_enter Tryz.func19,Tryz.ntmps19
 go_wp2_with fail
 refine(HR.out).mono ?_;rintro e w1 ⟨v,oa,n,c,rfl,ho,hL,hb1⟩;obtain⟨ot,ct,rfl,hK⟩:=ZL.uT (by rw[List.length_map]) ho;unfold zD;have HK:=hid (And.intro hK hb1);clear ho hL hK hb1
 go_upto_region 5 with fail
 obtain⟨xb,hxb⟩:∃q,w1.heap.size+1=q:=⟨_,rfl⟩;obtain⟨z,hz⟩:∃q,xb+1=q:=⟨_,rfl⟩;have hB0:Below w1.heap.size w1 (((w1.alloc (.cells #[.int .i64 ((XD (ui s)).await:Int),.slice oa n c,.bool (XD (ui s)).body] 50)).alloc (.cells #[.int .i64 0,.slice none 0 0,.bool false] 50)).alloc (.cells #[.int .i64 0,.slice none 0 0,.bool false] 50)):=ziJ (ziJ (ziJ (Below.refl _ _) _) _) _;have kx0:=(xU w1 (.cells #[.int .i64 ((XD (ui s)).await:Int),.slice oa n c,.bool (XD (ui s)).body] 50) #[.int .i64 0,.slice none 0 0,.bool false] 50).alloc (.cells #[.int .i64 0,.slice none 0 0,.bool false] 50);have kz0:=zh.new ((w1.alloc (.cells #[.int .i64 ((XD (ui s)).await:Int),.slice oa n c,.bool (XD (ui s)).body] 50)).alloc (.cells #[.int .i64 0,.slice none 0 0,.bool false] 50)) #[.int .i64 0,.slice none 0 0,.bool false] 50;rw[World.size_alloc,World.size_alloc,hxb,hz]at kz0;rw[hxb]at kx0;obtain⟨W0,hW0⟩:∃X,((w1.alloc (.cells #[.int .i64 ((XD (ui s)).await:Int),.slice oa n c,.bool (XD (ui s)).body] 50)).alloc (.cells #[.int .i64 0,.slice none 0 0,.bool false] 50)).alloc (.cells #[.int .i64 0,.slice none 0 0,.bool false] 50)=X:=⟨_,rfl⟩;have hzs:W0.heap.size=z+1:=by rw[←hW0];simp;omega
 have hwz:w1.heap.size+2=z:=by omega
 rw[hW0]at hB0 kx0 kz0;have HK0:=hid (And.intro hB0 (And.intro kx0 (And.intro kz0 (And.intro hzs hwz))));have hxz:xb<z:=by omega
 have hxw:w1.heap.size<xb:=by omega
 have e1:w1.heap.size+1+1=z:=by omega
 rw[hW0,e1,hxb];have HXB:=hid (And.intro hxb hz);clear hxb hz e1 hW0 hB0 kx0 kz0 hzs hwz;obtain⟨Nt9,znJ⟩:∃k,(ui s).length=k:=⟨_,rfl⟩;rw[znJ];have znQ:=hid znJ;clear znJ
 go_loopw [6,7] (λv6 v7 wr=>AhI s w1 xb z v6 v7 wr) (λ_ v _=>Nt9-(intOf v).toNat)
 case atStart=>
  obtain⟨hB0,kx0,kz0,hzs,hwz⟩:=HK0.out;have hok:∀vb,OkX W0 z vb (Lx.zero,none,0):=λvb=>⟨⟨.inl ⟨rfl,rfl,rfl⟩,⟨none,0,rfl,Nat.le_refl _⟩⟩,λg hg=>by cases hg⟩;exact⟨0,Lx.zero,[],none,0,[(Lx.zero,none,0)],_,_,rfl,rfl,Nat.zero_le _,rfl,rfl,⟨rfl,.inr ⟨z,1,_,rfl,Nat.le_refl _,kz0,Nat.le_refl _,by decide,rfl,rfl⟩⟩,kx0,λp hp=>by
   have e:p=(Lx.zero,none,0):=by simpa using hp
   subst e;exact hok _,hok _,(λh=>by cases h),Nat.zero_le _,Nat.zero_le _,hB0,by omega,Nat.zero_le _,hxz⟩
 case round=>
  obtain⟨a,x,pre,xo,xc,l,ov,cv,rfl,rfl,has,lg,hlf,hown,hx,hol,hox,hbd,haw,hpl,hBw,hzw,zbF,_⟩:=hrel;obtain⟨i,hi⟩:∃i,pre.length=i:=⟨_,rfl⟩;rw[hi]at hown hol hox zbF ⊢;obtain⟨i1,hi1⟩:∃k,i+1=k:=⟨_,rfl⟩;rw[hi1]at hown hol hox ⊢;have HI:=hid (And.intro hi (And.intro lg (And.intro hlf hi1)));have HO:=hid (And.intro hown (And.intro hol hox));have HX:=hid hx;have yg:=hid hBw;have x0:=hx.cell 0;have x1:=hx.cell 1;have x2:=hx.cell 2;by_cases hlt:a<s.size
  ·have hlx:=Nh x hlt
   have hok:=jB x hlt;have hnk:=OA x hlt hpl haw;have hnb:=zmg (s:=s) (a:=a) hbd;rw[hlx]at lg;have htk:((ui s).map Prod.fst)[i]?=some (zo s a x):=by
    rw[lg,List.map_append,List.getElem?_append_right (by rw[List.length_map];omega),List.length_map,hi,Nat.sub_self];rfl
   have hin:i<Nt9:=by
    have:=(List.getElem?_eq_some_iff.1 htk).1;rw[List.length_map,znQ.out]at this;exact this
   obtain⟨tb,to',hot,htb,_,ht1,_⟩:=(HK.out.1.below hBw).cells i _ htk;rw[hok.1]at ht1;have htw:tb<wr.heap.size:=htb;obtain⟨y,hy⟩:∃y,zy s a x=y:=⟨_,rfl⟩;obtain⟨t,ht⟩:∃t,zo s a x=t:=⟨_,rfl⟩;have hst:=zl8 wr x xo _ xc (hox.rd) s a hlt (by omega) hbd haw (by omega);have HST:=hid (λW (hW:Below wr.heap.size wr W)=>show Calls Tryz.prog 36 #[.string s,.int .i64 (a:Int),.agg #[.int .i64 (x.await:Int),.slice xo x.pend.length xc,.bool x.body]] W λe w'=>∃v,e=.returned v∧∃yo yc,v=.tuple #[.agg #[.int .i64 (t.kind:Int),.int .i64 (t.zf:Int),.int .i64 (t.en:Int),.bool t.op],.agg #[.int .i64 (y.await:Int),.slice yo y.pend.length yc,.bool y.body]]∧yR w' (.slice yo y.pend.length yc) y∧Below W.heap.size W w'∧Below wr.heap.size wr w'∧(∀g,(Value.slice yo y.pend.length yc).ownBlock=some g→(Value.slice xo x.pend.length xc).ownBlock=some g∨W.heap.size≤g)from
    (zl8 W x xo _ xc (hox.rd.below hW) s a hlt (by omega) hbd haw (by omega)).mono (λe w' ⟨o2,n2,c2,h1,h2,h3,h4⟩=>by
     rw[hy]at h1 h2;rw[ht]at h1;obtain⟨o3,c3,e3,_⟩:=h2.cap;cases e3;exact⟨_,h1,o2,c2,rfl,h2,h3,hW.trans (h3.mono hW.size),λg hg=>h4 g hg⟩))
   have yS:=hid (λW (hW:Below wr.heap.size wr W)=>(⟨(hW.cell (p:=⟨tb,_,none⟩) htw).trans ht1,(hx.below hW).cell 0,(hx.below hW).cell 1,(hx.below hW).cell 2⟩:W.cell? ⟨tb,to'+i*4+1,none⟩=some (.int .i64 (a:Int))∧W.cell? ⟨xb,0,none⟩=some (.int .i64 (x.await:Int))∧W.cell? ⟨xb,1,none⟩=some (.slice xo x.pend.length xc)∧W.cell? ⟨xb,2,none⟩=some (.bool x.body)));have q0:(0:Int)≤(i:Int):=by omega
   have q1:(i:Int)<(Nt9:Int):=by omega
   have HN:=hid (And.intro hok (And.intro hnk (And.intro hnb (And.intro hlx htk))));have HTY:=hid (And.intro ht hy);cases hot;have HXO:=hid (λg hg=>(hox.ap g hg).2.2);clear hst hlx hok hnk hnb htk ht1 htb hy ht hox hol hown hx lg hlf hi hi1 hbd
   go_upto_region 7 with fail
   go_cut [9]from 24 to 34 (λv wx=>AhC wr y (.slice xo x.pend.length xc) wx v)
   case first=>
    go_region_held_law (λW=>W.cell? ⟨tb,to'+i*4+1,none⟩=some (.int .i64 (a:Int))∧W.cell? ⟨xb,0,none⟩=some (.int .i64 (x.await:Int))∧W.cell? ⟨xb,1,none⟩=some (.slice xo x.pend.length xc)∧W.cell? ⟨xb,2,none⟩=some (.bool x.body)) (exact yS.out _ (by(repeat(with_reducible (first|exact zA|exact(Below.refl _ _).drew|exact Below.refl _ _|refine Below.drew ?_|refine ziJ ?_ _|refine znG ?_ (by omega) _ _))))) (
     (refine um (by rfl) Tryz.func36 (by kernel_rfl) (by kernel_rfl) _ _ (by rfl) [.string s,.int .i64 (a:Int),.agg #[.int .i64 (x.await:Int),.slice xo x.pend.length xc,.bool x.body]] (by rfl) _ (HST.out _ (by(repeat(with_reducible (first|exact(Below.refl _ _).drew|exact Below.refl _ _|refine Below.drew ?_|refine ziJ ?_ _))))) ?_;intro v w4 hh;obtain⟨yo,yc,hv4,hL4,hb4,zA,hy4⟩:=hh;subst hv4;have znR:=hb4.size;(try rw[World.size_drew,World.size_alloc,World.size_alloc]at znR);(try rw[World.size_drew,World.size_alloc]at znR);first
      |(have kt:zh w4 wr.heap.size #[.int .i64 0,.int .i64 0,.int .i64 0,.bool false] 44:=(by with_reducible exact((zh.new wr #[.int .i64 0,.int .i64 0,.int .i64 0,.bool false] 44).drew).below hb4));have ktz:=kt.alloc (.cells #[.int .i64 0,.slice none 0 0,.bool false] 50);have zot:=ktz.cell 0;have zou:=ktz.frozen 0;have zov:=ktz.cell 1;have zow:=ktz.frozen 1;have zox:=ktz.cell 2;have zoy:=ktz.frozen 2;have zoz:=ktz.cell 3;have zoA:=ktz.frozen 3;clear ktz
      |(have ky:zh w4 wr.heap.size #[.int .i64 0,.slice none 0 0,.bool false] 50:=(by with_reducible exact((zh.new wr #[.int .i64 0,.slice none 0 0,.bool false] 50).drew).below hb4));have kyz:=ky.alloc (.cells #[.int .i64 (t.kind:Int),.int .i64 (t.zf:Int),.int .i64 (t.en:Int),.bool t.op] 44);have zoB:=kyz.cell 0;have zoC:=kyz.frozen 0;have zoD:=kyz.cell 1;have zoE:=kyz.frozen 1;have zoF:=kyz.cell 2;have zoG:=kyz.frozen 2;clear kyz
      |(have kt:zh w4 wr.heap.size #[.int .i64 0,.int .i64 0,.int .i64 0,.bool false] 44:=(by with_reducible exact(((zh.new wr #[.int .i64 0,.int .i64 0,.int .i64 0,.bool false] 44).alloc _).drew).below hb4);have ky:zh w4 (wr.heap.size+1) #[.int .i64 0,.slice none 0 0,.bool false] 50:=(by have h9:=((zh.new (wr.alloc (.cells #[.int .i64 0,.int .i64 0,.int .i64 0,.bool false] 44)) #[.int .i64 0,.slice none 0 0,.bool false] 50).drew).below hb4;rw[World.size_alloc]at h9;exact h9));have zaE:=kt.cell 0;have zaH:=kt.frozen 0;have zaF:=kt.cell 1;have zaI:=kt.frozen 1;have zaG:=kt.cell 2;have zaJ:=kt.frozen 2;have zjR:=kt.cell 3;have zjS:=kt.frozen 3;have zm9:=ky.cell 0;have znc:=ky.frozen 0;have zna:=ky.cell 1;have znd:=ky.frozen 1;have znb:=ky.cell 2;have zne:=ky.frozen 2
      |(have ky:zh w4 wr.heap.size #[.int .i64 0,.slice none 0 0,.bool false] 50:=(by with_reducible exact(((zh.new wr #[.int .i64 0,.slice none 0 0,.bool false] 50).alloc _).drew).below hb4);have kt:zh w4 (wr.heap.size+1) #[.int .i64 0,.int .i64 0,.int .i64 0,.bool false] 44:=(by have h9:=((zh.new (wr.alloc (.cells #[.int .i64 0,.slice none 0 0,.bool false] 50)) #[.int .i64 0,.int .i64 0,.int .i64 0,.bool false] 44).drew).below hb4;rw[World.size_alloc]at h9;exact h9));have zaE:=kt.cell 0;have zaH:=kt.frozen 0;have zaF:=kt.cell 1;have zaI:=kt.frozen 1;have zaG:=kt.cell 2;have zaJ:=kt.frozen 2;have zjR:=kt.cell 3;have zjS:=kt.frozen 3;have zm9:=ky.cell 0;have znc:=ky.frozen 0;have zna:=ky.cell 1;have znd:=ky.frozen 1;have znb:=ky.cell 2;have zne:=ky.frozen 2
      |(have h9:Below wr.drew.heap.size wr.drew w4:=by with_reducible exact hb4)))
    all_goals
     go_step;go_step;go_meet
     case rel=>
      have znF:=HXO.out
      first
       |with_reducible exact znE (w4.heap.size) (w4.heap.size+1) _ (by(repeat(with_reducible (first|exact zg.refl _ _|refine zg.alloc ?_ _|refine zg.setCell ?_ _ (by simp) _)))) (by have h9:=zh.new (w4.alloc (.cells #[.int .i64 (t.kind:Int),.int .i64 (t.zf:Int),.int .i64 (t.en:Int),.bool t.op] 44)) #[.int .i64 (y.await:Int),.slice yo y.pend.length yc,.bool y.body] 50;rw[World.size_alloc]at h9;exact h9) hL4 zA zA.size (by have:=zA.size;omega) znF hy4 (.inr (Nat.le_refl _)) (.inr (Nat.le_succ _)) (by(try rw[World.size_drew]);(try rw[World.size_alloc]);(try rw[World.size_alloc]);omega)
       |with_reducible exact znE (w4.heap.size+1) (w4.heap.size) _ (by(repeat(with_reducible (first|exact zg.refl _ _|refine zg.alloc ?_ _|refine zg.setCell ?_ _ (by simp) _)))) ((zh.new w4 #[.int .i64 (y.await:Int),.slice yo y.pend.length yc,.bool y.body] 50).alloc _) hL4 zA (by have:=zA.size;omega) zA.size znF hy4 (.inr (Nat.le_succ _)) (.inr (Nat.le_refl _)) (by(try rw[World.size_drew]);(try rw[World.size_alloc]);(try rw[World.size_alloc]);omega)
       |with_reducible exact znE (wr.heap.size) (w4.heap.size) _ (by(repeat(with_reducible (first|exact zg.refl _ _|refine zg.alloc ?_ _|refine zg.setCell ?_ _ (by simp) _)))) (by have h9:=((((((((zh.new w4 #[.int .i64 0,.slice none 0 0,.bool false] 50).other 0 (.int .i64 (t.kind:Int)) (by omega:w4.heap.size≠wr.heap.size)).other 1 (.int .i64 (t.zf:Int)) (by omega:w4.heap.size≠wr.heap.size)).other 2 (.int .i64 (t.en:Int)) (by omega:w4.heap.size≠wr.heap.size)).other 3 (.bool t.op) (by omega:w4.heap.size≠wr.heap.size)).set 0 (.int .i64 (y.await:Int))).set 1 (.slice yo y.pend.length yc)).set 2 (.bool y.body));simpa using h9) hL4 zA (Nat.le_refl _) zA.size znF hy4 (.inl (by rw[World.size_drew,World.size_alloc];omega)) (.inr (Nat.le_refl _)) (by(try rw[World.size_drew]);(try rw[World.size_alloc]);(try rw[World.size_alloc]);omega)
       |with_reducible exact znE (wr.heap.size) (wr.heap.size+1) _ (by(repeat(with_reducible (first|exact zg.refl _ _|refine zg.alloc ?_ _|refine zg.setCell ?_ _ (by simp) _)))) (by have h9:=(((((((ky.other 0 (.int .i64 (t.kind:Int)) (by omega:wr.heap.size+1≠wr.heap.size)).other 1 (.int .i64 (t.zf:Int)) (by omega:wr.heap.size+1≠wr.heap.size)).other 2 (.int .i64 (t.en:Int)) (by omega:wr.heap.size+1≠wr.heap.size)).other 3 (.bool t.op) (by omega:wr.heap.size+1≠wr.heap.size)).set 0 (.int .i64 (y.await:Int))).set 1 (.slice yo y.pend.length yc)).set 2 (.bool y.body));simpa using h9) hL4 zA (Nat.le_refl _) (Nat.le_succ _) znF hy4 (.inl (by rw[World.size_drew,World.size_alloc,World.size_alloc];omega)) (.inl (by rw[World.size_drew,World.size_alloc,World.size_alloc];omega)) (by(try rw[World.size_drew]);(try rw[World.size_alloc]);(try rw[World.size_alloc]);omega)
       |with_reducible exact znE (w4.heap.size) (wr.heap.size) _ (by(repeat(with_reducible (first|exact zg.refl _ _|refine zg.alloc ?_ _|refine zg.setCell ?_ _ (by simp) _)))) (by have h9:=(((ky.alloc (.cells #[.int .i64 (t.kind:Int),.int .i64 (t.zf:Int),.int .i64 (t.en:Int),.bool t.op] 44)).set 0 (.int .i64 (y.await:Int))).set 1 (.slice yo y.pend.length yc)).set 2 (.bool y.body);simpa using h9) hL4 zA zA.size (Nat.le_refl _) znF hy4 (.inr (Nat.le_refl _)) (.inl (by rw[World.size_drew,World.size_alloc];omega)) (by(try rw[World.size_drew]);(try rw[World.size_alloc]);(try rw[World.size_alloc]);omega)
       |with_reducible exact znE (wr.heap.size+1) (wr.heap.size) _ (by(repeat(with_reducible (first|exact zg.refl _ _|refine zg.alloc ?_ _|refine zg.setCell ?_ _ (by simp) _)))) (by have h9:=(((((((ky.other 0 (.int .i64 (t.kind:Int)) (by omega:wr.heap.size≠wr.heap.size+1)).other 1 (.int .i64 (t.zf:Int)) (by omega:wr.heap.size≠wr.heap.size+1)).other 2 (.int .i64 (t.en:Int)) (by omega:wr.heap.size≠wr.heap.size+1)).other 3 (.bool t.op) (by omega:wr.heap.size≠wr.heap.size+1)).set 0 (.int .i64 (y.await:Int))).set 1 (.slice yo y.pend.length yc)).set 2 (.bool y.body));simpa using h9) hL4 zA (Nat.le_succ _) (Nat.le_refl _) znF hy4 (.inl (by rw[World.size_drew,World.size_alloc,World.size_alloc];omega)) (.inl (by rw[World.size_drew,World.size_alloc,World.size_alloc];omega)) (by(try rw[World.size_drew]);(try rw[World.size_alloc]);(try rw[World.size_alloc]);omega)
       |(trace_state;fail "rel")
   case rest=>
    obtain⟨yb,yo,yc,rfl,kyb,hLy,uK,hyb,hyo⟩:=hcut;have hO:=HO.out;have hvl:∀g,(Value.slice ov i1 cv).ownBlock=some g→z≤g∧g<wr.heap.size:=λg hg=>⟨yH hO.1 g hg,ji hO.1 g hg⟩;have HVL:=hid hvl;have XH:=vM hO.1 (uK.trans ((Below.refl wc.heap.size wc).alloc (Nat.le_refl _) (.cells #[.int .i64 (y.await:Int),.slice yo y.pend.length yc,.bool y.body] 50)|>.mono uK.size));have HOW:=hid XH;have HC:=hid (And.intro kyb (And.intro hLy (And.intro uK (And.intro hyb hyo))));have c0:=kyb.cell 0;have c1:=kyb.cell 1;have c2:=kyb.cell 2;have zoH:z≤wc.heap.size:=by have:=uK.size;omega
    have hi9:i≤900:=by omega
    clear hvl XH kyb hLy uK hyo hO
    go_wp2_with (at_builtin;refine jh rfl _ _ 46 50 3 40 _ rfl Tryz.underlying46 zob rfl (by omega) (by omega) z (.slice ov i1 cv) i1 (znA l) rfl HOW.out _ 1 (znC (y,yo,yc)) rfl (zod (p:=(y,yo,yc)) (zh.new wc _ _)) rfl (zoa _) (by have:=HI.out.2.2.2;omega) (by rw[World.size_alloc];omega) (i1+1) rfl ?_;intro uQ c9 w9 jg Zj Vw;have ky9:=(HC.out.1.alloc (.cells #[.int .i64 (y.await:Int),.slice yo y.pend.length yc,.bool y.body] 50)).grown Zj (λe=>by have:=HVL.out yb e.symm;have:=HC.out.2.2.2.1;omega);have kx9:=((HX.out.below HC.out.2.2.1).alloc (.cells #[.int .i64 (y.await:Int),.slice yo y.pend.length yc,.bool y.body] 50)).grown Zj (λe=>by have:=(HVL.out xb e.symm).1;omega);have y0:=ky9.cell 0;have y1:=ky9.cell 1;have y2:=ky9.cell 2;have z0:=kx9.cell 0;have z1:=kx9.cell 1;have z2:=kx9.cell 2;have f0:=kx9.frozen 0;have f1:=kx9.frozen 1;have f2:=kx9.frozen 2;have VB:=hid kx9;have HR9:=hid (And.intro jg (And.intro Zj Vw));clear ky9 kx9 jg Zj Vw)
    go_roundw
    case rel=>
     obtain⟨hok,hnk,hnb,hlx,_⟩:=HN.out;rw[HTY.out.1]at hok hnk hlx;rw[HTY.out.2]at hnk hnb hlx;obtain⟨hi,lg,hlf,hi1⟩:=HI.out;obtain⟨_,hol,hox⟩:=HO.out;obtain⟨_,hLy,uK,_,hyo⟩:=HC.out;obtain⟨jg,Zj,Vw⟩:=HR9.out;have F1:zg (λj=>(Value.slice ov i1 cv).ownBlock=some j∨j=xb) wr wc:=(zg.of_below (p:=λ_=>False) uK).mono (λ_ _ h=>h.elim);have F2:zg (λj=>(Value.slice ov i1 cv).ownBlock=some j∨j=xb) wc (((w9.setCell ⟨xb,0,none⟩ (.int .i64 (y.await:Int))).setCell ⟨xb,1,none⟩ (.slice yo y.pend.length yc)).setCell ⟨xb,2,none⟩ (.bool y.body)):=(((((zg.refl _ wc).alloc _).grown Zj (λk hk=> .inl (.inl hk))).setCell 0 (.inl (.inr rfl)) _).setCell 1 (.inl (.inr rfl)) _).setCell 2 (.inl (.inr rfl)) _;have F12:=F1.trans F2 (λ_ _ h=>h);have F3:zg (λj=>j=xb) w9 (((w9.setCell ⟨xb,0,none⟩ (.int .i64 (y.await:Int))).setCell ⟨xb,1,none⟩ (.slice yo y.pend.length yc)).setCell ⟨xb,2,none⟩ (.bool y.body)):=(((zg.refl _ w9).put 0 _).put 1 _).put 2 _;have hwc:wr.heap.size≤wc.heap.size:=uK.size;have hnew:∀g,g<wc.heap.size→(Value.slice ov i1 cv).ownBlock≠some g→(Value.slice uQ (i1+1) c9).ownBlock≠some g:=λg h1 h2 h3=>by
      rcases Vw with h|h
      ·exact h2 (h.symm.trans h3)
      ·rw[h3,World.size_alloc]at h
       injection h with h;omega
     have hoy:OkX wc z (Value.slice ov i1 cv).ownBlock (y,yo,yc):=⟨hLy,λg hg=>by
      have h1:=Yv hLy.src g hg;rcases hyo g hg with h|h
      ·have h2:=hox.ap g h
       exact⟨h2.1,h2.2.1,h1⟩
      ·exact⟨λe=>by have:=HVL.out g e;omega,by omega,h1⟩⟩
     have znS:=hoy.zf (vb':=(Value.slice uQ (i1+1) c9).ownBlock) F2 (λg h1 h2 h3=>⟨λh=>h.elim (λh=>h2 h) (λh=>by omega),hnew g h3 h2⟩);have hpl':(pre++ [(t,y)]).length=i1:=by rw[List.length_append,hi];exact hi1
     have hkx:zh (((w9.setCell ⟨xb,0,none⟩ (.int .i64 (y.await:Int))).setCell ⟨xb,1,none⟩ (.slice yo y.pend.length yc)).setCell ⟨xb,2,none⟩ (.bool y.body)) xb #[.int .i64 (y.await:Int),.slice yo y.pend.length yc,.bool y.body] 50:=by
      have h9:=((VB.out.set 0 (.int .i64 (y.await:Int))).set 1 (.slice yo y.pend.length yc)).set 2 (.bool y.body);simpa using h9
     refine⟨t.en,y,pre++ [(t,y)],yo,yc,l++ [(y,yo,yc)],uQ,c9,by rw[hpl'],by rw[hpl',←hi1];go_num,hok.2.2,?_,?_,?_,hkx,?_,?_,hnb,hnk.2,hnk.1,yg.out.trans (F12.below yg.out.size (λj hj=>?_)),Nat.le_trans (by omega) F12.size,?_,by assumption⟩
     ·rw[lg,hlx,List.append_assoc];rfl
     ·rw[List.map_append,hlf,List.map_append];rfl
     ·rw[hpl',zn9,show znA [(y,yo,yc)]=znC (y,yo,yc)from by simp[znA]]
      exact zQ F3 jg (λk hk=>by have:=yH jg k hk;omega)
     ·intro p hp
      rcases List.mem_append.1 hp with h|h
      ·rw[hpl']
       exact(hol p h).zf F12 (λg h1 h2 h3=>⟨λh=>h.elim (λh=>h2 h) (λh=>by omega),hnew g (by omega) h2⟩)
      ·obtain rfl:=List.mem_singleton.1 h
       rw[hpl'];exact znS
     ·rw[hpl']
      exact znS
     ·rcases hj with h|h
      ·have:=(HVL.out j h).1;have:=HK0.out.2.2.2.2;omega
      ·have:=HK0.out.2.2.2.2;omega
     ·rw[hpl'];omega
    case measure=>simp[intOf];omega
  ·have q1:¬(i:Int)<(Nt9:Int):=by
    have h9:ui s=pre:=by rw[lg,nY x hlt,List.append_nil]
    have:=znQ.out;rw[h9,hi]at this;omega
   have h9:ui s=pre:=by rw[lg,nY x hlt,List.append_nil]
   have HE:=hid h9;clear h9 hown hol hox hx x0 x1 x2 lg hlf hi hi1;go_wp2;go_ret;refine⟨_,rfl,l,by rw[HI.out.2.2.1,HE.out],?_,λp q r hp=>(HO.out.2.1 (p,q,r) hp).rd,HK.out.2.trans (yg.out.mono HK.out.2.size)⟩;have e:(ui s).length+1=i1:=by rw[HE.out,HI.out.1];exact HI.out.2.2.2
   rw[e];exact zoc HO.out.1 (by have:=HK0.out.2.2.2.2;have:=HK.out.2.size;omega)
structure RdX(W:World)(oa:Option Addr)(n:Nat)(l:List (Lx×Option Addr×Nat)):Prop where
 len:n=l.length
 cells:∀(j:Nat) x,l[j]?=some x→∃b off,oa=some ⟨b,off,none⟩∧b<W.heap.size∧W.cell? ⟨b,off+j*3,none⟩=some (.int .i64 (x.1.await:Int))∧W.cell? ⟨b,off+j*3+1,none⟩=some (.slice x.2.1 x.1.pend.length x.2.2)∧W.cell? ⟨b,off+j*3+2,none⟩=some (.bool x.1.body)
 rd:∀x∈l,yR W (.slice x.2.1 x.1.pend.length x.2.2) x.1
theorem RdX.below{W W':World}{oa:Option Addr}{n:Nat}{l:List (Lx×Option Addr×Nat)}(h:RdX W oa n l)(hb:Below W.heap.size W W'):RdX W' oa n l:=
 ⟨h.len,λj d hj=>by
  obtain⟨b,off,h1,h2,h3,h4,h5⟩:=h.cells j d hj;have e:∀o,W'.cell? ⟨b,o,none⟩=W.cell? ⟨b,o,none⟩:=λo=>hb.cell (p:=⟨b,o,none⟩) h2;exact⟨b,off,h1,Nat.lt_of_lt_of_le h2 hb.size,(e _).trans h3,(e _).trans h4,(e _).trans h5⟩,λx hx=>(h.rd x hx).below hb⟩
theorem znT(w:World)(s:ByteArray)(hs:s.size≤900):Calls Tryz.prog 19 #[.string s] w λe w'=>∃oa c l,e=.returned (.slice oa ((ui s).length+1) c)∧l.map Prod.fst=Lx.zero::(ui s).map Prod.snd∧RdX w' oa ((ui s).length+1) l∧Below w.heap.size w w':=by
 refine(zoe w s hs).mono ?_;rintro e w' ⟨v,l,rfl,hl,ho,hr,hb⟩;have hn:(ui s).length+1=l.length:=by
  have:=congrArg List.length hl;simpa using this.symm
 rw[hn]at ho ⊢;rcases Src.uT ho with⟨h1,h2,_⟩|⟨b,off,c,h1,h2,h3⟩
 ·omega
 ·refine⟨_,c,l,by rw[h1],hl,⟨rfl,λj x hj=>?_,hr⟩,hb⟩
  have g:=λk hk=>znP l j k x hj hk;exact⟨b,off,rfl,h2,h3 (j*3) _ (g 0 (by omega)),h3 (j*3+1) _ (g 1 (by omega)),h3 (j*3+2) _ (g 2 (by omega))⟩
def znD(s:ByteArray):List Lx:=Lx.zero::(ui s).map Prod.snd
def tL(s:ByteArray):List Tk:=(ui s).map Prod.fst
def KM(s t:ByteArray)(at' dl:Nat)(i j:Nat):Prop:=∃r q x,(tL s)[i]?=some r∧at'+dl≤r.zf∧(tL t)[j]?=some q∧(r.zf:Int)+t.size-s.size=q.zf∧(znD s)[i]?=some x∧(znD t)[j]?=some x
structure znL(s t:ByteArray)(at' dl:Nat)(h u:Nat):Prop where
 len:h+u≤(ui s).length
 hd:∀(i:Nat) r,(tL s)[i]?=some r→(i<h↔r.en+2≤at')
 no:∀i j:Nat,i<(ui s).length-u→¬KM s t at' dl i j
 yes:0<u→∃j,KM s t at' dl ((ui s).length-u) j
theorem zn1{x y:Lx}:Tc (x.await:Int) (y.await:Int) x.pend y.pend x.body y.body=true↔x=y:=by
 unfold Tc;rw[Bool.and_eq_true,Bool.and_eq_true,decide_eq_true_iff,beq_iff_eq,zl9];constructor
 ·rintro⟨h1,h2,h3⟩
  obtain⟨a,p,b⟩:=x;obtain⟨a',p',b'⟩:=y;simp only at h1 h2 h3;obtain rfl:a=a':=by omega
  subst h2 h3;rfl
 ·rintro rfl
  exact⟨rfl,rfl,rfl⟩
theorem zn2(s:ByteArray):∀(k a:Nat) (x:Lx),(vO s k a x).length≤k
 |0,_,_=>Nat.le_refl _
 |k+1,a,x=>by
  unfold vO;split
  ·exact Nat.succ_le_succ (zn2 s k _ _)
  ·exact Nat.zero_le _
theorem zn3(s:ByteArray):(ui s).length≤s.size:=zn2 s _ _ _
theorem zbO(s:ByteArray):∀(k a:Nat) (x:Lx) (q:Tk×Lx),q∈vO s k a x→q.1.zf≤s.size∧q.1.en≤s.size
 |0,_,_,_,h=>by cases h
 |k+1,a,x,q,h=>by
  unfold vO at h;split at h
  ·rename_i hlt
   rcases List.mem_cons.1 h with rfl|h
   ·have:=jB x hlt
    exact⟨by show(zo s a x).zf≤_;omega,by show(zo s a x).en≤_;omega⟩
   ·exact zbO s k _ _ q h
  ·cases h
theorem znH{s:ByteArray}{i:Nat}{r:Tk}(h:(tL s)[i]?=some r):r.zf≤s.size∧r.en≤s.size:=by
 unfold tL at h;rw[List.getElem?_map]at h
 cases h9:(ui s)[i]? with
 |none=>rw[h9]at h;cases h
 |some q=>
  rw[h9]at h;cases h;exact zbO s _ _ _ q (List.mem_of_getElem? h9)
theorem zoq{ops:Array Oper}{o:Oper}{a:Act}{w:World}{K:Act→World→Prop}{Q:Exit→Act→World→Prop}{E:Prop}(hw:Region.wanted o (yielded ops a.tmps)=true){f:FuncId}{fn:Func}(hf:Tryz.prog.funcs[f]?=some fn)(hname:(fn.name== "runtime.NumGoroutine")=false)(hb:fn.body.isSome=true)(args:List Operand)(rF:Array TypeId)
 (ho:o.op=.call {callee:=.value (.func f),args:=args.toArray,argTypes:=rF})(vs:List Value)(hv:args.map a.eval=vs)(R:Value→World→Prop)
 (hc:Calls Tryz.prog f vs.toArray w λe w'=>∃v,e=.returned v∧R v w')(h:∀v w',R v w'→K (a.put o.dst v) w'):
  if Region.wanted o (yielded ops a.tmps)=true then Oper.wp Tryz.prog o a w K Q else E:=by
 rw[if_pos hw];have e1:a.eval (.func f)=.func (.func f) #[] #[]:=rfl;unfold Oper.wp execOp;simp only[ho,resolve,List.map_toArray,hv,e1,Deferred.ofValue,invoke,Sem.run_bind,Sem.run_pure,Result.andThen_ok,Array.empty_append,Array.append_empty,PT hf hname hb];rw[Oper.upon_enter];refine hc.mono ?_;rintro e w' ⟨v,rfl,hr⟩;exact h v w' hr
theorem zn4(s:ByteArray):∀(k a:Nat) (x:Lx) (q:Tk×Lx),x.pend.length≤a→x.await≤1000→q∈vO s k a x→q.2.pend.length≤s.size
 |0,_,_,_,_,_,h=>by cases h
 |k+1,a,x,q,hp,ha,h=>by
  unfold vO at h;split at h
  ·rename_i hlt
   have h1:=OA x hlt hp ha;rcases List.mem_cons.1 h with rfl|h
   ·have:=jB x hlt
    show(zy s a x).pend.length≤_;omega
   ·exact zn4 s k _ _ q h1.1 h1.2 h
  ·cases h
theorem zn5{s:ByteArray}{i:Nat}{x:Lx}(h:(znD s)[i]?=some x):x.pend.length≤s.size:=by
 unfold znD at h
 cases i with
 |zero=>cases h;exact Nat.zero_le _
 |succ i=>
  rw[List.getElem?_cons_succ,List.getElem?_map]at h
  cases h9:(ui s)[i]? with
  |none=>rw[h9]at h;cases h
  |some q=>
   rw[h9]at h;cases h;exact zn4 s _ _ _ q (Nat.zero_le _) (Nat.zero_le _) (List.mem_of_getElem? h9)
def KdA(W:World)(kb ziB h:Nat)(v:Value)(wr:World):Prop:=∃i:Nat,i≤ziB∧v=.int .i64 (i:Int)∧zh wr kb #[.int .i64 ((min i h:Nat):Int),.int .i64 0] 31∧Below W.heap.size W wr
def KdB(W:World)(kb ziB h u:Nat)(v:Value)(wr:World):Prop:=∃i T:Nat,i≤ziB∧v=.int .i64 (i:Int)∧zh wr kb #[.int .i64 (h:Int),.int .i64 (T:Int)] 31∧Below W.heap.size W wr∧((i≤ziB-u∧T=0)∨(ziB-u<i∧T=u))
def KdC(W:World)(kb ziB znB h u i:Nat)(M:Nat→Prop)(v:Value)(wr:World):Prop:=∃j T:Nat,j≤znB∧v=.int .i64 (j:Int)∧zh wr kb #[.int .i64 (h:Int),.int .i64 (T:Int)] 31∧Below W.heap.size W wr∧
 ((i<ziB-u∧T=0)∨(i=ziB-u∧T=0∧∃k,j≤k∧k<znB∧M k)∨(ziB-u≤i∧T=u))
theorem zom(w:World)(s t d n:ByteArray)(at' h u:Nat)(hs:s.size≤900)(ht:t.size≤900)(ha:at'≤900)(hd:d.size≤900)(hK:znL s t at' d.size h u):Calls Tryz.prog 17 #[.string s,.agg #[.int .i64 (at':Int),.string d,.string n],.string t] w λe w'=>e=.returned (.agg #[.int .i64 (h:Int),.int .i64 (u:Int)])∧Below w.heap.size w w':=by
 have hls:=λW=>AX W s hs;have hlt:=λW=>AX W t ht;unfold zD at hls hlt;have HLs:=hid hls;have HLt:=hid hlt;have HAs:=hid (λW=>znT W s hs);have HAt:=hid (λW=>znT W t ht);have HK:=hid hK;clear hK hls hlt;obtain⟨eb,heb⟩:∃k,w.heap.size=k:=⟨_,rfl⟩;obtain⟨rb,hrb⟩:∃k,eb+1=k:=⟨_,rfl⟩;obtain⟨W0,hW0⟩:∃X,(w.alloc (.cells #[.int .i64 (at':Int),.string d,.string n] 35)).alloc (.cells #[.int .i64 0,.int .i64 0] 31)=X:=⟨_,rfl⟩;have ke:=(zh.new w #[.int .i64 (at':Int),.string d,.string n] 35).alloc (.cells #[.int .i64 0,.int .i64 0] 31);have kr:=zh.new (w.alloc (.cells #[.int .i64 (at':Int),.string d,.string n] 35)) #[.int .i64 0,.int .i64 0] 31;have hB0:Below w.heap.size w W0:=by rw[←hW0];exact ziJ (ziJ (Below.refl _ _) _) _
 rw[World.size_alloc,hW0,heb,hrb]at kr;rw[hW0,heb]at ke;have HB0:=hid (And.intro hB0 (And.intro ke (And.intro kr (And.intro heb hrb))));clear hB0 ke kr;go_enter Tryz.func17,Tryz.ntmps17
 go_wp2_with fail
 refine(HLs.out _).mono ?_;rintro e w1 ⟨v1,o1,n1,c1,rfl,ho1,hL1,hb1⟩;obtain⟨oa,ca,rfl,ha1⟩:=ZL.uT (by rw[List.length_map]) ho1;have znN:=hb1.trans ((ziJ (Below.refl w1.heap.size w1) (.cells #[.int .i64 ((XD (ui s)).await:Int),.slice o1 n1 c1,.bool (XD (ui s)).body] 50)).mono hb1.size);have ha2:=ha1.below (ziJ (Below.refl w1.heap.size w1) (.cells #[.int .i64 ((XD (ui s)).await:Int),.slice o1 n1 c1,.bool (XD (ui s)).body] 50));obtain⟨W1,hW1⟩:∃X,w1.alloc (.cells #[.int .i64 ((XD (ui s)).await:Int),.slice o1 n1 c1,.bool (XD (ui s)).body] 50)=X:=⟨_,rfl⟩;rw[hW1]at znN ha2;have H1:=hid (And.intro znN ha2);clear hb1 ho1 hL1 ha1 znN ha2 hW0 heb hrb
 go_wp2_with fail
 refine(HLt.out _).mono ?_;rintro e w2 ⟨v2,o2,n2,c2,rfl,ho2,hL2,hb2⟩;obtain⟨ob,cb,rfl,ha1⟩:=ZL.uT (by rw[List.length_map]) ho2;have Oz:=hb2.trans ((ziJ (Below.refl w2.heap.size w2) (.cells #[.int .i64 ((XD (ui t)).await:Int),.slice o2 n2 c2,.bool (XD (ui t)).body] 50)).mono hb2.size);have ha2:=ha1.below (ziJ (Below.refl w2.heap.size w2) (.cells #[.int .i64 ((XD (ui t)).await:Int),.slice o2 n2 c2,.bool (XD (ui t)).body] 50));obtain⟨W2,hW2⟩:∃X,w2.alloc (.cells #[.int .i64 ((XD (ui t)).await:Int),.slice o2 n2 c2,.bool (XD (ui t)).body] 50)=X:=⟨_,rfl⟩;rw[hW2]at Oz ha2;have H2:=hid (And.intro Oz ha2);clear hb2 ho2 hL2 ha1 Oz ha2 hW1
 go_wp2_with fail
 refine(HAs.out _).mono ?_;rintro e w3 ⟨ox,cx,lx,rfl,hlx,hx3,hb3⟩;have H3:=hid (And.intro hb3 (And.intro hx3 hlx));clear hb3 hx3 hlx hW2
 go_wp2_with fail
 refine(HAt.out _).mono ?_;rintro e w4 ⟨oy,cy,ly,rfl,hly,hy4,hb4⟩;have H4:=hid (And.intro hb4 (And.intro hy4 hly));clear hb4 hy4 hly
 go_upto_region 6 with fail
 obtain⟨kb,hkb⟩:∃k,w4.heap.size=k:=⟨_,rfl⟩;have kk:=zh.new w4 #[.int .i64 0,.int .i64 0] 31;have zn6:=ziJ (Below.refl w4.heap.size w4) (.cells #[.int .i64 0,.int .i64 0] 31);obtain⟨ziB,hNa⟩:∃k,(ui s).length=k:=⟨_,rfl⟩;obtain⟨znB,hNb⟩:∃k,(ui t).length=k:=⟨_,rfl⟩;have hbB:=H3.out.1.trans (H4.out.1.mono H3.out.1.size);have hbC:=H2.out.1.trans (hbB.mono H2.out.1.size);have hbD:=H1.out.1.trans (hbC.mono H1.out.1.size);have Dt:=HB0.out.1.trans (hbD.mono HB0.out.1.size);have r1:ZL w4 oa ziB (tL s):=by rw[←hNa];exact H1.out.2.below hbC
 have r2:ZL w4 ob znB (tL t):=by rw[←hNb];exact H2.out.2.below hbB
 have r3:=H3.out.2.1.below H4.out.1;have r4:=H4.out.2.1;rw[hNa]at r3;rw[hNb]at r4;have zoL:rb<kb:=by rw[←hkb];exact(HB0.out.2.2.1.below hbD).lt
 have zoM:eb<kb:=by have:=HB0.out.2.2.2.2;omega
 have HE:=hid Dt;have HNa:=hid hNa;have HNb:=hid hNb;have HA:=hid (λi r (h:(tL s)[i]?=some r)=>show i<ziB from by
  have:=(List.getElem?_eq_some_iff.1 h).1;unfold tL at this;rw[List.length_map,hNa]at this;exact this)
 have zoN:ziB≤900:=by have:=zn3 s;omega
 have zoO:znB≤900:=by have:=zn3 t;omega
 obtain⟨Nx,hNx⟩:∃k,ziB+1=k:=⟨_,rfl⟩;obtain⟨zor,hNy⟩:∃k,znB+1=k:=⟨_,rfl⟩;rw[hNx]at r3;rw[hNy]at r4;have HR:=hid (And.intro r1 (And.intro r2 (And.intro r3 (And.intro r4 (And.intro (HB0.out.2.1.below hbD) (HB0.out.2.2.1.below hbD))))));have jD:=hid (And.intro hNx hNy);rw[hNa,hNb,hNx,hNy,hkb];have HKB:=hid hkb;rw[hkb]at kk;have HKK:=hid (And.intro kk zn6);obtain⟨W5,xC⟩:∃X,w4.alloc (.cells #[.int .i64 0,.int .i64 0] 31)=X:=⟨_,rfl⟩;rw[xC]at HKK ⊢;clear r1 r2 r3 r4 hbB hbC hbD Dt hNa hNb hkb hNx hNy kk zn6 xC;go_wp2
 go_loopw [14] (λv wr=>KdA w4 kb ziB h v wr) (λv _=>ziB-(intOf v).toNat)
 case atStart=>exact⟨0,Nat.zero_le _,rfl,by simpa using HKK.out.1,HKK.out.2⟩
 case round=>
  obtain⟨i,hi,rfl,kk,hbl⟩:=hrel;obtain⟨m,hm⟩:∃m,min i h=m:=⟨_,rfl⟩;rw[hm]at kk;have HM:=hid hm;have vN:=hid hbl;have HKW:=hid kk;have q0:(0:Int)≤(i:Int):=by omega
  by_cases hlt:i<ziB
  ·have q1:(i:Int)<(ziB:Int):=by omega
   obtain⟨r,hr⟩:∃r,(tL s)[i]?=some r:=⟨_,List.getElem?_eq_getElem (by unfold tL;rw[List.length_map,HNa.out];exact hlt)⟩;have hin:=znH hr;have hrd:=HR.out.1.below hbl;obtain⟨g1,f1,hg,h1,_,_,c2,_⟩:=hrd.cells i r hr;have e0:=(HR.out.2.2.2.2.1.below hbl).cell 0;have k0:=kk.cell 0;have z0:=kk.frozen 0;have hhd:=HK.out.hd i r hr;have HHD:=hid hhd;cases hg;clear hm hrd hr kk hbl hhd;by_cases hh:r.en+2≤at'
   ·have u1:(r.en:Int)+2≤(at':Int):=by omega
    have HH:=hid hh;clear hh;go_wp2
    go_quiet (fail)
    go_wp2
    go_roundw
    case rel=>
     have e:min (i+1) h=i+1:=by have:=HHD.out.2 HH.out;omega
     refine⟨i+1,by omega,by go_num,?_,znG (below_drewN vN.out nq) (by rw[HKB.out];exact Nat.le_refl _) 0 _⟩;have h9:=(HKW.out.drewN nq).set 0 (.int .i64 ((i:Int)+1));rw[e];simpa using h9
    case measure=>simp[intOf];omega
   ·have u1:¬(r.en:Int)+2≤(at':Int):=by omega
    have HH:=hid hh;clear hh;go_wp2
    go_quiet (fail)
    go_wp2
    go_roundw
    case rel=>
     have e:min (i+1) h=m:=by have:=HHD.out;have:=HH.out;have:=HM.out;omega
     refine⟨i+1,by omega,by go_num,?_,below_drewN vN.out nq⟩;rw[e];exact HKW.out.drewN nq
    case measure=>simp[intOf];omega
  ·have q1:¬(i:Int)<(ziB:Int):=by omega
   have em:m=h:=by have:=HK.out.len;have:=HNa.out;have:=HM.out;omega
   rw[em]at HKW;clear hm kk hbl em;go_wp2
   go_loopw [15] (λv wr=>KdB w4 kb ziB h u v wr) (λv _=>ziB-(intOf v).toNat)
   case atStart=>exact⟨0,0,Nat.zero_le _,rfl,HKW.out,vN.out,.inl ⟨Nat.zero_le _,rfl⟩⟩
   case round=>
    obtain⟨i2,T,hi2,rfl,kk,hbl,hP⟩:=hrel;have zn7:=hid hbl;have zos:=hid kk;have HP:=hid hP;have p0:(0:Int)≤(i2:Int):=by omega
    by_cases hlt2:i2<ziB
    ·have p1:(i2:Int)<(ziB:Int):=by omega
     clear kk hbl hP;go_wp2
     go_loopw [16] (λv wr=>KdC w4 kb ziB znB h u i2 (KM s t at' d.size i2) v wr) (λv _=>znB-(intOf v).toNat)
     case atStart=>
      refine⟨0,T,Nat.zero_le _,rfl,zos.out,zn7.out,?_⟩;rcases HP.out with⟨h1,h2⟩|⟨h1,h2⟩
      ·by_cases h3:i2<ziB-u
       ·exact .inl ⟨h3,h2⟩
       ·obtain⟨k,hk⟩:=HK.out.yes (by omega)
        rw[HNa.out,show ziB-u=i2 from by omega]at hk;have hkn:k<znB:=by
         obtain⟨_,q,_,_,_,hq,_⟩:=hk;have:=(List.getElem?_eq_some_iff.1 hq).1;unfold tL at this;rw[List.length_map,HNb.out]at this;exact this
        exact .inr (.inl ⟨by omega,h2,k,Nat.zero_le _,hkn,hk⟩)
      ·exact .inr (.inr ⟨by omega,h2⟩)
     case round=>
      obtain⟨j,T2,hj,rfl,kk,hbl,hQ⟩:=hrel;have znO:=hid hbl;have zn8:=hid kk;have HQ:=hid hQ;have s0:(0:Int)≤(j:Int):=by omega
      by_cases hlt3:j<znB
      ·have s1:(j:Int)<(znB:Int):=by omega
       obtain⟨r,hr⟩:∃r,(tL s)[i2]?=some r:=⟨_,List.getElem?_eq_getElem (by unfold tL;rw[List.length_map,HNa.out];exact hlt2)⟩;obtain⟨q,hq⟩:∃q,(tL t)[j]?=some q:=⟨_,List.getElem?_eq_getElem (by unfold tL;rw[List.length_map,HNb.out];exact hlt3)⟩;obtain⟨⟨x,xo,xc⟩,hx⟩:∃x,lx[i2]?=some x:=⟨_,List.getElem?_eq_getElem (by have:=HR.out.2.2.1.len;have:=jD.out.1;omega)⟩;obtain⟨⟨y,yo,yc⟩,hy⟩:∃y,ly[j]?=some y:=⟨_,List.getElem?_eq_getElem (by have:=HR.out.2.2.2.1.len;have:=jD.out.2;omega)⟩;have hzx:(znD s)[i2]?=some x:=by
        unfold znD;rw[←H3.out.2.2,List.getElem?_map,hx];rfl
       have Nk:(znD t)[j]?=some y:=by
        unfold znD;rw[←H4.out.2.2,List.getElem?_map,hy];rfl
       obtain⟨ga,fa,hga,h1,_,a1,_⟩:=(HR.out.1.below hbl).cells i2 r hr;obtain⟨gb,fb,hgb,h2,_,b1,_⟩:=(HR.out.2.1.below hbl).cells j q hq;have hx9:=HR.out.2.2.1.below hbl;have lC:=HR.out.2.2.2.1.below hbl;obtain⟨gx,fx,hgx,h3,x0,x1,x2⟩:=hx9.cells i2 _ hx;obtain⟨gy,fy,XK,h4,y0,y1,y2⟩:=lC.cells j _ hy;have hxr:=hx9.rd _ (List.mem_of_getElem? hx);have hyr:=lC.rd _ (List.mem_of_getElem? hy);dsimp only at x0 x1 x2 y0 y1 y2 hxr hyr;have ke:=HR.out.2.2.2.2.1.below hbl;have e0:=ke.cell 0;have e1:=ke.cell 1;have hle:=ke.lt;have k1:=kk.cell 1;have hlk:=kk.lt;have hin:=znH hr;have hjn:=znH hq;have hxp:x.pend.length≤1000000:=Nat.le_trans (zn5 hzx) (by omega);have hyp:y.pend.length≤1000000:=Nat.le_trans (zn5 Nk) (by omega);cases hga;cases hgb;cases hgx;cases XK;have VB:=hid (λW (hW:Below wr.heap.size wr W)=>(⟨(hW.cell (p:=⟨eb,_,none⟩) hle).trans e0,(hW.cell (p:=⟨eb,_,none⟩) hle).trans e1,(hW.cell (p:=⟨kb,_,none⟩) hlk).trans k1,(hW.cell (p:=⟨ga,_,none⟩) h1).trans a1,(hW.cell (p:=⟨gb,_,none⟩) h2).trans b1,(hW.cell (p:=⟨gx,_,none⟩) h3).trans x0,(hW.cell (p:=⟨gx,_,none⟩) h3).trans x1,(hW.cell (p:=⟨gx,_,none⟩) h3).trans x2,(hW.cell (p:=⟨gy,_,none⟩) h4).trans y0,(hW.cell (p:=⟨gy,_,none⟩) h4).trans y1,(hW.cell (p:=⟨gy,_,none⟩) h4).trans y2⟩:W.cell? ⟨eb,0,none⟩=some (.int .i64 (at':Int))∧W.cell? ⟨eb,1,none⟩=some (.string d)∧W.cell? ⟨kb,1,none⟩=some (.int .i64 (T2:Int))∧W.cell? ⟨ga,fa+i2*4+1,none⟩=some (.int .i64 (r.zf:Int))∧W.cell? ⟨gb,fb+j*4+1,none⟩=some (.int .i64 (q.zf:Int))∧W.cell? ⟨gx,fx+i2*3,none⟩=some (.int .i64 (x.await:Int))∧W.cell? ⟨gx,fx+i2*3+1,none⟩=some (.slice xo x.pend.length xc)∧W.cell? ⟨gx,fx+i2*3+2,none⟩=some (.bool x.body)∧W.cell? ⟨gy,fy+j*3,none⟩=some (.int .i64 (y.await:Int))∧W.cell? ⟨gy,fy+j*3+1,none⟩=some (.slice yo y.pend.length yc)∧W.cell? ⟨gy,fy+j*3+2,none⟩=some (.bool y.body)));obtain⟨znI,hSX⟩:∃b,Tc (x.await:Int) (y.await:Int) x.pend y.pend x.body y.body=b:=⟨_,rfl⟩;have HSX:=hid (λW (hW:Below wr.heap.size wr W)=>show Calls Tryz.prog 21 #[.agg #[.int .i64 (x.await:Int),.slice xo x.pend.length xc,.bool x.body],.agg #[.int .i64 (y.await:Int),.slice yo y.pend.length yc,.bool y.body]] W λe w'=>∃v,e=.returned v∧v=.bool znI∧Below wr.heap.size wr w' from(ziv W x.pend y.pend xo yo _ _ xc yc (XC.wW (hxr.below hW).src rfl) (XC.wW (hyr.below hW).src rfl) hxp hyp x.await y.await x.body y.body).mono (λe w' ⟨h1,h2⟩=>⟨_,h1,by rw[hSX],hW.trans (h2.mono hW.size)⟩));have HT:=hid (And.intro hr (And.intro hq (And.intro hzx (And.intro Nk hSX))));obtain⟨B,hB⟩:∃B,B=(decide (T2=0∧at'+d.size≤r.zf∧(r.zf:Int)+t.size-s.size=q.zf)&& znI):=⟨_,rfl⟩;have JJ:=hid hB;clear a1 b1 x0 x1 x2 y0 y1 y2 e0 e1 k1 h1 h2 h3 h4 hle hlk hx9 lC hxr hyr hx hy hzx Nk hr hq kk hbl hQ ke hSX;have p2:(i2:Int)<(Nx:Int):=by have:=jD.out.1;omega
       have s2:(j:Int)<(zor:Int):=by have:=jD.out.2;omega
       have ew1:IntKind.i64.wrap ((at':Int)+(d.size:Int))=(at':Int)+(d.size:Int):=IntWalk.i64_in _ (by omega);have ew2:IntKind.i64.wrap ((r.zf:Int)+(t.size:Int))=(r.zf:Int)+(t.size:Int):=IntWalk.i64_in _ (by omega);have ew3:IntKind.i64.wrap ((r.zf:Int)+(t.size:Int)-(s.size:Int))=(r.zf:Int)+(t.size:Int)-(s.size:Int):=IntWalk.i64_in _ (by omega)
       go_upto_region 17 with fail
       go_cut [108]from 62 to 108 (λv wx=>v=.bool B∧Below wr.heap.size wr wx)
       case first=>
        by_cases g1:T2=0
        ·by_cases g2:at'+d.size≤r.zf
         ·by_cases g3:(r.zf:Int)+t.size-s.size=q.zf
          ·have lJ:B=znI:=by rw[hB,decide_eq_true ⟨g1,g2,g3⟩,Bool.true_and]
           have t1:((T2:Int)==0)=true:=by simp;omega
           have t1':decide ((T2:Int)=0)=true:=by simp;omega
           have t2:decide ((at':Int)+(d.size:Int)≤(r.zf:Int))=true:=by simp;omega
           have u2:(at':Int)+(d.size:Int)≤(r.zf:Int):=by omega
           have t3:((r.zf:Int)+(t.size:Int)-(s.size:Int)==(q.zf:Int))=true:=by simp;omega
           have wP:=hid lJ;clear hB lJ g1 g2 g3
           go_region_held_law (λW=>W.cell? ⟨eb,0,none⟩=some (.int .i64 (at':Int))∧W.cell? ⟨eb,1,none⟩=some (.string d)∧W.cell? ⟨kb,1,none⟩=some (.int .i64 (T2:Int))∧W.cell? ⟨ga,fa+i2*4+1,none⟩=some (.int .i64 (r.zf:Int))∧W.cell? ⟨gb,fb+j*4+1,none⟩=some (.int .i64 (q.zf:Int))∧W.cell? ⟨gx,fx+i2*3,none⟩=some (.int .i64 (x.await:Int))∧W.cell? ⟨gx,fx+i2*3+1,none⟩=some (.slice xo x.pend.length xc)∧W.cell? ⟨gx,fx+i2*3+2,none⟩=some (.bool x.body)∧W.cell? ⟨gy,fy+j*3,none⟩=some (.int .i64 (y.await:Int))∧W.cell? ⟨gy,fy+j*3+1,none⟩=some (.slice yo y.pend.length yc)∧W.cell? ⟨gy,fy+j*3+2,none⟩=some (.bool y.body)) (exact VB.out _ (by first|exact(Below.refl _ _).drew|exact hb8)) ((refine zoq (by rfl) Tryz.func21 (by kernel_rfl) (by kernel_rfl) _ _ (by rfl) [.agg #[.int .i64 (x.await:Int),.slice xo x.pend.length xc,.bool x.body],.agg #[.int .i64 (y.await:Int),.slice yo y.pend.length yc,.bool y.body]] (by rfl) _ (HSX.out _ (Below.refl wr.heap.size wr).drew) ?_;intro v w8 hh;obtain⟨nZ,hb8⟩:=hh;subst nZ))
           all_goals
            go_step;go_step;go_meet;case rel=>exact⟨by rw[wP.out],hb8⟩
          ·have lJ:B=false:=by rw[hB,decide_eq_false (λh=>g3 h.2.2),Bool.false_and]
           have t1:((T2:Int)==0)=true:=by simp;omega
           have t1':decide ((T2:Int)=0)=true:=by simp;omega
           have t2:decide ((at':Int)+(d.size:Int)≤(r.zf:Int))=true:=by simp;omega
           have u2:(at':Int)+(d.size:Int)≤(r.zf:Int):=by omega
           have t3:((r.zf:Int)+(t.size:Int)-(s.size:Int)==(q.zf:Int))=false:=by simp;omega
           have t3':decide ((r.zf:Int)+(t.size:Int)-(s.size:Int)=(q.zf:Int))=false:=by simp;omega
           have wP:=hid lJ;clear hB lJ g1 g2 g3;obtain⟨e0,e1,k1,a1,b1,x0,x1,x2,y0,y1,y2⟩:=VB.out wr (Below.refl _ _)
           go_quiet (fail)
           go_step;go_step;go_meet;case rel=>exact⟨by rw[wP.out],below_drewN (Below.refl _ _) nq⟩
         ·have lJ:B=false:=by rw[hB,decide_eq_false (λh=>g2 h.2.1),Bool.false_and]
          have t1:((T2:Int)==0)=true:=by simp;omega
          have t1':decide ((T2:Int)=0)=true:=by simp;omega
          have t2:decide ((at':Int)+(d.size:Int)≤(r.zf:Int))=false:=by simp;omega
          have u2:¬(at':Int)+(d.size:Int)≤(r.zf:Int):=by omega
          have wP:=hid lJ;clear hB lJ g1 g2;obtain⟨e0,e1,k1,a1,b1,x0,x1,x2,y0,y1,y2⟩:=VB.out wr (Below.refl _ _)
          go_quiet (fail)
          go_step;go_step;go_meet;case rel=>exact⟨by rw[wP.out],below_drewN (Below.refl _ _) nq⟩
        ·have lJ:B=false:=by rw[hB,decide_eq_false (λh=>g1 h.1),Bool.false_and]
         have t1:((T2:Int)==0)=false:=by simp;omega
         have t1':decide ((T2:Int)=0)=false:=by simp;omega
         have wP:=hid lJ;clear hB lJ g1;obtain⟨e0,e1,k1,a1,b1,x0,x1,x2,y0,y1,y2⟩:=VB.out wr (Below.refl _ _)
         go_quiet (fail)
         go_step;go_step;go_meet;case rel=>exact⟨by rw[wP.out],below_drewN (Below.refl _ _) nq⟩
       case rest=>
        obtain⟨rfl,hbc⟩:=hcut;have HBC:=hid (znO.out.trans (hbc.mono znO.out.size));have kk:=zn8.out.below hbc;have HKC:=hid kk;have hM:KM s t at' d.size i2 j↔(at'+d.size≤r.zf∧(r.zf:Int)+t.size-s.size=q.zf∧znI=true):=by
         obtain⟨hr,hq,hzx,Nk,hSX⟩:=HT.out;constructor
         ·rintro⟨r',q',x',g1,g2,g3,g4,g5,g6⟩
          rw[hr]at g1;rw[hq]at g3;rw[hzx]at g5;rw[Nk]at g6;cases g1;cases g3;cases g5;cases g6;exact⟨g2,g4,by rw[←hSX,zn1]⟩
         ·rintro⟨g2,g4,g5⟩
          rw[←hSX,zn1]at g5;subst g5;exact⟨r,q,x,hr,g2,hq,g4,hzx,Nk⟩
        have HMM:=hid hM;clear hM hbc ew1 ew2 ew3 hB
        cases B with
        |false=>
         clear kk;go_wp2
         go_roundw
         case rel=>
          refine⟨j+1,T2,by omega,by go_num,HKC.out,HBC.out,?_⟩;rcases HQ.out with h1|⟨h1,h2,k,h3,h4,h5⟩|h1
          ·exact .inl h1
          ·refine .inr (.inl ⟨h1,h2,k,?_,h4,h5⟩)
           rcases Nat.eq_or_lt_of_le h3 with e|e
           ·subst e
            have h6:=HMM.out.1 h5;have h7:=JJ.out;rw[decide_eq_true ⟨h2,h6.1,h6.2.1⟩,h6.2.2]at h7;exact absurd h7 (by decide)
           ·exact e
          ·exact .inr (.inr h1)
         case measure=>simp[intOf];omega
        |true=>
         have k1:=kk.cell 1;have z1:=kk.frozen 1;clear kk;go_wp2
         go_roundw
         case rel=>
          have h7:=JJ.out.symm;rw[Bool.and_eq_true,decide_eq_true_iff]at h7;obtain⟨⟨h8,h9,h10⟩,h11⟩:=h7;have hkm:=HMM.out.2 ⟨h9,h10,h11⟩;have hno:¬i2<ziB-u:=λhh=>HK.out.no i2 j (by rw[HNa.out];exact hh) hkm;have hiu:(ziB:Int)-(i2:Int)=(u:Int):=by
           rcases HQ.out with h1|⟨h1,_⟩|h1
           ·exact absurd h1.1 hno
           ·have:=HK.out.len;have:=HNa.out;omega
           ·omega
          refine⟨j+1,u,by omega,by go_num,?_,znG HBC.out (by rw[HKB.out];exact Nat.le_refl _) 1 _,.inr (.inr ⟨by omega,rfl⟩)⟩;have h12:=HKC.out.set 1 (.int .i64 ((ziB:Int)-(i2:Int)));rw[hiu]at h12 ⊢;simpa using h12
         case measure=>simp[intOf];omega
      ·have s1:¬(j:Int)<(znB:Int):=by omega
       clear kk hbl hQ;go_wp2
       go_roundw
       case rel=>
        refine⟨i2+1,T2,by omega,by go_num,zn8.out,znO.out,?_⟩;rcases HQ.out with h1|⟨h1,h2,k,h3,h4,h5⟩|h1
        ·exact .inl ⟨by omega,h1.2⟩
        ·omega
        ·exact .inr ⟨by omega,h1.2⟩
       case measure=>simp[intOf];omega
    ·have p1:¬(i2:Int)<(ziB:Int):=by omega
     have hTu:T=u:=by
      have:=HK.out.len;have:=HNa.out;rcases HP.out with⟨h1,h2⟩|⟨h1,h2⟩
      ·omega
      ·exact h2
     subst hTu;have k0:=kk.cell 0;have k1:=kk.cell 1;have krw:=HR.out.2.2.2.2.2.below hbl;have Jt:=hid krw;have r0:=krw.cell 0;have r1:=krw.cell 1;have f0:=krw.frozen 0;have f1:=krw.frozen 1;have hrk:rb≠kb:=by omega
     clear kk hbl hP krw;go_wp2;have hge:w.heap.size≤rb:=by have:=HB0.out.2.2.2.1;have:=HB0.out.2.2.2.2;omega
     refine bodyPost_ret (v:=.agg #[.int .i64 (h:Int),.int .i64 (T:Int)]) (by simp[results,Tryz.results17,go_sem, *]) rfl ?_;exact⟨rfl,znG (znG (HE.out.trans (zn7.out.mono HE.out.size)) hge 0 _) hge 1 _⟩
end Go.Proofs.YtdjcidackkogjaaGreatDoor

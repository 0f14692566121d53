/- What the document's own Ahead of layer 10 (relex)  -/
import Derived.Test.YtdjcidackkogjaaGreatDoorQn
namespace Go.Proofs.YtdjcidackkogjaaGreatDoor
set_option linter.unusedVariables false
open Lib(hid)
set_option maxHeartbeats 8000000
set_option maxRecDepth 100000
open Go Go.RowKit
theorem znC{w0 w:World}(h:Below w0.heap.size w0 w)(o:Obj):Below w0.heap.size w0 (w.alloc o):=h.alloc h.size o
theorem znI{w0 w:World}{b:Nat}(h:Below w0.heap.size w0 w)(hb:w0.heap.size≤b)(o:Nat)(u:Value):Below w0.heap.size w0 (w.setCell ⟨b,o,none⟩ u):=
 h.trans ((zg.setCell (p:=λj=>j=b) (zg.refl _ w) o (.inl rfl) u).below h.size (λj hj=>by rw[hj];exact hb))
def ziJ(p:Lx×Option Addr×Nat):List Value:=[.int .i64 (p.1.await:Int),.slice p.2.1 p.1.pend.length p.2.2,.bool p.1.body]
def ziB(l:List (Lx×Option Addr×Nat)):List Value:=l.flatMap ziJ
theorem znJ(l k:List (Lx×Option Addr×Nat)):ziB (l++k)=ziB l++ziB k:=by unfold ziB;rw[List.flatMap_append]
theorem znK(x:Lx×Option Addr×Nat):∀u∈ziJ x,u.oneCell'=true:=by
 intro u hu;simp[ziJ]at hu;rcases hu with rfl|rfl|rfl<;>rfl
theorem znE:∀(l:List (Lx×Option Addr×Nat)) (j k:Nat) (t:Lx×Option Addr×Nat),l[j]?=some t→k<3→(ziB l)[j*3+k]?=(ziJ t)[k]?
 | [],j,k,t,h,_=>by cases h
 |a::l,0,k,t,h,hk=>by
  cases h;show(ziJ a++ziB l)[0*3+k]?=_;rw[List.getElem?_append_left (by show 0*3+k<3;omega),Nat.zero_mul,Nat.zero_add]
 |a::l,j+1,k,t,h,hk=>by
  show(ziJ a++ziB l)[(j+1)*3+k]?=_;rw[List.getElem?_append_right (by show 3≤_;omega),show(j+1)*3+k-(ziJ a).length=j*3+k from by show(j+1)*3+k-3=_;omega];exact znE l j k t h hk
theorem znL:(Tryz.prog.info? 50).map (λi=>(i.zero,i.size,i.bytes))=some (some (.agg #[.int .i64 0,.slice none 0 0,.bool false]),3,40):=by kernel_rfl
structure OkX(W:World)(z:Nat)(vb:Option Nat)(p:Lx×Option Addr×Nat):Prop where
 rd:yR W (.slice p.2.1 p.1.pend.length p.2.2) p.1
 ap:∀g,(Value.slice p.2.1 p.1.pend.length p.2.2).ownBlock=some g→vb≠some g∧z≤g∧g<W.heap.size
theorem OkX.zf{P:Nat→Prop}{W W':World}{z:Nat}{vb vb':Option Nat}{p:Lx×Option Addr×Nat}(h:OkX W z vb p)(hf:zg P W W')(hp:∀g,z≤g→vb≠some g→g<W.heap.size→¬P g∧vb'≠some g):OkX W' z vb' p:=
 ⟨⟨h.rd.src.zf hf (λg hg=>by have:=h.ap g hg;exact(hp g this.2.1 this.1 this.2.2).1),h.rd.cap⟩,λg hg=>by
  have:=h.ap g hg;exact⟨(hp g this.2.1 this.1 this.2.2).2,this.2.1,Nat.lt_of_lt_of_le this.2.2 hf.size⟩⟩
def AhC(W:World)(y:Lx)(xv:Value)(wx:World)(v:Value):Prop:=
 ∃(yb:Nat) (yo:Option Addr) (yc:Nat),v=.pointer (some ⟨yb,0,none⟩)∧zh wx yb #[.int .i64 (y.await:Int),.slice yo y.pend.length yc,.bool y.body] 50∧yR wx (.slice yo y.pend.length yc) y∧Below W.heap.size W wx∧W.heap.size≤yb∧(∀g,(Value.slice yo y.pend.length yc).ownBlock=some g→xv.ownBlock=some g∨(W.heap.size≤g∧g≠yb))
theorem znM{w:World}{base base':Nat}{e:TypeId}{size n:Nat}{v:Value}{xs:List Value}(h:w.ownsRow base e size v n xs)(hb:base'≤base):w.ownsRow base' e size v n xs:=by
 obtain⟨h1,h2⟩:=h;refine⟨h1,?_⟩;rcases h2 with h|⟨g,cap,cur,e1,e2,e3⟩
 ·exact .inl h
 ·exact .inr ⟨g,cap,cur,e1,Nat.le_trans hb e2,e3⟩
theorem znN{W:World}{b:Nat}{p:Lx×Option Addr×Nat}(h:zh W b #[.int .i64 (p.1.await:Int),.slice p.2.1 p.1.pend.length p.2.2,.bool p.1.body] 50):Src W (.slice (some ⟨b,0,none⟩) 1 1) 1 (ziJ p):=by
 refine .inr ⟨b,0,1,rfl,h.lt,λj u hj=>?_⟩;have e:=h.cell (0+j);rw[e];have e2:(#[.int .i64 (p.1.await:Int),.slice p.2.1 p.1.pend.length p.2.2,.bool p.1.body]:Array Value)[0+j]?=(ziJ p)[j]?:=by
  rw[Nat.zero_add,←Array.getElem?_toList];rfl
 rw[e2];exact hj
theorem znA{wr w4 wx:World}{y:Lx}{xv:Value}{yo:Option Addr}{yc:Nat}(tb yb N:Nat)(hF:zg (λj=>j=tb∨j=yb) w4 wx)(hk:zh wx yb #[.int .i64 (y.await:Int),.slice yo y.pend.length yc,.bool y.body] 50)(hL:yR w4 (.slice yo y.pend.length yc) y)(hb:Below wr.heap.size wr w4)(htb:wr.heap.size≤tb)(hyb:wr.heap.size≤yb)(hx:∀g,xv.ownBlock=some g→g<wr.heap.size)(hy:∀g,(Value.slice yo y.pend.length yc).ownBlock=some g→xv.ownBlock=some g∨N≤g)(ht:tb<N∨w4.heap.size≤tb)(hyy:yb<N∨w4.heap.size≤yb)(hN:wr.heap.size≤N):AhC wr y xv wx (.pointer (some ⟨yb,0,none⟩)):=by
 have hg:∀g,(Value.slice yo y.pend.length yc).ownBlock=some g→g<w4.heap.size∧g≠tb∧g≠yb:=λg hg=>by
  have h1:=Yv hL.src g hg;have h2:=(hy g hg).imp (hx g) id;exact⟨h1,by omega,by omega⟩
 refine⟨yb,yo,yc,rfl,hk,⟨hL.src.zf hF (λg h=>by have:=hg g h;omega),hL.cap⟩,hb.trans (hF.below hb.size (λj hj=>by omega)),hyb,λg h=>?_⟩;by_cases h9:xv.ownBlock=some g
 ·exact .inl h9
 ·have h2:=hy g h
  have h3:=hg g h;refine .inr ⟨?_,h3.2.2⟩;rcases h2 with h2|h2
  ·exact absurd h2 h9
  ·omega
def AhI(s:ByteArray)(w:World)(xb z:Nat)(v6 v7:Value)(wr:World):Prop:=
 ∃(a:Nat) (x:Lx) (pre:List (Tk×Lx)) (xo:Option Addr) (xc:Nat) (l:List (Lx×Option Addr×Nat)) (ov:Option Addr) (cv:Nat),v6=.slice ov (pre.length+1) cv∧v7=.int .i64 (pre.length:Int)∧a≤s.size∧ui s=pre++vO s (s.size-a) a x∧l.map Prod.fst=Lx.zero::pre.map Prod.snd∧wr.ownsRow z 50 3 (.slice ov (pre.length+1) cv) (pre.length+1) (ziB l)∧
  zh wr xb #[.int .i64 (x.await:Int),.slice xo x.pend.length xc,.bool x.body] 50∧(∀p∈l,OkX wr z (Value.slice ov (pre.length+1) cv).ownBlock p)∧OkX wr z (Value.slice ov (pre.length+1) cv).ownBlock (x,xo,xc)∧(x.body=true→x.pend≠ [])∧x.await≤1000∧x.pend.length≤a∧Below w.heap.size w wr∧z≤wr.heap.size∧pre.length≤a∧xb<z
theorem znO(w:World)(s:ByteArray)(hs:s.size≤900):Calls Tryz.prog 19 #[.string s] w λe w'=>∃v l,e=.returned v∧l.map Prod.fst=Lx.zero::(ui s).map Prod.snd∧w'.ownsRow w.heap.size 50 3 v ((ui s).length+1) (ziB l)∧(∀p∈l,yR w' (.slice p.2.1 p.1.pend.length p.2.2) p.1)∧Below w.heap.size w w':=by
 have HR:=hid (AX w s hs);go_enter Tryz.func19,Tryz.ntmps19
 go_wp2_with fail
 refine(HR.out).mono ?_;rintro e w1 ⟨v,oa,n,c,rfl,ho,hL,hb1⟩;obtain⟨ot,ct,rfl,hK⟩:=ZL.uT (by rw[List.length_map]) ho;unfold zD;have HK:=hid (And.intro hK hb1);clear ho hL hK hb1
 go_upto_region 5 with fail
 obtain⟨xb,hxb⟩:∃q,w1.heap.size+1=q:=⟨_,rfl⟩;obtain⟨z,hz⟩:∃q,xb+1=q:=⟨_,rfl⟩;have hB0:Below w1.heap.size w1 (((w1.alloc (.cells #[.int .i64 ((XD (ui s)).await:Int),.slice oa n c,.bool (XD (ui s)).body] 50)).alloc (.cells #[.int .i64 0,.slice none 0 0,.bool false] 50)).alloc (.cells #[.int .i64 0,.slice none 0 0,.bool false] 50)):=znC (znC (znC (Below.refl _ _) _) _) _;have kx0:=(xU w1 (.cells #[.int .i64 ((XD (ui s)).await:Int),.slice oa n c,.bool (XD (ui s)).body] 50) #[.int .i64 0,.slice none 0 0,.bool false] 50).alloc (.cells #[.int .i64 0,.slice none 0 0,.bool false] 50);have kz0:=zh.new ((w1.alloc (.cells #[.int .i64 ((XD (ui s)).await:Int),.slice oa n c,.bool (XD (ui s)).body] 50)).alloc (.cells #[.int .i64 0,.slice none 0 0,.bool false] 50)) #[.int .i64 0,.slice none 0 0,.bool false] 50;rw[World.size_alloc,World.size_alloc,hxb,hz]at kz0;rw[hxb]at kx0;obtain⟨W0,hW0⟩:∃X,((w1.alloc (.cells #[.int .i64 ((XD (ui s)).await:Int),.slice oa n c,.bool (XD (ui s)).body] 50)).alloc (.cells #[.int .i64 0,.slice none 0 0,.bool false] 50)).alloc (.cells #[.int .i64 0,.slice none 0 0,.bool false] 50)=X:=⟨_,rfl⟩;have hzs:W0.heap.size=z+1:=by rw[←hW0];simp;omega
 have hwz:w1.heap.size+2=z:=by omega
 rw[hW0]at hB0 kx0 kz0;have HK0:=hid (And.intro hB0 (And.intro kx0 (And.intro kz0 (And.intro hzs hwz))));have hxz:xb<z:=by omega
 have hxw:w1.heap.size<xb:=by omega
 have e1:w1.heap.size+1+1=z:=by omega
 rw[hW0,e1,hxb];have HXB:=hid (And.intro hxb hz);clear hxb hz e1 hW0 hB0 kx0 kz0 hzs hwz;obtain⟨Nt9,znD⟩:∃k,(ui s).length=k:=⟨_,rfl⟩;rw[znD];have znF:=hid znD;clear znD
 go_loopw [6,7] (λv6 v7 wr=>AhI s w1 xb z v6 v7 wr) (λ_ v _=>Nt9-(intOf v).toNat)
 case atStart=>
  obtain⟨hB0,kx0,kz0,hzs,hwz⟩:=HK0.out;have hok:∀vb,OkX W0 z vb (Lx.zero,none,0):=λvb=>⟨⟨.inl ⟨rfl,rfl,rfl⟩,⟨none,0,rfl,Nat.le_refl _⟩⟩,λg hg=>by cases hg⟩;exact⟨0,Lx.zero,[],none,0,[(Lx.zero,none,0)],_,_,rfl,rfl,Nat.zero_le _,rfl,rfl,⟨rfl,.inr ⟨z,1,_,rfl,Nat.le_refl _,kz0,Nat.le_refl _,by decide,rfl,rfl⟩⟩,kx0,λp hp=>by
   have e:p=(Lx.zero,none,0):=by simpa using hp
   subst e;exact hok _,hok _,(λh=>by cases h),Nat.zero_le _,Nat.zero_le _,hB0,by omega,Nat.zero_le _,hxz⟩
 case round=>
  obtain⟨a,x,pre,xo,xc,l,ov,cv,rfl,rfl,has,lg,hlf,hown,hx,hol,hox,hbd,haw,hpl,hBw,hzw,zbF,_⟩:=hrel;obtain⟨i,hi⟩:∃i,pre.length=i:=⟨_,rfl⟩;rw[hi]at hown hol hox zbF ⊢;obtain⟨i1,hi1⟩:∃k,i+1=k:=⟨_,rfl⟩;rw[hi1]at hown hol hox ⊢;have HI:=hid (And.intro hi (And.intro lg (And.intro hlf hi1)));have HO:=hid (And.intro hown (And.intro hol hox));have HX:=hid hx;have yg:=hid hBw;have x0:=hx.cell 0;have x1:=hx.cell 1;have x2:=hx.cell 2;by_cases hlt:a<s.size
  ·have hlx:=Nh x hlt
   have hok:=jB x hlt;have hnk:=OA x hlt hpl haw;have hnb:=zmg (s:=s) (a:=a) hbd;rw[hlx]at lg;have htk:((ui s).map Prod.fst)[i]?=some (zo s a x):=by
    rw[lg,List.map_append,List.getElem?_append_right (by rw[List.length_map];omega),List.length_map,hi,Nat.sub_self];rfl
   have hin:i<Nt9:=by
    have:=(List.getElem?_eq_some_iff.1 htk).1;rw[List.length_map,znF.out]at this;exact this
   obtain⟨tb,to',hot,htb,_,ht1,_⟩:=(HK.out.1.below hBw).cells i _ htk;rw[hok.1]at ht1;have htw:tb<wr.heap.size:=htb;obtain⟨y,hy⟩:∃y,zy s a x=y:=⟨_,rfl⟩;obtain⟨t,ht⟩:∃t,zo s a x=t:=⟨_,rfl⟩;have hst:=zl8 wr x xo _ xc (hox.rd) s a hlt (by omega) hbd haw (by omega);have HST:=hid (λW (hW:Below wr.heap.size wr W)=>show Calls Tryz.prog 36 #[.string s,.int .i64 (a:Int),.agg #[.int .i64 (x.await:Int),.slice xo x.pend.length xc,.bool x.body]] W λe w'=>∃v,e=.returned v∧∃yo yc,v=.tuple #[.agg #[.int .i64 (t.kind:Int),.int .i64 (t.zf:Int),.int .i64 (t.en:Int),.bool t.op],.agg #[.int .i64 (y.await:Int),.slice yo y.pend.length yc,.bool y.body]]∧yR w' (.slice yo y.pend.length yc) y∧Below W.heap.size W w'∧Below wr.heap.size wr w'∧(∀g,(Value.slice yo y.pend.length yc).ownBlock=some g→(Value.slice xo x.pend.length xc).ownBlock=some g∨W.heap.size≤g)from
    (zl8 W x xo _ xc (hox.rd.below hW) s a hlt (by omega) hbd haw (by omega)).mono (λe w' ⟨o2,n2,c2,h1,h2,h3,h4⟩=>by
     rw[hy]at h1 h2;rw[ht]at h1;obtain⟨o3,c3,e3,_⟩:=h2.cap;cases e3;exact⟨_,h1,o2,c2,rfl,h2,h3,hW.trans (h3.mono hW.size),λg hg=>h4 g hg⟩))
   have yS:=hid (λW (hW:Below wr.heap.size wr W)=>(⟨(hW.cell (p:=⟨tb,_,none⟩) htw).trans ht1,(hx.below hW).cell 0,(hx.below hW).cell 1,(hx.below hW).cell 2⟩:W.cell? ⟨tb,to'+i*4+1,none⟩=some (.int .i64 (a:Int))∧W.cell? ⟨xb,0,none⟩=some (.int .i64 (x.await:Int))∧W.cell? ⟨xb,1,none⟩=some (.slice xo x.pend.length xc)∧W.cell? ⟨xb,2,none⟩=some (.bool x.body)));have q0:(0:Int)≤(i:Int):=by omega
   have q1:(i:Int)<(Nt9:Int):=by omega
   have HN:=hid (And.intro hok (And.intro hnk (And.intro hnb (And.intro hlx htk))));have HTY:=hid (And.intro ht hy);cases hot;have HXO:=hid (λg hg=>(hox.ap g hg).2.2);clear hst hlx hok hnk hnb htk ht1 htb hy ht hox hol hown hx lg hlf hi hi1 hbd
   go_upto_region 7 with fail
   go_cut [9]from 24 to 34 (λv wx=>AhC wr y (.slice xo x.pend.length xc) wx v)
   case first=>
    go_region_held_law (λW=>W.cell? ⟨tb,to'+i*4+1,none⟩=some (.int .i64 (a:Int))∧W.cell? ⟨xb,0,none⟩=some (.int .i64 (x.await:Int))∧W.cell? ⟨xb,1,none⟩=some (.slice xo x.pend.length xc)∧W.cell? ⟨xb,2,none⟩=some (.bool x.body)) (exact yS.out _ (by(repeat(with_reducible (first|exact zA|exact(Below.refl _ _).drew|exact Below.refl _ _|refine Below.drew ?_|refine znC ?_ _|refine znI ?_ (by omega) _ _))))) (
     (refine um (by rfl) Tryz.func36 (by kernel_rfl) (by kernel_rfl) _ _ (by rfl) [.string s,.int .i64 (a:Int),.agg #[.int .i64 (x.await:Int),.slice xo x.pend.length xc,.bool x.body]] (by rfl) _ (HST.out _ (by(repeat(with_reducible (first|exact(Below.refl _ _).drew|exact Below.refl _ _|refine Below.drew ?_|refine znC ?_ _))))) ?_;intro v w4 hh;obtain⟨yo,yc,hv4,hL4,hb4,zA,hy4⟩:=hh;subst hv4;have znG:=hb4.size;(try rw[World.size_drew,World.size_alloc,World.size_alloc]at znG);(try rw[World.size_drew,World.size_alloc]at znG);first
      |(have kt:zh w4 wr.heap.size #[.int .i64 0,.int .i64 0,.int .i64 0,.bool false] 44:=(by with_reducible exact((zh.new wr #[.int .i64 0,.int .i64 0,.int .i64 0,.bool false] 44).drew).below hb4));have ktz:=kt.alloc (.cells #[.int .i64 0,.slice none 0 0,.bool false] 50);have znU:=ktz.cell 0;have znV:=ktz.frozen 0;have znW:=ktz.cell 1;have znX:=ktz.frozen 1;have znY:=ktz.cell 2;have znZ:=ktz.frozen 2;have zn0:=ktz.cell 3;have zn1:=ktz.frozen 3;clear ktz
      |(have ky:zh w4 wr.heap.size #[.int .i64 0,.slice none 0 0,.bool false] 50:=(by with_reducible exact((zh.new wr #[.int .i64 0,.slice none 0 0,.bool false] 50).drew).below hb4));have kyz:=ky.alloc (.cells #[.int .i64 (t.kind:Int),.int .i64 (t.zf:Int),.int .i64 (t.en:Int),.bool t.op] 44);have zn2:=kyz.cell 0;have zn3:=kyz.frozen 0;have zn4:=kyz.cell 1;have zn5:=kyz.frozen 1;have zn6:=kyz.cell 2;have zn7:=kyz.frozen 2;clear kyz
      |(have kt:zh w4 wr.heap.size #[.int .i64 0,.int .i64 0,.int .i64 0,.bool false] 44:=(by with_reducible exact(((zh.new wr #[.int .i64 0,.int .i64 0,.int .i64 0,.bool false] 44).alloc _).drew).below hb4);have ky:zh w4 (wr.heap.size+1) #[.int .i64 0,.slice none 0 0,.bool false] 50:=(by have h9:=((zh.new (wr.alloc (.cells #[.int .i64 0,.int .i64 0,.int .i64 0,.bool false] 44)) #[.int .i64 0,.slice none 0 0,.bool false] 50).drew).below hb4;rw[World.size_alloc]at h9;exact h9));have zaE:=kt.cell 0;have zaH:=kt.frozen 0;have zaF:=kt.cell 1;have zaI:=kt.frozen 1;have zaG:=kt.cell 2;have zaJ:=kt.frozen 2;have zjR:=kt.cell 3;have zjS:=kt.frozen 3;have zm9:=ky.cell 0;have znc:=ky.frozen 0;have zna:=ky.cell 1;have znd:=ky.frozen 1;have znb:=ky.cell 2;have zne:=ky.frozen 2
      |(have ky:zh w4 wr.heap.size #[.int .i64 0,.slice none 0 0,.bool false] 50:=(by with_reducible exact(((zh.new wr #[.int .i64 0,.slice none 0 0,.bool false] 50).alloc _).drew).below hb4);have kt:zh w4 (wr.heap.size+1) #[.int .i64 0,.int .i64 0,.int .i64 0,.bool false] 44:=(by have h9:=((zh.new (wr.alloc (.cells #[.int .i64 0,.slice none 0 0,.bool false] 50)) #[.int .i64 0,.int .i64 0,.int .i64 0,.bool false] 44).drew).below hb4;rw[World.size_alloc]at h9;exact h9));have zaE:=kt.cell 0;have zaH:=kt.frozen 0;have zaF:=kt.cell 1;have zaI:=kt.frozen 1;have zaG:=kt.cell 2;have zaJ:=kt.frozen 2;have zjR:=kt.cell 3;have zjS:=kt.frozen 3;have zm9:=ky.cell 0;have znc:=ky.frozen 0;have zna:=ky.cell 1;have znd:=ky.frozen 1;have znb:=ky.cell 2;have zne:=ky.frozen 2
      |(have h9:Below wr.drew.heap.size wr.drew w4:=by with_reducible exact hb4)))
    all_goals
     go_step;go_step;go_meet
     case rel=>
      have znB:=HXO.out
      first
       |with_reducible exact znA (w4.heap.size) (w4.heap.size+1) _ (by(repeat(with_reducible (first|exact zg.refl _ _|refine zg.alloc ?_ _|refine zg.setCell ?_ _ (by simp) _)))) (by have h9:=zh.new (w4.alloc (.cells #[.int .i64 (t.kind:Int),.int .i64 (t.zf:Int),.int .i64 (t.en:Int),.bool t.op] 44)) #[.int .i64 (y.await:Int),.slice yo y.pend.length yc,.bool y.body] 50;rw[World.size_alloc]at h9;exact h9) hL4 zA zA.size (by have:=zA.size;omega) znB hy4 (.inr (Nat.le_refl _)) (.inr (Nat.le_succ _)) (by(try rw[World.size_drew]);(try rw[World.size_alloc]);(try rw[World.size_alloc]);omega)
       |with_reducible exact znA (w4.heap.size+1) (w4.heap.size) _ (by(repeat(with_reducible (first|exact zg.refl _ _|refine zg.alloc ?_ _|refine zg.setCell ?_ _ (by simp) _)))) ((zh.new w4 #[.int .i64 (y.await:Int),.slice yo y.pend.length yc,.bool y.body] 50).alloc _) hL4 zA (by have:=zA.size;omega) zA.size znB hy4 (.inr (Nat.le_succ _)) (.inr (Nat.le_refl _)) (by(try rw[World.size_drew]);(try rw[World.size_alloc]);(try rw[World.size_alloc]);omega)
       |with_reducible exact znA (wr.heap.size) (w4.heap.size) _ (by(repeat(with_reducible (first|exact zg.refl _ _|refine zg.alloc ?_ _|refine zg.setCell ?_ _ (by simp) _)))) (by have h9:=((((((((zh.new w4 #[.int .i64 0,.slice none 0 0,.bool false] 50).other 0 (.int .i64 (t.kind:Int)) (by omega:w4.heap.size≠wr.heap.size)).other 1 (.int .i64 (t.zf:Int)) (by omega:w4.heap.size≠wr.heap.size)).other 2 (.int .i64 (t.en:Int)) (by omega:w4.heap.size≠wr.heap.size)).other 3 (.bool t.op) (by omega:w4.heap.size≠wr.heap.size)).set 0 (.int .i64 (y.await:Int))).set 1 (.slice yo y.pend.length yc)).set 2 (.bool y.body));simpa using h9) hL4 zA (Nat.le_refl _) zA.size znB hy4 (.inl (by rw[World.size_drew,World.size_alloc];omega)) (.inr (Nat.le_refl _)) (by(try rw[World.size_drew]);(try rw[World.size_alloc]);(try rw[World.size_alloc]);omega)
       |with_reducible exact znA (wr.heap.size) (wr.heap.size+1) _ (by(repeat(with_reducible (first|exact zg.refl _ _|refine zg.alloc ?_ _|refine zg.setCell ?_ _ (by simp) _)))) (by have h9:=(((((((ky.other 0 (.int .i64 (t.kind:Int)) (by omega:wr.heap.size+1≠wr.heap.size)).other 1 (.int .i64 (t.zf:Int)) (by omega:wr.heap.size+1≠wr.heap.size)).other 2 (.int .i64 (t.en:Int)) (by omega:wr.heap.size+1≠wr.heap.size)).other 3 (.bool t.op) (by omega:wr.heap.size+1≠wr.heap.size)).set 0 (.int .i64 (y.await:Int))).set 1 (.slice yo y.pend.length yc)).set 2 (.bool y.body));simpa using h9) hL4 zA (Nat.le_refl _) (Nat.le_succ _) znB hy4 (.inl (by rw[World.size_drew,World.size_alloc,World.size_alloc];omega)) (.inl (by rw[World.size_drew,World.size_alloc,World.size_alloc];omega)) (by(try rw[World.size_drew]);(try rw[World.size_alloc]);(try rw[World.size_alloc]);omega)
       |with_reducible exact znA (w4.heap.size) (wr.heap.size) _ (by(repeat(with_reducible (first|exact zg.refl _ _|refine zg.alloc ?_ _|refine zg.setCell ?_ _ (by simp) _)))) (by have h9:=(((ky.alloc (.cells #[.int .i64 (t.kind:Int),.int .i64 (t.zf:Int),.int .i64 (t.en:Int),.bool t.op] 44)).set 0 (.int .i64 (y.await:Int))).set 1 (.slice yo y.pend.length yc)).set 2 (.bool y.body);simpa using h9) hL4 zA zA.size (Nat.le_refl _) znB hy4 (.inr (Nat.le_refl _)) (.inl (by rw[World.size_drew,World.size_alloc];omega)) (by(try rw[World.size_drew]);(try rw[World.size_alloc]);(try rw[World.size_alloc]);omega)
       |with_reducible exact znA (wr.heap.size+1) (wr.heap.size) _ (by(repeat(with_reducible (first|exact zg.refl _ _|refine zg.alloc ?_ _|refine zg.setCell ?_ _ (by simp) _)))) (by have h9:=(((((((ky.other 0 (.int .i64 (t.kind:Int)) (by omega:wr.heap.size≠wr.heap.size+1)).other 1 (.int .i64 (t.zf:Int)) (by omega:wr.heap.size≠wr.heap.size+1)).other 2 (.int .i64 (t.en:Int)) (by omega:wr.heap.size≠wr.heap.size+1)).other 3 (.bool t.op) (by omega:wr.heap.size≠wr.heap.size+1)).set 0 (.int .i64 (y.await:Int))).set 1 (.slice yo y.pend.length yc)).set 2 (.bool y.body));simpa using h9) hL4 zA (Nat.le_succ _) (Nat.le_refl _) znB hy4 (.inl (by rw[World.size_drew,World.size_alloc,World.size_alloc];omega)) (.inl (by rw[World.size_drew,World.size_alloc,World.size_alloc];omega)) (by(try rw[World.size_drew]);(try rw[World.size_alloc]);(try rw[World.size_alloc]);omega)
       |(trace_state;fail "rel")
   case rest=>
    obtain⟨yb,yo,yc,rfl,kyb,hLy,uK,hyb,hyo⟩:=hcut;have hO:=HO.out;have hvl:∀g,(Value.slice ov i1 cv).ownBlock=some g→z≤g∧g<wr.heap.size:=λg hg=>⟨yH hO.1 g hg,ji hO.1 g hg⟩;have HVL:=hid hvl;have XH:=vM hO.1 (uK.trans ((Below.refl wc.heap.size wc).alloc (Nat.le_refl _) (.cells #[.int .i64 (y.await:Int),.slice yo y.pend.length yc,.bool y.body] 50)|>.mono uK.size));have HOW:=hid XH;have HC:=hid (And.intro kyb (And.intro hLy (And.intro uK (And.intro hyb hyo))));have c0:=kyb.cell 0;have c1:=kyb.cell 1;have c2:=kyb.cell 2;have zn8:z≤wc.heap.size:=by have:=uK.size;omega
    have hi9:i≤900:=by omega
    clear hvl XH kyb hLy uK hyo hO
    go_wp2_with (at_builtin;refine jh rfl _ _ 46 50 3 40 _ rfl Tryz.underlying46 znL rfl (by omega) (by omega) z (.slice ov i1 cv) i1 (ziB l) rfl HOW.out _ 1 (ziJ (y,yo,yc)) rfl (znN (p:=(y,yo,yc)) (zh.new wc _ _)) rfl (znK _) (by have:=HI.out.2.2.2;omega) (by rw[World.size_alloc];omega) (i1+1) rfl ?_;intro uQ c9 w9 jg Zj Vw;have ky9:=(HC.out.1.alloc (.cells #[.int .i64 (y.await:Int),.slice yo y.pend.length yc,.bool y.body] 50)).grown Zj (λe=>by have:=HVL.out yb e.symm;have:=HC.out.2.2.2.1;omega);have kx9:=((HX.out.below HC.out.2.2.1).alloc (.cells #[.int .i64 (y.await:Int),.slice yo y.pend.length yc,.bool y.body] 50)).grown Zj (λe=>by have:=(HVL.out xb e.symm).1;omega);have y0:=ky9.cell 0;have y1:=ky9.cell 1;have y2:=ky9.cell 2;have z0:=kx9.cell 0;have z1:=kx9.cell 1;have z2:=kx9.cell 2;have f0:=kx9.frozen 0;have f1:=kx9.frozen 1;have f2:=kx9.frozen 2;have VB:=hid kx9;have HR9:=hid (And.intro jg (And.intro Zj Vw));clear ky9 kx9 jg Zj Vw)
    go_roundw
    case rel=>
     obtain⟨hok,hnk,hnb,hlx,_⟩:=HN.out;rw[HTY.out.1]at hok hnk hlx;rw[HTY.out.2]at hnk hnb hlx;obtain⟨hi,lg,hlf,hi1⟩:=HI.out;obtain⟨_,hol,hox⟩:=HO.out;obtain⟨_,hLy,uK,_,hyo⟩:=HC.out;obtain⟨jg,Zj,Vw⟩:=HR9.out;have F1:zg (λj=>(Value.slice ov i1 cv).ownBlock=some j∨j=xb) wr wc:=(zg.of_below (p:=λ_=>False) uK).mono (λ_ _ h=>h.elim);have F2:zg (λj=>(Value.slice ov i1 cv).ownBlock=some j∨j=xb) wc (((w9.setCell ⟨xb,0,none⟩ (.int .i64 (y.await:Int))).setCell ⟨xb,1,none⟩ (.slice yo y.pend.length yc)).setCell ⟨xb,2,none⟩ (.bool y.body)):=(((((zg.refl _ wc).alloc _).grown Zj (λk hk=> .inl (.inl hk))).setCell 0 (.inl (.inr rfl)) _).setCell 1 (.inl (.inr rfl)) _).setCell 2 (.inl (.inr rfl)) _;have F12:=F1.trans F2 (λ_ _ h=>h);have F3:zg (λj=>j=xb) w9 (((w9.setCell ⟨xb,0,none⟩ (.int .i64 (y.await:Int))).setCell ⟨xb,1,none⟩ (.slice yo y.pend.length yc)).setCell ⟨xb,2,none⟩ (.bool y.body)):=(((zg.refl _ w9).put 0 _).put 1 _).put 2 _;have hwc:wr.heap.size≤wc.heap.size:=uK.size;have hnew:∀g,g<wc.heap.size→(Value.slice ov i1 cv).ownBlock≠some g→(Value.slice uQ (i1+1) c9).ownBlock≠some g:=λg h1 h2 h3=>by
      rcases Vw with h|h
      ·exact h2 (h.symm.trans h3)
      ·rw[h3,World.size_alloc]at h
       injection h with h;omega
     have hoy:OkX wc z (Value.slice ov i1 cv).ownBlock (y,yo,yc):=⟨hLy,λg hg=>by
      have h1:=Yv hLy.src g hg;rcases hyo g hg with h|h
      ·have h2:=hox.ap g h
       exact⟨h2.1,h2.2.1,h1⟩
      ·exact⟨λe=>by have:=HVL.out g e;omega,by omega,h1⟩⟩
     have znH:=hoy.zf (vb':=(Value.slice uQ (i1+1) c9).ownBlock) F2 (λg h1 h2 h3=>⟨λh=>h.elim (λh=>h2 h) (λh=>by omega),hnew g h3 h2⟩);have hpl':(pre++ [(t,y)]).length=i1:=by rw[List.length_append,hi];exact hi1
     have hkx:zh (((w9.setCell ⟨xb,0,none⟩ (.int .i64 (y.await:Int))).setCell ⟨xb,1,none⟩ (.slice yo y.pend.length yc)).setCell ⟨xb,2,none⟩ (.bool y.body)) xb #[.int .i64 (y.await:Int),.slice yo y.pend.length yc,.bool y.body] 50:=by
      have h9:=((VB.out.set 0 (.int .i64 (y.await:Int))).set 1 (.slice yo y.pend.length yc)).set 2 (.bool y.body);simpa using h9
     refine⟨t.en,y,pre++ [(t,y)],yo,yc,l++ [(y,yo,yc)],uQ,c9,by rw[hpl'],by rw[hpl',←hi1];go_num,hok.2.2,?_,?_,?_,hkx,?_,?_,hnb,hnk.2,hnk.1,yg.out.trans (F12.below yg.out.size (λj hj=>?_)),Nat.le_trans (by omega) F12.size,?_,by assumption⟩
     ·rw[lg,hlx,List.append_assoc];rfl
     ·rw[List.map_append,hlf,List.map_append];rfl
     ·rw[hpl',znJ,show ziB [(y,yo,yc)]=ziJ (y,yo,yc)from by simp[ziB]]
      exact zQ F3 jg (λk hk=>by have:=yH jg k hk;omega)
     ·intro p hp
      rcases List.mem_append.1 hp with h|h
      ·rw[hpl']
       exact(hol p h).zf F12 (λg h1 h2 h3=>⟨λh=>h.elim (λh=>h2 h) (λh=>by omega),hnew g (by omega) h2⟩)
      ·obtain rfl:=List.mem_singleton.1 h
       rw[hpl'];exact znH
     ·rw[hpl']
      exact znH
     ·rcases hj with h|h
      ·have:=(HVL.out j h).1;have:=HK0.out.2.2.2.2;omega
      ·have:=HK0.out.2.2.2.2;omega
     ·rw[hpl'];omega
    case measure=>simp[intOf];omega
  ·have q1:¬(i:Int)<(Nt9:Int):=by
    have h9:ui s=pre:=by rw[lg,nY x hlt,List.append_nil]
    have:=znF.out;rw[h9,hi]at this;omega
   have h9:ui s=pre:=by rw[lg,nY x hlt,List.append_nil]
   have HE:=hid h9;clear h9 hown hol hox hx x0 x1 x2 lg hlf hi hi1;go_wp2;go_ret;refine⟨_,rfl,l,by rw[HI.out.2.2.1,HE.out],?_,λp q r hp=>(HO.out.2.1 (p,q,r) hp).rd,HK.out.2.trans (yg.out.mono HK.out.2.size)⟩;have e:(ui s).length+1=i1:=by rw[HE.out,HI.out.1];exact HI.out.2.2.2
   rw[e];exact znM HO.out.1 (by have:=HK0.out.2.2.2.2;have:=HK.out.2.size;omega)
structure RdX(W:World)(oa:Option Addr)(n:Nat)(l:List (Lx×Option Addr×Nat)):Prop where
 len:n=l.length
 cells:∀(j:Nat) x,l[j]?=some x→∃b off,oa=some ⟨b,off,none⟩∧b<W.heap.size∧W.cell? ⟨b,off+j*3,none⟩=some (.int .i64 (x.1.await:Int))∧W.cell? ⟨b,off+j*3+1,none⟩=some (.slice x.2.1 x.1.pend.length x.2.2)∧W.cell? ⟨b,off+j*3+2,none⟩=some (.bool x.1.body)
 rd:∀x∈l,yR W (.slice x.2.1 x.1.pend.length x.2.2) x.1
theorem RdX.below{W W':World}{oa:Option Addr}{n:Nat}{l:List (Lx×Option Addr×Nat)}(h:RdX W oa n l)(hb:Below W.heap.size W W'):RdX W' oa n l:=
 ⟨h.len,λj d hj=>by
  obtain⟨b,off,h1,h2,h3,h4,h5⟩:=h.cells j d hj;have e:∀o,W'.cell? ⟨b,o,none⟩=W.cell? ⟨b,o,none⟩:=λo=>hb.cell (p:=⟨b,o,none⟩) h2;exact⟨b,off,h1,Nat.lt_of_lt_of_le h2 hb.size,(e _).trans h3,(e _).trans h4,(e _).trans h5⟩,λx hx=>(h.rd x hx).below hb⟩
theorem znP(w:World)(s:ByteArray)(hs:s.size≤900):Calls Tryz.prog 19 #[.string s] w λe w'=>∃oa c l,e=.returned (.slice oa ((ui s).length+1) c)∧l.map Prod.fst=Lx.zero::(ui s).map Prod.snd∧RdX w' oa ((ui s).length+1) l∧Below w.heap.size w w':=by
 refine(znO w s hs).mono ?_;rintro e w' ⟨v,l,rfl,hl,ho,hr,hb⟩;have hn:(ui s).length+1=l.length:=by
  have:=congrArg List.length hl;simpa using this.symm
 rw[hn]at ho ⊢;rcases Src.uT ho with⟨h1,h2,_⟩|⟨b,off,c,h1,h2,h3⟩
 ·omega
 ·refine⟨_,c,l,by rw[h1],hl,⟨rfl,λj x hj=>?_,hr⟩,hb⟩
  have g:=λk hk=>znE l j k x hj hk;exact⟨b,off,rfl,h2,h3 (j*3) _ (g 0 (by omega)),h3 (j*3+1) _ (g 1 (by omega)),h3 (j*3+2) _ (g 2 (by omega))⟩
end Go.Proofs.YtdjcidackkogjaaGreatDoor

/- What doc of a reader of layer 10 (relex) returns:  -/
import Derived.Test.YtdjcidackkogjaaGreatDoorRg
import Derived.Test.YtdjcidackkogjaaGreatDoorRb
namespace Go.Proofs.YtdjcidackkogjaaGreatDoor
set_option linter.unusedSectionVars false
set_option linter.unusedVariables false
open Lib(hid)
set_option maxHeartbeats 8000000
set_option maxRecDepth 100000
open Go Go.RowKit
def rP(T:ByteArray)(iv:Value)(E:Mk)(dv:Value):Array Value:=#[.string T,iv,.int .i64 (E.await:Int),.bool E.body,.int .i64 (E.zf:Int),.int .i64 (E.en:Int),dv]
theorem zhD:(Tryz.prog.info? 82).map (λi=>(i.zero,i.size,i.bytes))=some (some (.agg #[.int .i64 0,.int .i64 0,.int .i64 0,.bool false,.int .i64 0,.bool false,.int .i64 0,.int .i64 0]),8,64):=by kernel_rfl
theorem wL:(Tryz.prog.info? 82).map (·.size)=some 8:=by kernel_rfl
theorem MX(g off j:Nat):(⟨g,off,none⟩:Addr).add j=⟨g,off+j,none⟩:=by
 unfold Addr.add;split
 ·rename_i h;subst h;rfl
 ·rfl
theorem ZI.none{W:World}{n:Nat}{l:List (Tk×Mk)}(h:ZI W none n l):n=0:=by
 rw[h.len]
 cases l with
 |nil=>rfl
 |cons q l=>
  obtain⟨b,off,e,_⟩:=h.cells 0 q rfl;cases e
theorem aO{W:World}{oa:Option Addr}{n c:Nat}{xs:List Value}(h:Src W (.slice oa n c) n xs)(h0:0<n):∃ad,oa=some ad∧∀j v,xs[j]?=some v→W.cell? (ad.add j)=some v:=by
 rcases h with⟨_,h2,_⟩|⟨b,off,c',h1,h2,h3⟩
 ·omega
 ·injection h1 with e1 e2 e3
  exact⟨⟨b,off,none⟩,e1,λj v hj=>by rw[MX];exact h3 j v hj⟩
theorem x9{w0 w:World}(h:Below w0.heap.size w0 w)(o:Obj):Below w0.heap.size w0 (w.alloc o):=h.alloc h.size o
theorem aP{w0 w:World}{b:Nat}(h:Below w0.heap.size w0 w)(hb:w0.heap.size≤b)(o:Nat)(u:Value):Below w0.heap.size w0 (w.setCell ⟨b,o,none⟩ u):=
 h.trans ((zg.setCell (p:=λj=>j=b) (zg.refl _ w) o (.inl rfl) u).below h.size (λj hj=>by rw[hj];exact hb))
theorem zhE(D:List Dl)(k:Nat):zx (D.drop k)=(zx D).drop (k*2):=by
 have:=rQ (D:=D) (a:=k) (b:=D.length) (Nat.le_refl _);rw[List.take_length]at this;rw[this,List.take_of_length_le];rw[List.length_drop,MZ];have:D.length*2-k*2=(D.length-k)*2:=(Nat.sub_mul _ _ _).symm;omega
def D3(V W:World)(T:ByteArray)(m:Mk)(L:List Dl)(n:Nat)(v:Value):Prop:=
 ∃(bd:Nat) (oa:Option Addr) (oc:Nat),v=.pointer (some ⟨bd,0,none⟩)∧zh W bd (rP T (.slice none 0 0) m (.slice oa n oc)) 68∧W.ownsRow V.heap.size 87 2 (.slice oa n oc) n (zx L)∧Below V.heap.size V W∧V.heap.size≤bd∧(∀g,(Value.slice oa n oc).ownBlock=some g→g≠bd)
theorem zhF{n:Nat}{a b:World}(h:Below n a b):zg (λk=>n≤k) a b:=⟨h.os,h.tape,h.output,h.size,λi hi hp=>h.block i (by omega)⟩
theorem oJ{w:World}{base base':Nat}{e:TypeId}{size n:Nat}{v:Value}{xs:List Value}(h:w.ownsRow base e size v n xs)(hb:base'≤base):w.ownsRow base' e size v n xs:=by
 obtain⟨h1,h2⟩:=h;refine⟨h1,?_⟩;rcases h2 with h|⟨g,cap,cur,e1,e2,e3⟩
 ·exact .inl h
 ·exact .inr ⟨g,cap,cur,e1,Nat.le_trans hb e2,e3⟩
theorem aQ{V X:World}{T:ByteArray}{mA:Nat}{mB:Bool}{mf me:Nat}{L:List Dl}{n base oc:Nat}{oa:Option Addr}(hb:Below V.heap.size V X)(hO:X.ownsRow base 87 2 (.slice oa n oc) n (zx L))(hB:V.heap.size≤base):
  D3 V (X.alloc (.cells #[.string T,.slice none 0 0,.int .i64 (mA:Int),.bool mB,.int .i64 (mf:Int),.int .i64 (me:Int),.slice oa n oc] 68)) T ⟨mA,mB,mf,me⟩ L n (.pointer (some ⟨X.heap.size,0,none⟩)):=
 ⟨X.heap.size,oa,oc,rfl,zh.new _ _ _,jS (oJ hO hB) _,x9 hb _,hb.size,λg hg e=>by have:=ji hO g hg;omega⟩
theorem aS{V X:World}{T:ByteArray}{mA:Nat}{mB:Bool}{mf me:Nat}{L:List Dl}{n base oc bd:Nat}{oa:Option Addr}{v0 v1 v2 v3 v4 v5 v6:Value}(hb:Below V.heap.size V X)(hO:X.ownsRow base 87 2 (.slice oa n oc) n (zx L))(kx:zh X bd #[v0,v1,v2,v3,v4,v5,v6] 68)(hB:V.heap.size≤bd)(hB2:bd<base):
  D3 V (((((((X.setCell ⟨bd,0,none⟩ (.string T)).setCell ⟨bd,1,none⟩ (.slice none 0 0)).setCell ⟨bd,2,none⟩ (.int .i64 (mA:Int))).setCell ⟨bd,3,none⟩ (.bool mB)).setCell ⟨bd,4,none⟩ (.int .i64 (mf:Int))).setCell ⟨bd,5,none⟩ (.int .i64 (me:Int))).setCell ⟨bd,6,none⟩ (.slice oa n oc)) T ⟨mA,mB,mf,me⟩ L n (.pointer (some ⟨bd,0,none⟩)):=by
 have hF:zg (λk=>k=bd) X (((((((X.setCell ⟨bd,0,none⟩ (.string T)).setCell ⟨bd,1,none⟩ (.slice none 0 0)).setCell ⟨bd,2,none⟩ (.int .i64 (mA:Int))).setCell ⟨bd,3,none⟩ (.bool mB)).setCell ⟨bd,4,none⟩ (.int .i64 (mf:Int))).setCell ⟨bd,5,none⟩ (.int .i64 (me:Int))).setCell ⟨bd,6,none⟩ (.slice oa n oc)):=
  ((((((zg.put (zg.refl _ X) 0 _).put 1 _).put 2 _).put 3 _).put 4 _).put 5 _).put 6 _
 have hne:∀g,(Value.slice oa n oc).ownBlock=some g→g≠bd:=λg hg e=>by have:=yH hO g hg;omega
 have k0:=kx.set 0 (.string T);have k1:=k0.set 1 (.slice none 0 0);have k2:=k1.set 2 (.int .i64 (mA:Int));have k3:=k2.set 3 (.bool mB);have k4:=k3.set 4 (.int .i64 (mf:Int));have k5:=k4.set 5 (.int .i64 (me:Int));have k6:=k5.set 6 (.slice oa n oc);refine⟨bd,oa,oc,rfl,by simpa[rP]using k6,oJ (zQ hF hO hne) (by omega),hb.trans (hF.below hb.size (λj hj=>by rw[hj];exact hB)),hB,hne⟩
def DcL(L:List (Tk×Mk))(f:Tk×Mk→Tk×Mk)(P N tail gi:Nat)(W:World)(v:Value)(wr:World):Prop:=
 ∃(i:Nat) (arr:Array Value),i≤tail∧v=.int .i64 (i:Int)∧zh wr gi arr 82∧arr.size=N*8∧(∀j q,L[j]?=some q→Ia arr (j*8) (if P≤j∧j<P+i then f q else q))∧zg (λk=>k=gi) W wr
theorem Ia.keep{arr qx:Array Value}{o:Nat}{q:Tk×Mk}(h:Ia arr o q)(e:∀k,o≤k→k<o+8→qx[k]?=arr[k]?):Ia qx o q:=
 ⟨(e _ (by omega) (by omega)).trans h.c0,(e _ (by omega) (by omega)).trans h.c1,(e _ (by omega) (by omega)).trans h.c2,(e _ (by omega) (by omega)).trans h.c3,(e _ (by omega) (by omega)).trans h.c4,(e _ (by omega) (by omega)).trans h.c5,(e _ (by omega) (by omega)).trans h.c6,(e _ (by omega) (by omega)).trans h.c7⟩
def aT(w:World)(s:ByteArray)(I:List (Tk×Mk))(E:Mk)(D:List Dl)(ni nd:Nat)(T:ByteArray)(m1:Mk)(F:List Dl)(ng nf:Nat)(its:List (Tk×Mk))(hd tail:Nat)(e:Ending)(w':World):Prop:=
 ∃(E':Mk) (oa:Option Addr) (oc gi:Nat),e=.returned (.agg (rP T (.slice (some ⟨gi,0,none⟩) (hd+nf+tail) (hd+nf+tail)) E' (.slice oa (ng+(nd-(zH I E (ni-tail)).en)) oc)))∧E'=(if 0<tail then E.mv F.length (zH I E (ni-tail)).en else m1)∧
  w'.ownsRow w.heap.size 82 8 (.slice (some ⟨gi,0,none⟩) (hd+nf+tail) (hd+nf+tail)) (hd+nf+tail) (zF (I.take hd++its++(I.drop (ni-tail)).map λq=>(q.1.mv s.size T.size,q.2.mv F.length (zH I E (ni-tail)).en)))∧
  w'.ownsRow w.heap.size 87 2 (.slice oa (ng+(nd-(zH I E (ni-tail)).en)) oc) (ng+(nd-(zH I E (ni-tail)).en)) (zx (F++D.drop (zH I E (ni-tail)).en))∧Below w.heap.size w w'
theorem zhG{A B C:List (Tk×Mk)}{f:Tk×Mk→Tk×Mk}{P N tail:Nat}{arr:Array Value}(hP:(A++B).length=P)(hC:C.length=tail)(hs:arr.size=N*8)(hN:P+tail=N)(h:∀j q,(A++(B++C))[j]?=some q→Ia arr (j*8) (if P≤j∧j<P+tail then f q else q)):arr.toList=zF (A++B++C.map f):=by
 refine Ia.zhH ?_ (λj q hj=>?_)
 ·rw[List.length_append,hP,List.length_map,hC,hN];exact hs
 ·rw[←List.append_assoc]at h
  rw[List.getElem?_append]at hj;by_cases hl:j<(A++B).length
  ·rw[if_pos hl]at hj
   have h9:=h j q (by rw[List.getElem?_append_left hl];exact hj)
   rwa [if_neg (by omega)]at h9
  ·rw[if_neg hl,List.getElem?_map]at hj
   cases hu:C[j-(A++B).length]? with
   |none=>rw[hu]at hj;cases hj
   |some u=>
    rw[hu]at hj;simp only[Option.map_some,Option.some.injEq]at hj;have hl2:=(List.getElem?_eq_some_iff.1 hu).1;have h9:=h j u (by rw[List.getElem?_append_right (by omega)];exact hu);rw[if_pos (by omega),hj]at h9;exact h9
section
variable(w:World)(b:Nat)(s:ByteArray)(I:List (Tk×Mk))(E:Mk)(D:List Dl)(oi:Option Addr)(ni ci:Nat)(od:Option Addr)(nd cd:Nat)(hV:jH w b s I E D oi ni ci od nd cd)(hic:ni≤ci)(hin:(oi=none∧ci=0)∨∃g off,oi=some ⟨g,off,none⟩)
 (rb:Nat)(T:ByteArray)(a1:Nat)(m1:Mk)(F:List Dl)(og:Option Addr)(ng cg:Nat)(df:Int)(kr:zh w rb (yT b T a1 m1 (.slice og ng cg) df) 97)(hF:Src w (.slice og ng cg) ng (zx F))(hln:ng=F.length)
 (fo:Option Addr)(nf fc:Nat)(its:List (Tk×Mk))(hfr:Src w (.slice fo nf fc) nf (zF its))(hnf:nf=its.length)(hd tail:Nat)(hht:hd+tail≤ni)(Vt:T.size≤900)(zhI:its.length≤900)(xw:F.length≤900)
 (hmv:∀q∈I.drop (ni-tail),s.size≤q.1.zf+T.size∧(zH I E (ni-tail)).en≤q.2.zf+F.length)(hme:0<tail→(zH I E (ni-tail)).en≤E.zf+F.length)
include hV hic hin kr hF hln hfr hnf hht Vt zhI xw hmv hme
theorem zhJ:Calls Tryz.prog 35 #[.pointer (some ⟨rb,0,none⟩),.int .i64 (hd:Int),.slice fo nf fc,.int .i64 (tail:Int)] w λe w'=>aT w s I E D ni nd T m1 F ng nf its hd tail e w':=by
 have hni:ni≤900:=by
  have h1:=YN w b s I E D oi ni ci od nd cd hV;have h2:=hV.its.len;have h3:=hV.sz;omega
 have HM:=hid (λW (hW:Below w.heap.size w W)=>aU W b s I E D oi ni ci od nd cd (hV.below hW) (ni-tail) (by have:=hV.its.len;omega));have zmI:nd≤900:=by
  have h1:=hV.path.Kz;have h2:=hV.en;have h3:=hV.its.len;have h4:=hV.ln;have h5:Mk.zero.en=0:=rfl;omega
 have zmJ:ng≤900:=by omega
 have hmk:=ny w b s I E D oi ni ci od nd cd hV (ni-tail);have Qb:=hid (And.intro hmv hme);obtain⟨r,hr⟩:∃r,zH I E (ni-tail)=r:=⟨_,rfl⟩;rw[hr]at HM hmk Qb;have HR:=hid hr;obtain⟨rA,rB,rf,re⟩:=r;dsimp only at hmk;have r1:IntKind.i64.wrap ((ni:Int)-(tail:Int))=((ni-tail:Nat):Int):=by rw[IntWalk.i64_in _ (by omega)];omega
 have hfd:∀W:World,(Instr.field 66 (.agg #[.int .i64 (rA:Int),.bool rB,.int .i64 (rf:Int),.int .i64 (re:Int)]) 3).run Tryz.prog W=.ok (.int .i64 (re:Int)) W:=λ_=>by kernel_rfl
 obtain⟨z,hz⟩:∃z,w.heap.size=z:=⟨_,rfl⟩;obtain⟨W0,hW0⟩:∃X,w.alloc (.cells #[.string ⟨#[]⟩,.slice none 0 0,.int .i64 0,.bool false,.int .i64 0,.int .i64 0,.slice none 0 0] 68)=X:=⟨_,rfl⟩;have hB0:Below w.heap.size w W0:=by rw[←hW0];exact(Below.refl _ _).alloc (Nat.le_refl _) _
 have kz:zh W0 z #[.string ⟨#[]⟩,.slice none 0 0,.int .i64 0,.bool false,.int .i64 0,.int .i64 0,.slice none 0 0] 68:=by rw[←hW0,←hz];exact zh.new _ _ _
 have hV0:=hV.below hB0;have Zi:=kr.below hB0;have rU:=hF.below hB0;have hfr0:=hfr.below hB0;have hM0:=HM.out W0 hB0;unfold yT at Zi;have r0:=Zi.cell 0;have d1:=hV0.blk.cell 1;have HV:=hid (And.intro hV (And.intro kr (And.intro hF (And.intro hln (And.intro hfr hnf)))));have Qc:=hid (And.intro hV0 (And.intro Zi (And.intro rU hfr0)));have Jk:=hid hM0;have HB0:=hid hB0;have Qd:=hid kz;unfold jY at Jk;dsimp only at Jk;clear hV kr hF hln hfr hnf hV0 Zi rU hfr0 hM0 hB0 kz HM hmv hme hr;go_enter Tryz.func35,Tryz.ntmps35
 go_upto_region 1 with fail
 have HW0:=hid hW0;have HZ:=hid hz;clear hW0 hz
 go_wp2_with fail
 refine Jk.out.mono ?_;rintro e1 w1 ⟨rfl,hb1⟩;have hV1:=Qc.out.1.below hb1;have yz:=Qc.out.2.1.below hb1;have hs1:=hb1.size;have ve:=hid (And.intro hV1 (And.intro yz (And.intro (Qc.out.2.2.1.below hb1) (And.intro (Qc.out.2.2.2.below hb1) (Qd.out.below hb1)))));have HB1:=hid (HB0.out.trans (hb1.mono HB0.out.size));clear hV1 yz hb1 Qc HB0 Qd Jk r0 d1
 go_upto_region 3 with fail
 obtain⟨mA,mB,mf,me⟩:=m1;have hkp:∀W,Below w1.heap.size w1 W→W.cell? ⟨rb,0,none⟩=some (.pointer (some ⟨b,0,none⟩))∧W.cell? ⟨rb,1,none⟩=some (.string T)∧W.cell? ⟨rb,3,none⟩=some (.int .i64 (mA:Int))∧W.cell? ⟨rb,4,none⟩=some (.bool mB)∧W.cell? ⟨rb,5,none⟩=some (.int .i64 (mf:Int))∧W.cell? ⟨rb,6,none⟩=some (.int .i64 (me:Int))∧W.cell? ⟨rb,7,none⟩=some (.slice og ng cg)∧W.cell? ⟨b,6,none⟩=some (.slice od nd cd):=λW hW=>by
  have k1:=ve.out.2.1.below hW;have k2:=ve.out.1.blk.below hW;exact⟨k1.cell 0,k1.cell 1,k1.cell 3,k1.cell 4,k1.cell 5,k1.cell 6,k1.cell 7,k2.cell 6⟩
 have yS:=hid hkp;have hdl:=ve.out.1.del;have q1:(0:Int)≤(re:Int):=by omega
 have q2:(re:Int)≤(nd:Int):=by have:=ve.out.1.ln;omega
 have q3:(nd:Int)-(re:Int)=((nd-re:Nat):Int):=by omega
 have q4:re≤nd:=by omega
 have q5:nd≤cd:=ve.out.1.cap;clear hkp hfd
 go_cut [11]from 33 to 56 (λv wx=>D3 w1 wx T ⟨mA,mB,mf,me⟩ (F++D.drop re) (ng+(nd-re)) v)
 case first=>
  have nz:=fun(o2:Option Addr) (c2:Nat) (hS2:Src w1 (.slice o2 (nd-re) c2) (nd-re) ((zx D).drop (re*2))) (W:World) (g3:Nat) (hW:Below w1.heap.size w1 W) (hg3:zh W g3 #[.slice og ng cg,.slice o2 (nd-re) c2] 48)=>show Calls Tryz.prog 49 #[.slice (some ⟨g3,0,none⟩) 2 2] W λe w'=>∃v,e=.returned v∧∃oa oc,v=.slice oa (ng+(nd-re)) oc∧w'.ownsRow W.heap.size 87 2 (.slice oa (ng+(nd-re)) oc) (ng+(nd-re)) (zx (F++D.drop re))∧Below W.heap.size W w' from
   (zhK W g3 ng (nd-re) cg c2 og o2 F (D.drop re) (hg3.cell 0) (hg3.cell 1) hg3.lt (ve.out.2.2.1.below hW) (by have:=hS2.below hW;rwa [←zhE]at this) HV.out.2.2.2.1 (by rw[List.length_drop,←ve.out.1.ln]) (by omega)).mono (λe w' ⟨⟨oa,oc,h1,h2⟩,h3⟩=>⟨_,h1,oa,oc,rfl,h2,h3⟩)
  rcases hdl with⟨h1,h2,h3⟩|⟨g,off,c2,h1,h2,h3⟩
  ·cases h1
   obtain rfl:re=0:=by omega
   have wM:=nz none 0 (.inl ⟨rfl,rfl,by rw[h3];rfl⟩);have HC:=hid wM;clear nz wM h3
   go_region_held_law (λW=>W.cell? ⟨rb,0,none⟩=some (.pointer (some ⟨b,0,none⟩))∧W.cell? ⟨rb,1,none⟩=some (.string T)∧W.cell? ⟨rb,3,none⟩=some (.int .i64 (mA:Int))∧W.cell? ⟨rb,4,none⟩=some (.bool mB)∧W.cell? ⟨rb,5,none⟩=some (.int .i64 (mf:Int))∧W.cell? ⟨rb,6,none⟩=some (.int .i64 (me:Int))∧W.cell? ⟨rb,7,none⟩=some (.slice og ng cg)∧W.cell? ⟨b,6,none⟩=some (.slice none 0 0)) ((exact yS.out _ (by(repeat(with_reducible (first|exact(Below.refl _ _).drew|exact Below.refl _ _|exact zA|refine Below.drew ?_|refine x9 ?_ _|refine aP ?_ (by omega) _ _)))))) (first
    |(refine um (by rfl) Tryz.func49 (by kernel_rfl) (by kernel_rfl) _ _ (by rfl) [.slice (some ⟨w1.heap.size,0,none⟩) 2 2] (by rfl) _ (HC.out ((w1.alloc (.cells #[.slice og ng cg,.slice none 0 0] 48)).drew) (w1.heap.size) (x9 (Below.refl w1.heap.size w1) (.cells #[.slice og ng cg,.slice none 0 0] 48)).drew (zh.new _ _ _).drew) ?_;intro v w4 hh;obtain⟨oa,oc,hv4,hO4,hb4⟩:=hh;subst hv4;have zA:Below w1.heap.size w1 w4:=((x9 (Below.refl w1.heap.size w1) (.cells #[.slice og ng cg,.slice none 0 0] 48)).drew).trans (hb4.mono ((x9 (Below.refl w1.heap.size w1) (.cells #[.slice og ng cg,.slice none 0 0] 48)).drew).size))
    |(refine um (by rfl) Tryz.func49 (by kernel_rfl) (by kernel_rfl) _ _ (by rfl) [.slice (some ⟨w1.heap.size+1,0,none⟩) 2 2] (by rfl) _ (HC.out (((w1.alloc (.cells #[.string ⟨#[]⟩,.slice none 0 0,.int .i64 0,.bool false,.int .i64 0,.int .i64 0,.slice none 0 0] 68)).alloc (.cells #[.slice og ng cg,.slice none 0 0] 48)).drew) (w1.heap.size+1) (x9 (x9 (Below.refl w1.heap.size w1) (.cells #[.string ⟨#[]⟩,.slice none 0 0,.int .i64 0,.bool false,.int .i64 0,.int .i64 0,.slice none 0 0] 68)) (.cells #[.slice og ng cg,.slice none 0 0] 48)).drew (by have h9:=(zh.new (w1.alloc (.cells #[.string ⟨#[]⟩,.slice none 0 0,.int .i64 0,.bool false,.int .i64 0,.int .i64 0,.slice none 0 0] 68)) #[.slice og ng cg,.slice none 0 0] 48).drew;rw[World.size_alloc]at h9;exact h9)) ?_;intro v w4 hh;obtain⟨oa,oc,hv4,hO4,hb4⟩:=hh;subst hv4;have zA:Below w1.heap.size w1 w4:=((x9 (x9 (Below.refl w1.heap.size w1) (.cells #[.string ⟨#[]⟩,.slice none 0 0,.int .i64 0,.bool false,.int .i64 0,.int .i64 0,.slice none 0 0] 68)) (.cells #[.slice og ng cg,.slice none 0 0] 48)).drew).trans (hb4.mono ((x9 (x9 (Below.refl w1.heap.size w1) (.cells #[.string ⟨#[]⟩,.slice none 0 0,.int .i64 0,.bool false,.int .i64 0,.int .i64 0,.slice none 0 0] 68)) (.cells #[.slice og ng cg,.slice none 0 0] 48)).drew).size);have kx:zh w4 (w1.heap.size) #[.string ⟨#[]⟩,.slice none 0 0,.int .i64 0,.bool false,.int .i64 0,.int .i64 0,.slice none 0 0] 68:=(((zh.new w1 #[.string ⟨#[]⟩,.slice none 0 0,.int .i64 0,.bool false,.int .i64 0,.int .i64 0,.slice none 0 0] 68).alloc (.cells #[.slice og ng cg,.slice none 0 0] 48)).drew).below hb4;have oK:=kx.cell 0;have oL:=kx.cell 1;have oM:=kx.cell 2;have oN:=kx.cell 3;have oO:=kx.cell 4;have oP:=kx.cell 5;have oQ:=kx.cell 6;have oU:=kx.frozen 0;have KA:=kx.frozen 1;have oV:=kx.frozen 2;have oW:=kx.frozen 3;have oZ:=kx.frozen 4;have o8:=kx.frozen 5;have Oa:=kx.frozen 6)
    |(refine um (by rfl) Tryz.func49 (by kernel_rfl) (by kernel_rfl) _ _ (by rfl) [.slice (some ⟨w1.heap.size,0,none⟩) 2 2] (by rfl) _ (HC.out (((w1.alloc (.cells #[.slice og ng cg,.slice none 0 0] 48)).alloc (.cells #[.string ⟨#[]⟩,.slice none 0 0,.int .i64 0,.bool false,.int .i64 0,.int .i64 0,.slice none 0 0] 68)).drew) (w1.heap.size) (x9 (x9 (Below.refl w1.heap.size w1) (.cells #[.slice og ng cg,.slice none 0 0] 48)) (.cells #[.string ⟨#[]⟩,.slice none 0 0,.int .i64 0,.bool false,.int .i64 0,.int .i64 0,.slice none 0 0] 68)).drew ((zh.new _ _ _).alloc _).drew) ?_;intro v w4 hh;obtain⟨oa,oc,hv4,hO4,hb4⟩:=hh;subst hv4;have zA:Below w1.heap.size w1 w4:=((x9 (x9 (Below.refl w1.heap.size w1) (.cells #[.slice og ng cg,.slice none 0 0] 48)) (.cells #[.string ⟨#[]⟩,.slice none 0 0,.int .i64 0,.bool false,.int .i64 0,.int .i64 0,.slice none 0 0] 68)).drew).trans (hb4.mono ((x9 (x9 (Below.refl w1.heap.size w1) (.cells #[.slice og ng cg,.slice none 0 0] 48)) (.cells #[.string ⟨#[]⟩,.slice none 0 0,.int .i64 0,.bool false,.int .i64 0,.int .i64 0,.slice none 0 0] 68)).drew).size);have kx:zh w4 (w1.heap.size+1) #[.string ⟨#[]⟩,.slice none 0 0,.int .i64 0,.bool false,.int .i64 0,.int .i64 0,.slice none 0 0] 68:=(by have h9:=((zh.new (w1.alloc (.cells #[.slice og ng cg,.slice none 0 0] 48)) #[.string ⟨#[]⟩,.slice none 0 0,.int .i64 0,.bool false,.int .i64 0,.int .i64 0,.slice none 0 0] 68).drew).below hb4;rw[World.size_alloc]at h9;exact h9);have oK:=kx.cell 0;have oL:=kx.cell 1;have oM:=kx.cell 2;have oN:=kx.cell 3;have oO:=kx.cell 4;have oP:=kx.cell 5;have oQ:=kx.cell 6;have oU:=kx.frozen 0;have KA:=kx.frozen 1;have oV:=kx.frozen 2;have oW:=kx.frozen 3;have oZ:=kx.frozen 4;have o8:=kx.frozen 5;have Oa:=kx.frozen 6))
   all_goals
    go_step;go_step;go_meet
    case rel=>
     rw[show ng+(0-0)=ng from rfl]at hO4 ⊢
     first
      |with_reducible exact aQ zA hO4 (by first|exact Nat.le_refl _|(rw[World.size_drew,World.size_alloc];omega))
      |with_reducible exact aS zA hO4 kx (by omega) (by(repeat rw[World.size_drew]);(repeat rw[World.size_alloc]);omega)
      |(trace_state;fail "rel")
  ·cases h1
   have hS2:=Src.drop_at (k:=2) (re:=re) ve.out.1.del (by rw[MZ,←ve.out.1.ln]) q4 (if cd=re then some ⟨g,off,none⟩else some ⟨g,off+re*2,none⟩) (cd-re) (λhl b' off' he=>by cases he;rw[if_neg (by omega)]) (λ_ h=>by split at h<;>cases h) (λa h=>by split at h<;>(cases h;exact⟨rfl,h2⟩));have wM:=nz _ _ hS2;obtain⟨o2,ho2⟩:∃o,(if cd=re then(some ⟨g,off,none⟩:Option Addr)else some ⟨g,off+re*2,none⟩)=o:=⟨_,rfl⟩;rw[ho2]at wM;have HC:=hid wM;clear nz wM hS2 h3
   go_region_held_law (λW=>W.cell? ⟨rb,0,none⟩=some (.pointer (some ⟨b,0,none⟩))∧W.cell? ⟨rb,1,none⟩=some (.string T)∧W.cell? ⟨rb,3,none⟩=some (.int .i64 (mA:Int))∧W.cell? ⟨rb,4,none⟩=some (.bool mB)∧W.cell? ⟨rb,5,none⟩=some (.int .i64 (mf:Int))∧W.cell? ⟨rb,6,none⟩=some (.int .i64 (me:Int))∧W.cell? ⟨rb,7,none⟩=some (.slice og ng cg)∧W.cell? ⟨b,6,none⟩=some (.slice (some ⟨g,off,none⟩) nd cd)) ((exact yS.out _ (by(repeat(with_reducible (first|exact(Below.refl _ _).drew|exact Below.refl _ _|exact zA|refine Below.drew ?_|refine x9 ?_ _|refine aP ?_ (by omega) _ _)))))) (first
    |(refine um (by rfl) Tryz.func49 (by kernel_rfl) (by kernel_rfl) _ _ (by rfl) [.slice (some ⟨w1.heap.size,0,none⟩) 2 2] (by rfl) _ (HC.out ((w1.alloc (.cells #[.slice og ng cg,.slice o2 (nd-re) (cd-re)] 48)).drew) (w1.heap.size) (x9 (Below.refl w1.heap.size w1) (.cells #[.slice og ng cg,.slice o2 (nd-re) (cd-re)] 48)).drew (zh.new _ _ _).drew) ?_;intro v w4 hh;obtain⟨oa,oc,hv4,hO4,hb4⟩:=hh;subst hv4;have zA:Below w1.heap.size w1 w4:=((x9 (Below.refl w1.heap.size w1) (.cells #[.slice og ng cg,.slice o2 (nd-re) (cd-re)] 48)).drew).trans (hb4.mono ((x9 (Below.refl w1.heap.size w1) (.cells #[.slice og ng cg,.slice o2 (nd-re) (cd-re)] 48)).drew).size))
    |(refine um (by rfl) Tryz.func49 (by kernel_rfl) (by kernel_rfl) _ _ (by rfl) [.slice (some ⟨w1.heap.size+1,0,none⟩) 2 2] (by rfl) _ (HC.out (((w1.alloc (.cells #[.string ⟨#[]⟩,.slice none 0 0,.int .i64 0,.bool false,.int .i64 0,.int .i64 0,.slice none 0 0] 68)).alloc (.cells #[.slice og ng cg,.slice o2 (nd-re) (cd-re)] 48)).drew) (w1.heap.size+1) (x9 (x9 (Below.refl w1.heap.size w1) (.cells #[.string ⟨#[]⟩,.slice none 0 0,.int .i64 0,.bool false,.int .i64 0,.int .i64 0,.slice none 0 0] 68)) (.cells #[.slice og ng cg,.slice o2 (nd-re) (cd-re)] 48)).drew (by have h9:=(zh.new (w1.alloc (.cells #[.string ⟨#[]⟩,.slice none 0 0,.int .i64 0,.bool false,.int .i64 0,.int .i64 0,.slice none 0 0] 68)) #[.slice og ng cg,.slice o2 (nd-re) (cd-re)] 48).drew;rw[World.size_alloc]at h9;exact h9)) ?_;intro v w4 hh;obtain⟨oa,oc,hv4,hO4,hb4⟩:=hh;subst hv4;have zA:Below w1.heap.size w1 w4:=((x9 (x9 (Below.refl w1.heap.size w1) (.cells #[.string ⟨#[]⟩,.slice none 0 0,.int .i64 0,.bool false,.int .i64 0,.int .i64 0,.slice none 0 0] 68)) (.cells #[.slice og ng cg,.slice o2 (nd-re) (cd-re)] 48)).drew).trans (hb4.mono ((x9 (x9 (Below.refl w1.heap.size w1) (.cells #[.string ⟨#[]⟩,.slice none 0 0,.int .i64 0,.bool false,.int .i64 0,.int .i64 0,.slice none 0 0] 68)) (.cells #[.slice og ng cg,.slice o2 (nd-re) (cd-re)] 48)).drew).size);have kx:zh w4 (w1.heap.size) #[.string ⟨#[]⟩,.slice none 0 0,.int .i64 0,.bool false,.int .i64 0,.int .i64 0,.slice none 0 0] 68:=(((zh.new w1 #[.string ⟨#[]⟩,.slice none 0 0,.int .i64 0,.bool false,.int .i64 0,.int .i64 0,.slice none 0 0] 68).alloc (.cells #[.slice og ng cg,.slice o2 (nd-re) (cd-re)] 48)).drew).below hb4;have oK:=kx.cell 0;have oL:=kx.cell 1;have oM:=kx.cell 2;have oN:=kx.cell 3;have oO:=kx.cell 4;have oP:=kx.cell 5;have oQ:=kx.cell 6;have oU:=kx.frozen 0;have KA:=kx.frozen 1;have oV:=kx.frozen 2;have oW:=kx.frozen 3;have oZ:=kx.frozen 4;have o8:=kx.frozen 5;have Oa:=kx.frozen 6)
    |(refine um (by rfl) Tryz.func49 (by kernel_rfl) (by kernel_rfl) _ _ (by rfl) [.slice (some ⟨w1.heap.size,0,none⟩) 2 2] (by rfl) _ (HC.out (((w1.alloc (.cells #[.slice og ng cg,.slice o2 (nd-re) (cd-re)] 48)).alloc (.cells #[.string ⟨#[]⟩,.slice none 0 0,.int .i64 0,.bool false,.int .i64 0,.int .i64 0,.slice none 0 0] 68)).drew) (w1.heap.size) (x9 (x9 (Below.refl w1.heap.size w1) (.cells #[.slice og ng cg,.slice o2 (nd-re) (cd-re)] 48)) (.cells #[.string ⟨#[]⟩,.slice none 0 0,.int .i64 0,.bool false,.int .i64 0,.int .i64 0,.slice none 0 0] 68)).drew ((zh.new _ _ _).alloc _).drew) ?_;intro v w4 hh;obtain⟨oa,oc,hv4,hO4,hb4⟩:=hh;subst hv4;have zA:Below w1.heap.size w1 w4:=((x9 (x9 (Below.refl w1.heap.size w1) (.cells #[.slice og ng cg,.slice o2 (nd-re) (cd-re)] 48)) (.cells #[.string ⟨#[]⟩,.slice none 0 0,.int .i64 0,.bool false,.int .i64 0,.int .i64 0,.slice none 0 0] 68)).drew).trans (hb4.mono ((x9 (x9 (Below.refl w1.heap.size w1) (.cells #[.slice og ng cg,.slice o2 (nd-re) (cd-re)] 48)) (.cells #[.string ⟨#[]⟩,.slice none 0 0,.int .i64 0,.bool false,.int .i64 0,.int .i64 0,.slice none 0 0] 68)).drew).size);have kx:zh w4 (w1.heap.size+1) #[.string ⟨#[]⟩,.slice none 0 0,.int .i64 0,.bool false,.int .i64 0,.int .i64 0,.slice none 0 0] 68:=(by have h9:=((zh.new (w1.alloc (.cells #[.slice og ng cg,.slice o2 (nd-re) (cd-re)] 48)) #[.string ⟨#[]⟩,.slice none 0 0,.int .i64 0,.bool false,.int .i64 0,.int .i64 0,.slice none 0 0] 68).drew).below hb4;rw[World.size_alloc]at h9;exact h9);have oK:=kx.cell 0;have oL:=kx.cell 1;have oM:=kx.cell 2;have oN:=kx.cell 3;have oO:=kx.cell 4;have oP:=kx.cell 5;have oQ:=kx.cell 6;have oU:=kx.frozen 0;have KA:=kx.frozen 1;have oV:=kx.frozen 2;have oW:=kx.frozen 3;have oZ:=kx.frozen 4;have o8:=kx.frozen 5;have Oa:=kx.frozen 6))
   all_goals
    go_step;go_step;go_meet
    case rel=>
     first
      |with_reducible exact aQ zA hO4 (by first|exact Nat.le_refl _|(rw[World.size_drew,World.size_alloc];omega))
      |with_reducible exact aS zA hO4 kx (by omega) (by(repeat rw[World.size_drew]);(repeat rw[World.size_alloc]);omega)
      |(trace_state;fail "rel")
 case rest=>
  clear hdl;obtain⟨bd,oa,oc,rfl,kd,hO,hb3,hge,hne⟩:=hcut;generalize wc=w3 at*;unfold rP at kd;dsimp only at kd;obtain⟨N,hN⟩:∃N,hd+nf+tail=N:=⟨_,rfl⟩;have zmK:nf≤900:=by have:=HV.out.2.2.2.2.2;omega
  obtain⟨P,hP⟩:∃P,hd+nf=P:=⟨_,rfl⟩;have r2:IntKind.i64.wrap ((hd:Int)+(nf:Int))=(P:Int):=by rw[IntWalk.i64_in _ (by omega)];omega
  have r3:IntKind.i64.wrap ((P:Int)+(tail:Int))=(N:Int):=by rw[IntWalk.i64_in _ (by omega)];omega
  have HP:=hid hP;obtain⟨i0,hi0,hz0,hs0,hb0⟩:=info_parts zhD;have Jl:=λW=>run_make (P:=Tryz.prog) W 64 82 i0 _ Tryz.underlying64 hi0 hz0 .i64 .i64 (N:Int) (N:Int) (by omega) (Int.le_refl _) (by rw[hb0];omega) (by omega);simp only[Int.toNat_natCast,hs0]at Jl;obtain⟨M0,hM0⟩:∃M,madeCells (Value.agg #[.int .i64 0,.int .i64 0,.int .i64 0,.bool false,.int .i64 0,.bool false,.int .i64 0,.int .i64 0]).cells (N*8)=M:=⟨_,rfl⟩;have hM1:M0.size=N*8:=by rw[←hM0,size_madeCells]
  rw[hM0]at Jl;have hmk:∀W,(Instr.makeSlice 64 (.int .i64 (N:Int)) (.int .i64 (N:Int))).run Tryz.prog W=.ok (.slice (some ⟨W.heap.size,0,none⟩) N N) (W.alloc (.cells M0 82)):=Jl;obtain⟨gi,hgi⟩:∃g,w3.heap.size=g:=⟨_,rfl⟩;have Ob:bd<gi:=by rw[←hgi];exact kd.lt
  have nC:=kd.alloc (.cells M0 82);have c1:=nC.cell 1;have e1:=nC.frozen 1;have Oc:=nC.set 1 (.slice (some ⟨gi,0,none⟩) N N);have nG:=(zh.new w3 M0 82).other (b':=bd) 1 (.slice (some ⟨gi,0,none⟩) N N) (by omega);rw[hgi]at nG;have yZ:zg (λj=>j=bd) w3 ((w3.alloc (.cells M0 82)).setCell ⟨bd,1,none⟩ (.slice (some ⟨gi,0,none⟩) N N)):=zg.put ((zg.refl _ w3).alloc _) 1 _;obtain⟨w4,hw4⟩:∃X,(w3.alloc (.cells M0 82)).setCell ⟨bd,1,none⟩ (.slice (some ⟨gi,0,none⟩) N N)=X:=⟨_,rfl⟩;rw[hw4]at Oc nG yZ;have aV:zh w4 bd #[.string T,.slice (some ⟨gi,0,none⟩) N N,.int .i64 (mA:Int),.bool mB,.int .i64 (mf:Int),.int .i64 (me:Int),.slice oa (ng+(nd-re)) oc] 68:=by simpa using Oc
  have hO4:=zQ yZ hO hne;have hol:∀g,(Value.slice oa (ng+(nd-re)) oc).ownBlock=some g→g<gi:=λg hg=>by have:=ji hO g hg;omega
  have hb4:Below w1.heap.size w1 w4:=hb3.trans (yZ.below hb3.size (λj hj=>by rw[hj];exact hge));have hs4:=yZ.size;have kQ:=hid (And.intro aV (And.intro nG (And.intro hO4 (And.intro hb4 (And.intro hge (And.intro hne hol))))));have YF:=hid hM1;have HN:=hid hN;have HI0:=hid (And.intro hi0 (And.intro hz0 (And.intro hs0 hb0)));clear Jl hM0 hM1 hi0 hz0 hs0 hb0 Oc aV nG hO4 hb4 hge hne hol yZ kd nC hO hb3 hN hP yS
  go_upto_region 5 with fail
  have KC:=ve.out.1.below kQ.out.2.2.2.1;have jb:=ve.out.2.1.below kQ.out.2.2.2.1;have x0:=jb.cell 0;have x1:=KC.blk.cell 1;have x2:=kQ.out.1.cell 1;have Jm:=hid KC.its;have t1:(0:Int)≤(hd:Int):=by omega
  have t2:(hd:Int)≤(ci:Int):=by omega
  clear KC jb
  go_cut [12]from 65 to 76 (λv wx=>v=.int .i64 (hd:Int)∧Hid (wx.heap[gi]?=some (.cells (splice M0.toList 0 (zF (I.take hd))).toArray 82 (0,0)))∧Below gi w4 wx)
  case first=>
   rcases hin with⟨rfl,rfl⟩|⟨g,off,rfl⟩
   ·have H0:=hid (show ni=0 from Jm.out.none)
    refine(wpIn_wide (n:=1)).1 ?_
    (refine rV 11 (by decide) (by kernel_rfl) (by kernel_rfl) (by kernel_rfl) (by kernel_rfl) ?_
     dsimp only[List.take_succ_cons,List.take_zero]
     repeat(first
      |gi_big_quiet_step (fail)
      |(refine wpQuietIn_step (λ_ _ _ _=>trivial) (λK hK=>?_);go_simp;refine hK _ ?_;clear hK K))
     refine wpQuietIn_nil ?_;intro _ hw';obtain⟨nq,hw''⟩:=hw';subst hw'')
    obtain⟨w5,hw5⟩:∃X,w4.drewN nq=X:=⟨_,rfl⟩;have hb5:Below w4.heap.size w4 w5:=by rw[←hw5];exact below_drewN (Below.refl _ _) nq
    rw[hw5];clear hw5;have Oe:=kQ.out.2.1.below hb5;refine wpAnyIn_ready (rs:=[11]) (by kernel_rfl) (by simp) ?_;refine AllReadyIn.cons rfl (λK hK=>?_) AllReadyIn.nil;refine MW (by rfl) _ _ 64 64 (by rfl) 82 Tryz.underlying64 8 wL _ _ N N hd _ (by rfl) (by rfl) gi 0 M0.toList 82 (by rw[Array.toArray_toList];exact Oe) hd (Nat.min_eq_left (by have:=HN.out;omega)) (zF (I.take hd)) (by rw[jc,List.length_take];have:=Jm.out.len;have:=H0.out;omega) (λh=>by have:=H0.out;omega) (by rw[jc,List.length_take];have:=Jm.out.len;have:=H0.out;omega) (wO _) gi w5 (Below.refl _ _) (Nat.le_refl _) ?_;intro w6 h6 hb6;refine hK _ _ ?_;clear hK K;refine wpAnyIn_ready (rs:=[12]) (by kernel_rfl) (by simp) ?_;refine AllReadyIn.cons rfl (λK hK=>?_) AllReadyIn.nil
    go_simp
    refine hK _ _ ?_;clear hK K;refine wpAnyIn_done (by kernel_rfl) ?_ _;go_step;go_step;go_meet;case rel=>exact⟨rfl,h6,(hb5.mono (by omega)).trans hb6⟩
   ·refine(wpIn_wide (n:=1)).1 ?_
    (refine rV 11 (by decide) (by kernel_rfl) (by kernel_rfl) (by kernel_rfl) (by kernel_rfl) ?_
     dsimp only[List.take_succ_cons,List.take_zero]
     repeat(first
      |gi_big_quiet_step (fail)
      |(refine wpQuietIn_step (λ_ _ _ _=>trivial) (λK hK=>?_);go_simp;refine hK _ ?_;clear hK K))
     refine wpQuietIn_nil ?_;intro _ hw';obtain⟨nq,hw''⟩:=hw';subst hw'')
    obtain⟨w5,hw5⟩:∃X,w4.drewN nq=X:=⟨_,rfl⟩;have hb5:Below w4.heap.size w4 w5:=by rw[←hw5];exact below_drewN (Below.refl _ _) nq
    rw[hw5];clear hw5;have Oe:=kQ.out.2.1.below hb5;have Og:=Jm.out.below hb5;refine wpAnyIn_ready (rs:=[11]) (by kernel_rfl) (by simp) ?_;refine AllReadyIn.cons rfl (λK hK=>?_) AllReadyIn.nil;refine MW (by rfl) _ _ 64 64 (by rfl) 82 Tryz.underlying64 8 wL _ _ N N hd _ (by rfl) (by rfl) gi 0 M0.toList 82 (by rw[Array.toArray_toList];exact Oe) hd (Nat.min_eq_left (by have:=HN.out;omega)) (zF (I.take hd)) (by rw[jc,List.length_take,Nat.min_eq_left (by have:=Og.len;omega)]) (λh=>⟨rfl,⟨g,off,none⟩,rfl,λj v hj=>?_⟩) (by rw[jc,List.length_take,Nat.min_eq_left (by have:=Og.len;omega),Array.length_toList];have:=YF.out;have:=HN.out;omega) (wO _) gi w5 (Below.refl _ _) (Nat.le_refl _) ?_
    ·obtain⟨b',off',e',_,hcs⟩:=Og.cs (by omega)
     cases e';rw[MX];refine hcs j v ?_;rw[aW]at hj;rw[List.getElem?_take]at hj;split at hj
     ·exact hj
     ·cases hj
    intro w6 h6 hb6;refine hK _ _ ?_;clear hK K;refine wpAnyIn_ready (rs:=[12]) (by kernel_rfl) (by simp) ?_;refine AllReadyIn.cons rfl (λK hK=>?_) AllReadyIn.nil
    go_simp
    refine hK _ _ ?_;clear hK K;refine wpAnyIn_done (by kernel_rfl) ?_ _;go_step;go_step;go_meet;case rel=>exact⟨rfl,h6,(hb5.mono (by omega)).trans hb6⟩
  case rest=>
   obtain⟨rfl,h5,hb5⟩:=hcut;generalize wc=w5 at*;have Oh:w1.heap.size≤gi:=by have:=kQ.out.2.2.2.2.1;omega
   have Oi:=(show zh w5 bd _ _ from(hb5.block bd Ob).trans kQ.out.1);have Oj:Below w1.heap.size w1 w5:=kQ.out.2.2.2.1.trans (hb5.mono Oh);have jT:=hid (ve.out.2.2.2.1.below Oj);have qK:=hid (And.intro Oj hb5);have zhL:=hid Oi;have x2:=Oi.cell 1;have t3:(hd:Int)≤(N:Int):=by have:=HN.out;omega
   have t4:(N:Int)-(hd:Int)=((N-hd:Nat):Int):=by omega
   have hL5:(splice M0.toList 0 (zF (I.take hd))).length=N*8:=by
    have h1:=(ve.out.1.its).len;have h2:=YF.out;have h3:=HN.out;simp only[splice,List.length_append,List.length_take,List.length_drop,jc,Array.length_toList];omega
   have Ol:=hid hL5;clear Oi Oj hb5 hL5 x0 x1
   go_upto_region 6 with fail
   go_cut [12]from 77 to 84 (λv wx=>v=.int .i64 (P:Int)∧Hid (wx.heap[gi]?=some (.cells (splice (splice M0.toList 0 (zF (I.take hd))) (hd*8) (zF its)).toArray 82 (0,0)))∧Below gi w5 wx)
   case first=>
    by_cases Om:N=hd
    ·obtain⟨w6,hrun,h6,hb6⟩:=oI (P:=Tryz.prog) w5 64 64 3 82 Tryz.underlying64 8 wL (some ⟨gi,0,none⟩) fo 0 0 nf fc gi (hd*8) (splice M0.toList 0 (zF (I.take hd))) 82 h5.out nf (Nat.min_eq_left (by have:=HN.out;omega)) (zF its) (by rw[jc,HV.out.2.2.2.2.2]) (λh=>⟨by first|rfl|(have:=HN.out;omega),aO jT.out h⟩) (by rw[jc,Ol.out,←HV.out.2.2.2.2.2];have:=HN.out;omega) (wO _) gi w5 (Below.refl _ _) (Nat.le_refl _)
     subst Om
     go_wp2_with fail
     go_meet;case rel=>exact⟨rfl,h6,hb6⟩
    ·obtain⟨w6,hrun,h6,hb6⟩:=oI (P:=Tryz.prog) w5 64 64 3 82 Tryz.underlying64 8 wL (some ⟨gi,hd*8,none⟩) fo (N-hd) (N-hd) nf fc gi (hd*8) (splice M0.toList 0 (zF (I.take hd))) 82 h5.out nf (Nat.min_eq_left (by have:=HN.out;omega)) (zF its) (by rw[jc,HV.out.2.2.2.2.2]) (λh=>⟨by first|rfl|(have:=HN.out;omega),aO jT.out h⟩) (by rw[jc,Ol.out,←HV.out.2.2.2.2.2];have:=HN.out;omega) (wO _) gi w5 (Below.refl _ _) (Nat.le_refl _)
     go_wp2_with fail
     go_meet;case rel=>exact⟨rfl,h6,hb6⟩
   case rest=>
    obtain⟨rfl,h6,hb6⟩:=hcut;generalize wc=w6 at*;have aX:gi<w6.heap.size:=by
     rcases Nat.lt_or_ge gi w6.heap.size with h|h
     ·exact h
     ·have:=h6.out
      rw[Array.getElem?_eq_none h]at this;cases this
    have nH:Below w1.heap.size w1 w6:=qK.out.1.trans (hb6.mono Oh);have Oo:=(show zh w6 bd _ _ from(hb6.block bd Ob).trans zhL.out);have nI:=ve.out.1.below nH;have zhM:=hid (ve.out.2.1.below nH);have Oq:=hid nI.its;have aY:=hid Oo;have jI:=hid (And.intro nH (qK.out.2.trans hb6));have x0:=zhM.out.cell 0;have x1:=nI.blk.cell 1;have HV6:=hid nI;have x2:=Oo.cell 1;have t5:(0:Int)≤(P:Int):=by omega
    have t6:(P:Int)≤(N:Int):=by have:=HN.out;have:=HP.out;omega
    have t7:(N:Int)-(P:Int)=((N-P:Nat):Int):=by omega
    have t8:(0:Int)≤((ni-tail:Nat):Int):=by omega
    have t9:((ni-tail:Nat):Int)≤(ni:Int):=by omega
    have ta:(ni:Int)-((ni-tail:Nat):Int)=(tail:Int):=by omega
    have tb:(ci:Int)-((ni-tail:Nat):Int)=((ci-(ni-tail):Nat):Int):=by omega
    have aZ:Hid ((splice (splice M0.toList 0 (zF (I.take hd))) (hd*8) (zF its)).length=N*8):=hid (by
     have h2:=Ol.out;have h3:=HN.out;have h4:=HV.out.2.2.2.2.2;generalize splice M0.toList 0 (zF (I.take hd))=X at h2;simp only[splice,List.length_append,List.length_take,List.length_drop,jc];omega)
    clear Oo nI nH hb6 t3 t4 t1 t2
    go_upto_region 7 with fail
    go_cut []from 85 to 98 (λwx=>Hid (wx.heap[gi]?=some (.cells (zF (I.take hd)++(zF its++zF (I.drop (ni-tail)))).toArray 82 (0,0)))∧Below gi w6 wx)
    case first=>
     rcases hin with⟨rfl,rfl⟩|⟨g,off,rfl⟩
     ·have H0:=hid (show ni=0 from Oq.out.none)
      refine(wpIn_wide (n:=1)).1 ?_
      (refine rV 13 (by decide) (by kernel_rfl) (by kernel_rfl) (by kernel_rfl) (by kernel_rfl) ?_
       dsimp only[List.take_succ_cons,List.take_zero]
       repeat(first
        |gi_big_quiet_step (fail)
        |(refine wpQuietIn_step (λ_ _ _ _=>trivial) (λK hK=>?_);go_simp;refine hK _ ?_;clear hK K))
       refine wpQuietIn_nil ?_;intro _ hw';obtain⟨nq,hw''⟩:=hw';subst hw'')
      obtain⟨w7,hw7⟩:∃X,w6.drewN nq=X:=⟨_,rfl⟩;have hb7:Below w6.heap.size w6 w7:=by rw[←hw7];exact below_drewN (Below.refl _ _) nq
      rw[hw7];clear hw7;have VR:=(hb7.block gi aX).trans h6.out;have Vu:=Oq.out.below hb7;refine wpAnyIn_ready (rs:=[13]) (by kernel_rfl) (by simp) ?_;refine AllReadyIn.cons rfl (λK hK=>?_) AllReadyIn.nil;refine MW (by rfl) _ _ 64 64 (by rfl) 82 Tryz.underlying64 8 wL _ _ _ _ _ _ (by rfl) (by rfl) gi (P*8) (splice (splice M0.toList 0 (zF (I.take hd))) (hd*8) (zF its)) 82 VR tail (by have:=HN.out;have:=HP.out;show min _ _=_;omega) (zF (I.drop (ni-tail))) (by rw[jc,List.length_drop];have:=Vu.len;omega) (λh=>by have:=H0.out;omega) (by rw[jc,List.length_drop,aZ.out];have:=Vu.len;have:=HN.out;have:=HP.out;omega) (wO _) gi w7 (Below.refl _ _) (Nat.le_refl _) ?_;intro w8 h8 hb8;have h8':Hid (w8.heap[gi]?=some (.cells (zF (I.take hd)++(zF its++zF (I.drop (ni-tail)))).toArray 82 (0,0))):=hid (by
       have h9:=h8.out;rw[show P*8=hd*8+nf*8 by have:=HP.out;omega,splice_splice_splice M0.toList (zF (I.take hd)) (zF its) (zF (I.drop (ni-tail))) (hd*8) (nf*8) (by rw[jc,List.length_take];have:=Vu.len;omega) (by rw[jc,HV.out.2.2.2.2.2]) (by rw[Array.length_toList,jc,List.length_drop];have:=YF.out;have:=Vu.len;have:=HN.out;omega)]at h9;exact h9)
      refine hK _ _ ?_;clear hK K;refine wpAnyIn_done (by kernel_rfl) ?_ _;go_step;go_step;go_meet;case rel=>exact⟨h8',(hb7.mono (by omega)).trans hb8⟩
     ·refine(wpIn_wide (n:=1)).1 ?_
      (refine rV 13 (by decide) (by kernel_rfl) (by kernel_rfl) (by kernel_rfl) (by kernel_rfl) ?_
       dsimp only[List.take_succ_cons,List.take_zero]
       repeat(first
        |gi_big_quiet_step (fail)
        |(refine wpQuietIn_step (λ_ _ _ _=>trivial) (λK hK=>?_);go_simp;refine hK _ ?_;clear hK K))
       refine wpQuietIn_nil ?_;intro _ hw';obtain⟨nq,hw''⟩:=hw';subst hw'')
      obtain⟨w7,hw7⟩:∃X,w6.drewN nq=X:=⟨_,rfl⟩;have hb7:Below w6.heap.size w6 w7:=by rw[←hw7];exact below_drewN (Below.refl _ _) nq
      rw[hw7];clear hw7;have VR:=(hb7.block gi aX).trans h6.out;have Vu:=Oq.out.below hb7;refine wpAnyIn_ready (rs:=[13]) (by kernel_rfl) (by simp) ?_;refine AllReadyIn.cons rfl (λK hK=>?_) AllReadyIn.nil;refine MW (by rfl) _ _ 64 64 (by rfl) 82 Tryz.underlying64 8 wL _ _ _ _ _ _ (by rfl) (by rfl) gi (P*8) (splice (splice M0.toList 0 (zF (I.take hd))) (hd*8) (zF its)) 82 VR tail (by have:=HN.out;have:=HP.out;show min _ _=_;omega) (zF (I.drop (ni-tail))) (by rw[jc,List.length_drop];have:=Vu.len;omega) (λh=>by
       obtain⟨b',off',e',_,hcs⟩:=Vu.cs (by omega);cases e';refine⟨?_,⟨g,off+(ni-tail)*8,none⟩,?_,λj v hj=>?_⟩
       ·exact if_neg (by have:=HN.out;have:=HP.out;omega)
       ·exact if_neg (by omega)
       ·rw[MX,Nat.add_assoc]
        refine hcs _ v ?_;rw[Aa,List.getElem?_drop]at hj;exact hj) (by rw[jc,List.length_drop,aZ.out];have:=Vu.len;have:=HN.out;have:=HP.out;omega) (wO _) gi w7 (Below.refl _ _) (Nat.le_refl _) ?_
      intro w8 h8 hb8;have h8':Hid (w8.heap[gi]?=some (.cells (zF (I.take hd)++(zF its++zF (I.drop (ni-tail)))).toArray 82 (0,0))):=hid (by
       have h9:=h8.out;rw[show P*8=hd*8+nf*8 by have:=HP.out;omega,splice_splice_splice M0.toList (zF (I.take hd)) (zF its) (zF (I.drop (ni-tail))) (hd*8) (nf*8) (by rw[jc,List.length_take];have:=Vu.len;omega) (by rw[jc,HV.out.2.2.2.2.2]) (by rw[Array.length_toList,jc,List.length_drop];have:=YF.out;have:=Vu.len;have:=HN.out;omega)]at h9;exact h9)
      refine hK _ _ ?_;clear hK K;refine wpAnyIn_done (by kernel_rfl) ?_ _;go_step;go_step;go_meet;case rel=>exact⟨h8',(hb7.mono (by omega)).trans hb8⟩
    case rest=>
     obtain⟨h8,hb8⟩:=hcut;generalize wc=w8 at*;have Ac:gi<w8.heap.size:=by
      rcases Nat.lt_or_ge gi w8.heap.size with h|h
      ·exact h
      ·have:=h8.out
       rw[Array.getElem?_eq_none h]at this;cases this
     have nJ:Below w1.heap.size w1 w8:=jI.out.1.trans (hb8.mono Oh);have kd8:=(show zh w8 bd _ _ from(hb8.block bd Ob).trans aY.out);have Qe:=ve.out.1.below nJ;have uJ:=ve.out.2.1.below nJ;obtain⟨M,hM⟩:∃M:Int,(T.size:Int)-(s.size:Int)=M:=⟨_,rfl⟩;obtain⟨B,hB⟩:∃B:Int,(ng:Int)-(re:Int)=B:=⟨_,rfl⟩;have hs9:s.size≤900:=Qe.sz;have u1:IntKind.i64.wrap ((T.size:Int)-(s.size:Int))=M:=by rw[IntWalk.i64_in _ (by omega)];exact hM
     have u2:IntKind.i64.wrap ((ng:Int)-(re:Int))=B:=by rw[IntWalk.i64_in _ (by omega)];exact hB
     have QN:=hid (And.intro hM hB);have x0:=uJ.cell 0;have y1:=uJ.cell 1;have y7:=uJ.cell 7;have x1:=Qe.blk.cell 0;have KD:=hid (And.intro nJ (jI.out.2.trans hb8));have zhN:=hid kd8;have Ad:=hid Qe;clear hM hB nJ hb8 kd8 Qe uJ x2 t5 t6 t7 t8 t9 ta tb h6 HV6 aY jI
     go_upto_region 8 with fail
     go_quiet (fail)
     obtain⟨w9,Ot⟩:∃X,w8.drewN nq=X:=⟨_,rfl⟩;have vH:Below w8.heap.size w8 w9:=by rw[←Ot];exact below_drewN (Below.refl _ _) nq
     rw[Ot];clear Ot;have kd9:=zhN.out.below vH;have Ae:Below w1.heap.size w1 w9:=KD.out.1.trans (vH.mono KD.out.1.size);have x2:=kd9.cell 1;have t5:(0:Int)≤(P:Int):=by omega
     have t6:(P:Int)≤(N:Int):=by have:=HN.out;have:=HP.out;omega
     have t7:(N:Int)-(P:Int)=(tail:Int):=by have:=HN.out;have:=HP.out;omega
     have Vw:=hid ((vH.block gi Ac).trans h8.out);have wP:=hid (And.intro Ae (KD.out.2.trans (vH.mono (by omega))));have Af:=hid kd9;have zmL:gi<w9.heap.size:=Nat.lt_of_lt_of_le Ac vH.size;clear kd9 Ae vH x0 x1 y1 y7 u1 u2 h8
     go_upto_region 9 with fail
     go_cut [124,125]from 120 to 125 (λv u wx=>v=.int .i64 (tail:Int)∧u=.int .i64 ((0:Nat):Int)∧wx=w9)
     case first=>
      by_cases Om:N=P
      ·have H0:Hid (tail=0):=hid (by have:=HN.out;have:=HP.out;omega)
       subst Om
       go_wp2_with fail
       go_meet;case rel=>exact⟨by first|rfl|(rw[H0.out];rfl),rfl,rfl⟩
      ·go_wp2_with fail
       go_meet;case rel=>exact⟨by rw[show N-P=tail by omega],rfl,rfl⟩
     case rest=>
      obtain⟨rfl,rfl,hw⟩:=hcut;generalize wc=wd at*;subst hw;obtain⟨L,hL⟩:∃L,I.take hd++(its++I.drop (ni-tail))=L:=⟨_,rfl⟩;have wQ:L.length=N:=by
       rw[←hL,List.length_append,List.length_append,List.length_take,List.length_drop];have:=HV.out.1.its.len;have:=HV.out.2.2.2.2.2;have:=HN.out;omega
      have hcl:zF (I.take hd)++(zF its++zF (I.drop (ni-tail)))=zF L:=by rw[←hL,nK,nK]
      have Ag:∀i,i<tail→∃q,L[P+i]?=some q∧q∈I.drop (ni-tail)∧I[ni-tail+i]?=some q:=λi hi=>by
       have hl:=HV.out.1.its.len;obtain⟨q,hi2⟩:∃q,I[ni-tail+i]?=some q:=⟨I[ni-tail+i]'(by omega),List.getElem?_eq_getElem _⟩;have hi3:(I.drop (ni-tail))[i]?=some q:=by rw[List.getElem?_drop];exact hi2
       refine⟨q,?_,List.mem_of_getElem? hi3,hi2⟩;rw[←hL,←List.append_assoc,List.getElem?_append_right (by rw[List.length_append,List.length_take];have:=HV.out.2.2.2.2.2;have:=HP.out;omega)];rw[show P+i-(I.take hd++its).length=i by rw[List.length_append,List.length_take];have:=HV.out.2.2.2.2.2;have:=HP.out;omega];exact hi3
      have HL:=hid (And.intro hL (And.intro wQ (And.intro hcl Ag)));clear hL wQ hcl Ag
      go_wp2_with fail
      go_loopw [125] (λv wr=>DcL L (λq=>(q.1.mv s.size T.size,q.2.mv F.length re)) P N tail gi wd v wr) (λv _=>tail-(intOf v).toNat)
      case atStart=>
       refine⟨0,_,Nat.zero_le _,rfl,Vw.out,?_,λj q hj=>?_,zg.refl _ _⟩
       ·rw[HL.out.2.2.1]
        show(zF L).length=_;rw[jc,HL.out.2.1]
       ·rw[if_neg (by omega),HL.out.2.2.1]
        exact Ia.zhO rfl hj
      case round=>
       obtain⟨i,arr,hi,rfl,kg,hsz,hia,hF⟩:=hrel;have nM:=(show zh wr bd _ _ from(hF.block bd Af.out.lt (by omega)).trans Af.out);have nN:=nM.cell 1;have wR:=hid (And.intro hsz hia);have Ou:=hid hF;have HKG:=hid kg;have Ah:=hid nM;have hgr:gi<wr.heap.size:=kg.lt;by_cases hlt:i<tail
       ·obtain⟨q,hq,hqm,Ov⟩:=HL.out.2.2.2 i hlt
        have Ox:=Qb.out.1 q hqm;have hsum:=zl.sum HV.out.1.path _ q Ov;have hq2:q.2.zf≤q.2.en∧q.2.en≤D.length:=by
         have h9:=ny w b s I E D oi ni ci od nd cd HV.out.1 (ni-tail+i);unfold zH at h9;rw[Ov]at h9;exact h9
        have Oy:=hia (P+i) q hq;rw[if_neg (by omega)]at Oy;have Vx:=HV.out.1.ln;have YL:=hid (zhP wr gi ((P+i)*8) arr q kg Oy M (q.1.zf+T.size-s.size) (q.1.en+T.size-s.size) F.length re (by have:=QN.out.1;omega) (by have:=QN.out.1;omega) (by omega) (by omega) (by omega) Ox.2 hq2.1 (by omega));rw[show(F.length:Int)-(re:Int)=B from by have:=QN.out.2;have:=HV.out.2.2.2.1;omega]at YL;obtain⟨J,hJ⟩:∃J,P+i=J:=⟨_,rfl⟩;have hJN:J<N:=by have:=HN.out;have:=HP.out;omega
        have v1:(i:Int)<(tail:Int):=by omega
        have v2:IntKind.i64.wrap ((P:Int)+(i:Int))=(J:Int):=by rw[IntWalk.i64_in _ (by have:=HP.out;omega)];omega
        have v3:(0:Int)≤(J:Int):=by omega
        have v4:(J:Int)<(N:Int):=by omega
        rw[hJ]at YL;have HJ:=hid hJ;have HQ:=hid (And.intro hq Ox);clear hq hqm Ov Ox hsum hq2 Oy hJ hia hsz kg hF nM Vx
        go_wp2_with fail
        refine(YL.out).mono ?_;rintro e2 w11 ⟨rfl,⟨qx,kg',hsz',zhQ,hoth⟩,hF'⟩;clear nN;go_wp2
        go_roundw
        case rel=>
         refine⟨i+1,qx,by omega,by go_num,kg',by rw[hsz',wR.out.1],λj u hj=>?_,Ou.out.trans hF' (λ_ _ h=>h)⟩;by_cases hji:j=J
         ·have e9:u=q:=by
           have:=HQ.out.1;rw[HJ.out,←hji,hj]at this;cases this;rfl
          rw[if_pos (by have:=HJ.out;omega),e9,hji];exact zhQ
         ·have h9:=wR.out.2 j u hj
          have e9:(P≤j∧j<P+(i+1))=(P≤j∧j<P+i):=by
           have:=HJ.out;apply propext;constructor<;>(intro h;omega)
          simp only[e9];exact h9.keep (λk h1 h2=>hoth k (by have:=HJ.out;omega))
        case measure=>simp[intOf];omega
       ·have v1:¬(i:Int)<(tail:Int):=by omega
        clear hia hsz kg hF nM;have hrz:rb<w1.heap.size∧b<w1.heap.size∧z<w1.heap.size:=⟨ve.out.2.1.lt,ve.out.1.blk.lt,ve.out.2.2.2.2.lt⟩;have hrg:rb≠gi∧b≠gi∧z≠gi:=⟨by omega,by omega,by omega⟩;have hbz:z<bd∧rb<bd∧b<bd:=by have:=kQ.out.2.2.2.2.1;omega
        have hf1:zg (λk=>k=gi) w1 wr:=(zg.of_below (p:=λk=>k=gi) wP.out.1).trans Ou.out (λ_ _ h=>h);have rW:=ve.out.2.1.zf hf1 hrg.1;have YO:=ve.out.1.blk.zf hf1 hrg.2.1;have wS:=ve.out.2.2.2.2.zf hf1 hrg.2.2;have HIT:=hid (show i=tail by omega);obtain⟨E',hE'⟩:∃E',(if 0<tail then E.mv F.length re else(⟨mA,mB,mf,me⟩:Mk))=E':=⟨_,rfl⟩;obtain⟨eA,eB,ef,ee⟩:=E'
        go_upto_if 139 with fail
        go_cut []from 139 to 149 (λwx=>zh wx bd #[.string T,.slice (some ⟨gi,0,none⟩) N N,.int .i64 (eA:Int),.bool eB,.int .i64 (ef:Int),.int .i64 (ee:Int),.slice oa (ng+(nd-re)) oc] 68∧zg (λk=>k=bd) wr wx)
        case first=>
         by_cases htl:0<tail
         ·rw[if_pos htl]at hE'
          have hEl:=(HV.out.1.path).le.2.2.2.2 (Nat.le_refl _) (Nat.zero_le _);have rX:=Ai wr E F.length re (by omega) (Qb.out.2 htl) hEl.1 (by have:=ve.out.1.ln;omega);rw[show(F.length:Int)-(re:Int)=B from by have:=QN.out.2;have:=HV.out.2.2.2.1;omega,hE']at rX;unfold jY at rX;dsimp only at rX;have HHM:=hid rX;have n0:=rW.cell 0;have n2:=YO.cell 2;have n3:=YO.cell 3;have n4:=YO.cell 4;have n5:=YO.cell 5;have n6:(0:Int)<(tail:Int):=by omega
          have KZR:=hid wS;clear hE' hEl rX nN rW YO wS hf1 hrz hrg
          go_wp2_with fail
          refine(HHM.out).mono ?_;rintro e3 w12 ⟨rfl,Oz⟩;have Vy:=Ah.out.below Oz;have o2:=Vy.cell 2;have o3:=Vy.cell 3;have o4:=Vy.cell 4;have o5:=Vy.cell 5;have p2:=Vy.frozen 2;have p3:=Vy.frozen 3;have p4:=Vy.frozen 4;have p5:=Vy.frozen 5;have kf:=(((Vy.set 2 (.int .i64 (eA:Int))).set 3 (.bool eB)).set 4 (.int .i64 (ef:Int))).set 5 (.int .i64 (ee:Int));have Aj:zh ((((w12.setCell ⟨bd,2,none⟩ (.int .i64 (eA:Int))).setCell ⟨bd,3,none⟩ (.bool eB)).setCell ⟨bd,4,none⟩ (.int .i64 (ef:Int))).setCell ⟨bd,5,none⟩ (.int .i64 (ee:Int))) bd #[.string T,.slice (some ⟨gi,0,none⟩) N N,.int .i64 (eA:Int),.bool eB,.int .i64 (ef:Int),.int .i64 (ee:Int),.slice oa (ng+(nd-re)) oc] 68:=by simpa using kf
          have ZF:zg (λk=>k=bd) wr ((((w12.setCell ⟨bd,2,none⟩ (.int .i64 (eA:Int))).setCell ⟨bd,3,none⟩ (.bool eB)).setCell ⟨bd,4,none⟩ (.int .i64 (ef:Int))).setCell ⟨bd,5,none⟩ (.int .i64 (ee:Int))):=((((zg.of_below (p:=λk=>k=bd) Oz).put 2 _).put 3 _).put 4 _).put 5 _;have Xr:=hid (And.intro Aj ZF);clear kf Aj ZF Vy Oz n0 n2 n3 n4 n5
          go_wp2_with fail
          go_meet;case rel=>exact Xr.out
         ·rw[if_neg htl]at hE'
          have n6:¬(0:Int)<(tail:Int):=by omega
          injection hE' with e1 e2 e3 e4;subst e1 e2 e3 e4;have KZR:=hid (And.intro wS (And.intro rW YO));clear nN rW YO wS hf1 hrz hrg
          go_wp2_with fail
          go_meet;case rel=>exact⟨Ah.out,zg.refl _ _⟩
        case rest=>
         obtain⟨kf,ZF⟩:=hcut;generalize wc=wf at*;have hzd:z≠bd:=by omega
         have hgd:gi≠bd:=by omega
         have qO:=wS.zf ZF hzd;have nO:=HKG.out.zf ZF hgd;have hf2:zg (λk=>k=gi∨k=bd) w1 wf:=(hf1.mono (λ_ _ h=> .inl h)).trans ZF (λ_ _ h=> .inr h);have c0:=kf.cell 0;have c1:=kf.cell 1;have c2:=kf.cell 2;have c3:=kf.cell 3;have c4:=kf.cell 4;have c5:=kf.cell 5;have c6:=kf.cell 6;have z0:=qO.cell 0;have z1:=qO.cell 1;have z2:=qO.cell 2;have z3:=qO.cell 3;have z4:=qO.cell 4;have z5:=qO.cell 5;have z6:=qO.cell 6;have g0:=qO.frozen 0;have g1:=qO.frozen 1;have g2:=qO.frozen 2;have g3:=qO.frozen 3;have g4:=qO.frozen 4;have g5:=qO.frozen 5;have g6:=qO.frozen 6;have Xu:=hid (And.intro qO (And.intro nO (And.intro hf2 (And.intro hE' (And.intro hrz (And.intro hbz (And.intro kf ZF)))))));clear qO nO hf2 hE' hrz hbz kf ZF hf1 rW YO wS nN hrg hzd hgd;go_wp2;obtain⟨qO,nO,hf2,hE',hrz,hbz,kf,ZF⟩:=Xu.out;have k0:=qO.set 0 (.string T);have k1:=k0.set 1 (.slice (some ⟨gi,0,none⟩) N N);have k2:=k1.set 2 (.int .i64 (eA:Int));have k3:=k2.set 3 (.bool eB);have k4:=k3.set 4 (.int .i64 (ef:Int));have k5:=k4.set 5 (.int .i64 (ee:Int));have k6:=k5.set 6 (.slice oa (ng+(nd-re)) oc);have hfz:zg (λk=>k=z) wf (((((((wf.setCell ⟨z,0,none⟩ (.string T)).setCell ⟨z,1,none⟩ (.slice (some ⟨gi,0,none⟩) N N)).setCell ⟨z,2,none⟩ (.int .i64 (eA:Int))).setCell ⟨z,3,none⟩ (.bool eB)).setCell ⟨z,4,none⟩ (.int .i64 (ef:Int))).setCell ⟨z,5,none⟩ (.int .i64 (ee:Int))).setCell ⟨z,6,none⟩ (.slice oa (ng+(nd-re)) oc)):=
          ((((((zg.put (zg.refl _ wf) 0 _).put 1 _).put 2 _).put 3 _).put 4 _).put 5 _).put 6 _
         obtain⟨wz,hwz⟩:∃X,((((((wf.setCell ⟨z,0,none⟩ (.string T)).setCell ⟨z,1,none⟩ (.slice (some ⟨gi,0,none⟩) N N)).setCell ⟨z,2,none⟩ (.int .i64 (eA:Int))).setCell ⟨z,3,none⟩ (.bool eB)).setCell ⟨z,4,none⟩ (.int .i64 (ef:Int))).setCell ⟨z,5,none⟩ (.int .i64 (ee:Int))).setCell ⟨z,6,none⟩ (.slice oa (ng+(nd-re)) oc)=X:=⟨_,rfl⟩;rw[hwz]at k6 hfz ⊢;have k7:zh wz z #[.string T,.slice (some ⟨gi,0,none⟩) N N,.int .i64 (eA:Int),.bool eB,.int .i64 (ef:Int),.int .i64 (ee:Int),.slice oa (ng+(nd-re)) oc] 68:=by simpa using k6
         have v0:=k7.cell 0;have v1:=k7.cell 1;have v2:=k7.cell 2;have v3:=k7.cell 3;have v4:=k7.cell 4;have v5:=k7.cell 5;have v6:=k7.cell 6;clear k0 k1 k2 k3 k4 k5 k6 hwz;refine bodyPost_ret (v:=.agg #[.string T,.slice (some ⟨gi,0,none⟩) N N,.int .i64 (eA:Int),.bool eB,.int .i64 (ef:Int),.int .i64 (ee:Int),.slice oa (ng+(nd-re)) oc]) (by simp[results,Tryz.results35,go_sem,v0,v1,v2,v3,v4,v5,v6]) rfl ?_;have hzg:gi≠z:=by have:=HZ.out;omega
         have kgz:=nO.zf hfz hzg;have hf3:zg (λk=>k=gi∨k=bd∨k=z) w1 wz:=(hf2.mono (λ_ _ h=>by rcases h with h|h<;>simp[h])).trans hfz (λ_ _ h=> .inr (.inr h));have zhR:Below w.heap.size w wz:=HB1.out.trans (hf3.below HB1.out.size (λj hj=>by have:=HZ.out;have:=HB1.out.size;rcases hj with e|e|e<;>omega));have zhS:wz.ownsRow w1.heap.size 87 2 (.slice oa (ng+(nd-re)) oc) (ng+(nd-re)) (zx (F++D.drop re)):=by
          obtain⟨_,_,hO,_,_,hne,hol⟩:=kQ.out;refine zQ hfz (zQ ZF (zQ Ou.out (zQ (zhF wP.out.2) hO (λk hk e=>?_)) (λk hk e=>?_)) (hne ·)) (λk hk e=>?_)
          ·have:=hol k hk;omega
          ·have:=hol k hk;omega
          ·have:=yH hO k hk;omega
         have hlen:=HV.out.1.its.len;have zmM:=HV.out.2.2.2.2.2;have hlist:=zhG (A:=I.take hd) (B:=its) (C:=I.drop (ni-tail)) (f:=λq=>(q.1.mv s.size T.size,q.2.mv F.length re)) (P:=P) (N:=N) (tail:=tail) (arr:=arr) (by rw[List.length_append,List.length_take];have:=HP.out;omega) (by rw[List.length_drop];omega) wR.out.1 (by have:=HN.out;have:=HP.out;omega) (by rw[HL.out.1];have:=wR.out.2;rwa [HIT.out]at this);have Yo:wz.ownsRow w.heap.size 82 8 (.slice (some ⟨gi,0,none⟩) N N) N (zF (I.take hd++its++(I.drop (ni-tail)).map λq=>(q.1.mv s.size T.size,q.2.mv F.length re))):=by
          rw[←hlist];have hal:arr.toList.length=N*8:=by rw[Array.length_toList];exact wR.out.1
          refine⟨hal,.inr ⟨gi,N,arr,rfl,?_,kgz,Nat.le_refl _,?_,wR.out.1,List.take_of_length_le (Nat.le_of_eq hal)⟩⟩
          ·have:=HB1.out.size;omega
          ·unfold maxLen;have:=HN.out;omega
         unfold aT;rw[HR.out,HN.out];exact⟨⟨eA,eB,ef,ee⟩,oa,oc,gi,rfl,hE'.symm,Yo,oJ zhS HB1.out.size,zhR⟩
end
end Go.Proofs.YtdjcidackkogjaaGreatDoor

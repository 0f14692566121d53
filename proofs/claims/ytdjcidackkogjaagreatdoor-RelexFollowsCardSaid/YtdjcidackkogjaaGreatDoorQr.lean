/- What Step of layer 9 (token) returns, and the libr -/
import Derived.Test.YtdjcidackkogjaaGreatDoorQq
namespace Go.Proofs.YtdjcidackkogjaaGreatDoor
set_option linter.unusedSectionVars false
set_option linter.unusedVariables false
open Lib(hid)
set_option maxHeartbeats 8000000
set_option maxRecDepth 100000
open Go.RowKit
theorem nU{w:World}{base:Nat}{e:TypeId}{k n:Nat}{oa:Option Addr}{c m:Nat}{xs:List Value}(h:w.ownsRow base e k (.slice oa m c) n xs):n≤c:=by
 rcases h.2 with⟨h1,h2⟩|⟨g,cap,cur,h1,h2,h3,h4,h5⟩
 ·omega
 ·injection h1 with _ _ e3
  omega
section
variable(w:World)(l:List Dl)(oa:Option Addr)(n c:Nat)(hS:Src w (.slice oa n c) n (zx l))(hn:n=l.length)(hl:n≤900000)
include hS hn hl
theorem zas:Calls Tryz.prog 61 #[.slice oa n c] w λe w'=>∃yD c',e=.returned (.slice yD n c')∧w'.ownsRow w.heap.size 87 2 (.slice yD n c') n (zx l)∧Below w.heap.size w w':=by
 have HS:=hid hS;have HN:=hid hn;rcases hS with⟨h1,h2,h3⟩|⟨b,off,c2,h1,h2,h3⟩
 ·injection h1 with e1 e2 e3
  have H3:=hid h3;subst e1 e3;subst h2;clear hn h3;have heq:=Lib.run_eql_slice_nil (P:=Tryz.prog) w 48 87 none 0 0 0 0 Tryz.underlying48;go_enter Tryz.func61,Tryz.ntmps61;go_wp2;go_ret;refine⟨_,_,rfl,?_,Below.refl _ _⟩;rw[H3.out];exact World.ownsRow_nil _ _ _ _
 ·injection h1 with e1 e2 e3
  subst e1;clear hn e3 h3;have heq:=Lib.run_eql_slice_nil (P:=Tryz.prog) w 48 87 (some ⟨b,off,none⟩) n c 0 0 Tryz.underlying48;go_enter Tryz.func61,Tryz.ntmps61
  go_wp2_with (at_builtin;refine jh rfl _ _ 48 87 2 24 _ rfl Tryz.underlying48 Jp rfl (by omega) (by omega) w.heap.size (.slice (some ⟨w.heap.size,0,none⟩) 0 0) 0 [] rfl (zbw w) _ n (zx l) rfl (HS.out.below ((Below.refl _ _).alloc (Nat.le_refl _) _)) (NT HN.out) (Qk l) (by omega) (by rw[World.size_alloc];exact Nat.le_succ _) n (Nat.zero_add n) ?_;intro Yr c8 w8 XH jC Z7)
  go_ret;exact⟨_,_,rfl,XH,((Below.refl w.heap.size w).alloc (Nat.le_refl _) (.cells #[] 87)).grown jC (by rw[World.size_alloc];exact Nat.le_succ _) (λk hk=>by have:w.heap.size=k:=(by injection hk);omega)⟩
end
theorem vJ.uT{W:World}{base:Nat}{oa:Option Addr}{n c:Nat}{x:Lx}(h:W.ownsRow base 87 2 (.slice oa n c) n (zx x.pend))(hn:n=x.pend.length)(hb:1≤base):vJ W (.slice oa n c) x:=by
 have hcap:=nU h;have hlt:=ji h;have hge:=yH h;subst hn;exact⟨Src.uT h,λ_=>JR h hb,λg hg=>⟨by have:=hge g hg;omega,hlt g hg⟩,⟨oa,c,rfl,hcap⟩⟩
section
variable(w:World)(x:Lx)(oa:Option Addr)(n c:Nat)(hM:yR w (.slice oa n c) x)(s:ByteArray)(hs:s.size≤900)(hT:Tx w)(hpl:x.pend.length≤800000)(haw:x.await≤1000)
include hM hs hT hpl haw
theorem zjN(a:Nat)(ha:a<s.size):
  Calls Tryz.prog 77 #[.string s,.int .i64 (a:Int),zD x (.slice oa n c)] w λe w'=>∃yD n' c',e=.returned (.tuple #[yJ (zo s a x),zD (zy s a x) (.slice yD n' c')])∧yR w' (.slice yD n' c') (zy s a x)∧Below w.heap.size w w':=by
 have hn:n=x.pend.length:=by
  obtain⟨yD,c',he,_⟩:=hM.cap;injection he
 have hB0:=ZO w (.cells #[.int .i64 (x.await:Int),.slice oa n c,.bool x.body] 50) (.cells #[.int .i64 0,.int .i64 0,.int .i64 0,.bool false] 44) (.cells #[.int .i64 0,.slice none 0 0,.bool false] 50);have hst:=xA.new w (x.await:Int) (.slice oa n c) x.body;have hcl:∀W,Below w.heap.size w W→_:=λW hW=>zas W x.pend oa n c (by have:=(hM.below hW).src;rw[←hn]at this;exact this) hn (by omega);have Xw:=hid hcl;have hnx:∀W yD c',Below w.heap.size w W→vJ W (.slice yD n c') x→_:=λW yD c' hW hL=>zlb W x yD n c' s a ha hs (hT.b hW) hL hpl haw;have jD:=hid hnx;have HN:=hid hn;have hw1:1≤w.heap.size:=hT.1;unfold zD at jD ⊢;generalize zo s a x=t at*;generalize zy s a x=y at*;obtain⟨A,pd,bd⟩:=x;obtain⟨tk,tf,te,top⟩:=t;unfold yJ at jD ⊢;dsimp only at hst hB0 Xw jD HN ⊢;have q0:¬(a:Int)<0:=by omega
 have q1:¬(s.size:Int)≤(a:Int):=by omega
 have q2:(a:Int)<(s.size:Int):=by omega
 have zY:=hst.kb.cell 1;have KA:=hst.kb.frozen 1;clear hcl hnx hn hM hT hpl haw;go_enter Tryz.func77,Tryz.ntmps77
 go_wp2_with fail
 obtain⟨W,hW⟩:∃X,(((w.alloc (.cells #[.int .i64 (A:Int),.slice oa n c,.bool bd] 50)).alloc (.cells #[.int .i64 0,.int .i64 0,.int .i64 0,.bool false] 44)).alloc (.cells #[.int .i64 0,.slice none 0 0,.bool false] 50))=X:=⟨_,rfl⟩;obtain⟨Bx,hBx⟩:∃z,w.heap.size=z:=⟨_,rfl⟩;rw[hW]at hst zY KA hB0 ⊢;rw[hBx]at hst zY KA ⊢;have yt:=hid hBx;clear hW hBx;refine(Xw.out _ hB0).mono ?_;rintro e w1 ⟨y8,c1,rfl,ho1,hb1⟩;have hst1:=hst.below hb1;have a1:=hst1.kb.cell 1;have f1:=hst1.kb.frozen 1;clear zY KA;have hkl:=hst1.kr.lt;have hF:zg (λb=>b=Bx) w1 (w1.setCell ⟨Bx,1,none⟩ (.slice y8 n c1)):=zg.setCell (p:=λb=>b=Bx) (zg.refl _ w1) 1 (.inl rfl) _;have hWl:Bx+3≤W.heap.size:=by have:=hst.kr.lt;omega
 have NR:=yH ho1;have ho2:=zQ hF ho1 (λg hg hh=>by have:=NR g hg;omega);have kb2:=hst1.kb.set 1 (.slice y8 n c1);have VM:=hst1.kt.other 1 (.slice y8 n c1) (b':=Bx) (by omega);have yh:=hst1.kr.other 1 (.slice y8 n c1) (b':=Bx) (by omega);have tX:Below w.heap.size w (w1.setCell ⟨Bx,1,none⟩ (.slice y8 n c1)):=hst1.bl.setCell (p:=⟨Bx,1,none⟩) (by have:=yt.out;show w.heap.size≤Bx;omega) _
 go_upto_region 2 with fail
 obtain⟨W2,hW2⟩:∃Y,w1.setCell ⟨Bx,1,none⟩ (.slice y8 n c1)=Y:=⟨_,rfl⟩;rw[hW2]at ho2 kb2 VM yh tX hF ⊢;clear hW2 a1 f1 ho1;have ed:zh W2 Bx #[.int .i64 (A:Int),.slice y8 n c1,.bool bd] 50:=kb2;have hL:=vJ.uT (x:=⟨A,pd,bd⟩) ho2 HN.out (by omega);have hnx2:=jD.out W2 y8 c1 tX hL;have zlS:=hid hnx2;have HL:=hid hL;have eF:=hid NR;have b0:=ed.cell 0;have b1:=ed.cell 1;have b2:=ed.cell 2;clear hnx2 hL NR kb2 ho2 hF
 go_wp2_with fail
 refine(zlS.out).mono ?_;rintro e w3 ⟨Xv,n3,c3,rfl,wF,hF3,hg3⟩;have hlt2:Bx+3≤W2.heap.size:=by have:=yh.lt;omega
 have hnb:∀b,b≤Bx+1+1→¬(Value.slice y8 n c1).ownBlock=some b:=λb hb e=>by have:=eF.out b e;omega
 have uP:=VM.zf hF3 (hnb _ (by omega));have yK:=yh.zf hF3 (hnb _ (by omega));have t0:=uP.cell 0;have t1:=uP.cell 1;have t2:=uP.cell 2;have t3:=uP.cell 3;have kT:=uP.frozen 0;have kU:=uP.frozen 1;have kV:=uP.frozen 2;have kW:=uP.frozen 3;have r0:=yK.cell 0;have r1:=yK.cell 1;have r2:=yK.cell 2;have kH:=yK.frozen 0;have kJ:=yK.frozen 1;have kK:=yK.frozen 2;have HM3:=hid wF;have HG3:=hid hg3;clear wF hg3;have zbx:Below w.heap.size w w3:=tX.trans (hF3.below tX.size (λk hk=>by have:=eF.out k hk;have:=yt.out;omega));go_wp2;have hst3:xA w (A:Int) (.slice oa n c) bd Bx w3→True:=λ_=>trivial;have e6:=(((uP.set 0 (.int .i64 (tk:Int))).set 1 (.int .i64 (tf:Int))).set 2 (.int .i64 (te:Int))).set 3 (.bool top);have f6:=((e6.other 0 (.int .i64 (y.await:Int)) (b':=Bx+1+1) (by omega)).other 1 (.slice Xv n3 c3) (b':=Bx+1+1) (by omega)).other 2 (.bool y.body) (b':=Bx+1+1) (by omega);have e7:=(((yK.other 0 (.int .i64 (tk:Int)) (b':=Bx+1) (by omega)).other 1 (.int .i64 (tf:Int)) (b':=Bx+1) (by omega)).other 2 (.int .i64 (te:Int)) (b':=Bx+1) (by omega)).other 3 (.bool top) (b':=Bx+1) (by omega);have f7:=((e7.set 0 (.int .i64 (y.await:Int))).set 1 (.slice Xv n3 c3)).set 2 (.bool y.body);have yZ:zg (λb=>b=Bx+1∨b=Bx+1+1) w3 (((((((w3.setCell ⟨Bx+1,0,none⟩ (.int .i64 (tk:Int))).setCell ⟨Bx+1,1,none⟩ (.int .i64 (tf:Int))).setCell ⟨Bx+1,2,none⟩ (.int .i64 (te:Int))).setCell ⟨Bx+1,3,none⟩ (.bool top)).setCell ⟨Bx+1+1,0,none⟩ (.int .i64 (y.await:Int))).setCell ⟨Bx+1+1,1,none⟩ (.slice Xv n3 c3)).setCell ⟨Bx+1+1,2,none⟩ (.bool y.body)):=
  (((((((zg.refl _ w3).setCell 0 (.inl (.inl rfl)) _).setCell 1 (.inl (.inl rfl)) _).setCell 2 (.inl (.inl rfl)) _).setCell 3 (.inl (.inl rfl)) _).setCell 0 (.inl (.inr rfl)) _).setCell 1 (.inl (.inr rfl)) _).setCell 2 (.inl (.inr rfl)) _
 obtain⟨W5,xC⟩:∃X,((((((w3.setCell ⟨Bx+1,0,none⟩ (.int .i64 (tk:Int))).setCell ⟨Bx+1,1,none⟩ (.int .i64 (tf:Int))).setCell ⟨Bx+1,2,none⟩ (.int .i64 (te:Int))).setCell ⟨Bx+1,3,none⟩ (.bool top)).setCell ⟨Bx+1+1,0,none⟩ (.int .i64 (y.await:Int))).setCell ⟨Bx+1+1,1,none⟩ (.slice Xv n3 c3)).setCell ⟨Bx+1+1,2,none⟩ (.bool y.body)=X:=⟨_,rfl⟩;rw[xC]at f6 f7 yZ ⊢;have h0:W5.cell? ⟨Bx+1,0,none⟩=some (.int .i64 (tk:Int)):=f6.cell 0;have h1:W5.cell? ⟨Bx+1,1,none⟩=some (.int .i64 (tf:Int)):=f6.cell 1;have h2:W5.cell? ⟨Bx+1,2,none⟩=some (.int .i64 (te:Int)):=f6.cell 2;have h3:W5.cell? ⟨Bx+1,3,none⟩=some (.bool top):=f6.cell 3;have i0:W5.cell? ⟨Bx+1+1,0,none⟩=some (.int .i64 (y.await:Int)):=f7.cell 0;have i1:W5.cell? ⟨Bx+1+1,1,none⟩=some (.slice Xv n3 c3):=f7.cell 1;have i2:W5.cell? ⟨Bx+1+1,2,none⟩=some (.bool y.body):=f7.cell 2;refine bodyPost_ret (v:=.tuple #[.agg #[.int .i64 (tk:Int),.int .i64 (tf:Int),.int .i64 (te:Int),.bool top],.agg #[.int .i64 (y.await:Int),.slice Xv n3 c3,.bool y.body]]) (by simp[results,Tryz.results77,go_sem,h0,h1,h2,h3,i0,i1,i2]) rfl ?_;refine⟨Xv,n3,c3,rfl,(HM3.out.zf yZ (λg hg hh=>?_)).rd,zbx.trans (yZ.below zbx.size (λb hb=>by have:=yt.out;omega))⟩;rcases HG3.out g hg with q|q
 ·have:=eF.out g q;omega
 ·omega
end
theorem yR.Y9{W W':World}{pv:Value}{x:Lx}{B:Nat}{cs:Array Value}{t:TypeId}(h:yR W pv x)(hB:zh W B cs t)(hcs:∀(j:Nat) (u:ByteArray),cs[j]?≠some (.string u))(hF:zg (λk=>k=B) W W'):yR W' pv x:=by
 refine⟨?_,h.cap⟩;rcases h.src with q|⟨g,off,c2,h1,h2,h3⟩
 ·exact .inl q
 ·refine .inr ⟨g,off,c2,h1,Nat.lt_of_lt_of_le h2 hF.size,λj u hj=>?_⟩
  by_cases e:g=B
  ·exfalso
   subst e;obtain⟨d,ds,hp⟩:∃d ds,x.pend=d::ds:=by
    cases hx:x.pend with
    |nil=>rw[hx]at hj;cases hj
    |cons d ds=>exact⟨d,ds,rfl⟩
   have hs:=h3 0 (.string d.word) (by rw[hp,qR];rfl);rw[Nat.add_zero,hB.cell off]at hs;exact hcs _ _ hs
  ·exact(hF.cell (a:=⟨g,off+j,none⟩) h2 e).trans (h3 j u hj)
theorem zlT{a b c:Int}{d:Bool}(j:Nat)(u:ByteArray):(#[.int .i64 a,.int .i64 b,.int .i64 c,.bool d]:Array Value)[j]?≠some (.string u):=by
 match j with
 |0=>simp
 |1=>simp
 |2=>simp
 |3=>simp
 |k+4=>simp
theorem NJ{a:Int}{o:Option Addr}{n c:Nat}{d:Bool}(j:Nat)(u:ByteArray):(#[.int .i64 a,.slice o n c,.bool d]:Array Value)[j]?≠some (.string u):=by
 match j with
 |0=>simp
 |1=>simp
 |2=>simp
 |k+3=>simp
structure Tz where
 kind:Int
 zf:Int
 en:Int
 op:Bool
structure Lf where
 kind:Int
 text:ByteArray
 zf:Int
 en:Int
def Tk.z(t:Tk):Tz:=⟨t.kind,t.zf,t.en,t.op⟩
def WU(t:Tz):Value:=.agg #[.int .i64 t.kind,.int .i64 t.zf,.int .i64 t.en,.bool t.op]
def VP(s:ByteArray)(t:Tz):Bool:=decide (0≤t.zf)&&(decide (t.zf≤t.en)&& decide (t.en≤(s.size:Int)))
def JC(s:ByteArray)(t:Tz):ByteArray:=if VP s t=true then s.extract t.zf.toNat t.en.toNat else⟨#[]⟩
def QD(k:Int):Bool:=decide (k=2)||(decide (k=4)||(decide (k=5)||decide (k=6)))
def JB(s:ByteArray)(t:Tz):List Lf:=if QD t.kind=true∧VP s t=true then [⟨t.kind,JC s t,t.zf,t.en⟩]else []
def xK(s:ByteArray)(l:List Tz):List Lf:=l.flatMap (JB s)
theorem zmo(s:ByteArray)(l:List Tz)(t:Tz):xK s (l++ [t])=xK s l++JB s t:=by
 unfold xK;rw[List.flatMap_append];simp
theorem zmp(s:ByteArray)(t:Tz):(JB s t).length≤1:=by
 unfold JB;split
 ·exact Nat.le_refl _
 ·exact Nat.zero_le _
theorem Nb(s:ByteArray):∀l:List Tz,(xK s l).length≤l.length
 | []=>Nat.zero_le _
 |t::l=>by
  have h1:=zmp s t;have h2:=Nb s l;have e:xK s (t::l)=JB s t++xK s l:=by unfold xK;rw[List.flatMap_cons]
  rw[e,List.length_append,List.length_cons];omega
theorem zbK(s:ByteArray){l:List Tz}{j:Nat}{t:Tz}(h:l[j]?=some t):xK s (l.take (j+1))=xK s (l.take j)++JB s t:=by
 rw[List.take_add_one,h];exact zmo s _ t
structure Wy(W:World)(oa:Option Addr)(n:Nat)(l:List Tz):Prop where
 len:n=l.length
 cells:∀(j:Nat) t,l[j]?=some t→∃b off,oa=some ⟨b,off,none⟩∧b<W.heap.size∧W.cell? ⟨b,off+j*4,none⟩=some (.int .i64 t.kind)∧W.cell? ⟨b,off+j*4+1,none⟩=some (.int .i64 t.zf)∧W.cell? ⟨b,off+j*4+2,none⟩=some (.int .i64 t.en)∧W.cell? ⟨b,off+j*4+3,none⟩=some (.bool t.op)
theorem Wy.below{W W':World}{oa:Option Addr}{n:Nat}{l:List Tz}(h:Wy W oa n l)(hb:Below W.heap.size W W'):Wy W' oa n l:=
 ⟨h.len,λj d hj=>by
  obtain⟨b,off,h1,h2,h3,h4,h5,h6⟩:=h.cells j d hj;have e:∀o,W'.cell? ⟨b,o,none⟩=W.cell? ⟨b,o,none⟩:=λo=>hb.cell (p:=⟨b,o,none⟩) h2;exact⟨b,off,h1,Nat.lt_of_lt_of_le h2 hb.size,(e _).trans h3,(e _).trans h4,(e _).trans h5,(e _).trans h6⟩⟩
theorem ZL.z{W:World}{oa:Option Addr}{n:Nat}{l:List Tk}(h:ZL W oa n l):Wy W oa n (l.map Tk.z):=
 ⟨by rw[List.length_map];exact h.len,λj t hj=>by
  rw[List.getElem?_map]at hj;obtain⟨u,hu1,hu2⟩:=Option.map_eq_some_iff.1 hj;subst hu2;exact h.cells j u hu1⟩
def XR(x:Lf):List Value:=[.int .i64 x.kind,.string x.text,.int .i64 x.zf,.int .i64 x.en]
def jm(l:List Lf):List Value:=l.flatMap XR
theorem zbN(l k:List Lf):jm (l++k)=jm l++jm k:=by unfold jm;rw[List.flatMap_append]
theorem zbL(x:Lf):∀u∈XR x,u.oneCell'=true:=by
 intro u hu;simp[XR]at hu;rcases hu with rfl|rfl|rfl|rfl<;>rfl
theorem zbP:∀(l:List Lf) (j k:Nat) (t:Lf),l[j]?=some t→k<4→(jm l)[j*4+k]?=(XR t)[k]?
 | [],j,k,t,h,_=>by cases h
 |a::l,0,k,t,h,hk=>by
  cases h;show(XR a++jm l)[0*4+k]?=_;rw[List.getElem?_append_left (by show 0*4+k<4;omega),Nat.zero_mul,Nat.zero_add]
 |a::l,j+1,k,t,h,hk=>by
  show(XR a++jm l)[(j+1)*4+k]?=_;rw[List.getElem?_append_right (by show 4≤_;omega),show(j+1)*4+k-(XR a).length=j*4+k from by show(j+1)*4+k-4=_;omega];exact zbP l j k t h hk
structure KO(W:World)(oa:Option Addr)(n:Nat)(l:List Lf):Prop where
 len:n=l.length
 cells:∀(j:Nat) t,l[j]?=some t→∃b off,oa=some ⟨b,off,none⟩∧b<W.heap.size∧W.cell? ⟨b,off+j*4,none⟩=some (.int .i64 t.kind)∧W.cell? ⟨b,off+j*4+1,none⟩=some (.string t.text)∧W.cell? ⟨b,off+j*4+2,none⟩=some (.int .i64 t.zf)∧W.cell? ⟨b,off+j*4+3,none⟩=some (.int .i64 t.en)
theorem KO.below{W W':World}{oa:Option Addr}{n:Nat}{l:List Lf}(h:KO W oa n l)(hb:Below W.heap.size W W'):KO W' oa n l:=
 ⟨h.len,λj d hj=>by
  obtain⟨b,off,h1,h2,h3,h4,h5,h6⟩:=h.cells j d hj;have e:∀o,W'.cell? ⟨b,o,none⟩=W.cell? ⟨b,o,none⟩:=λo=>hb.cell (p:=⟨b,o,none⟩) h2;exact⟨b,off,h1,Nat.lt_of_lt_of_le h2 hb.size,(e _).trans h3,(e _).trans h4,(e _).trans h5,(e _).trans h6⟩⟩
theorem KO.uT{W:World}{base:Nat}{v:Value}{l:List Lf}{n:Nat}(hn:n=l.length)(h:W.ownsRow base 59 4 v n (jm l)):∃oa c,v=.slice oa n c∧KO W oa n l:=by
 subst hn;rcases Src.uT h with⟨h1,h2,_⟩|⟨b,off,c,h1,h2,h3⟩
 ·have:=List.eq_nil_of_length_eq_zero h2
  subst this;exact⟨none,0,h1,rfl,λj t hj=>by cases hj⟩
 ·refine⟨_,c,h1,rfl,λj t hj=>?_⟩
  have g:=λk hk=>zbP l j k t hj hk;refine⟨b,off,rfl,h2,h3 (j*4) _ (g 0 (by omega)),?_,?_,?_⟩
  ·exact h3 (j*4+1) _ (g 1 (by omega))
  ·exact h3 (j*4+2) _ (g 2 (by omega))
  ·exact h3 (j*4+3) _ (g 3 (by omega))
section
variable(w:World)
theorem zbJ(s:ByteArray)(t:Tz):Calls Tryz.prog 63 #[.string s,WU t] w λe w'=>e=.returned (.bool (VP s t))∧Below w.heap.size w w':=by
 obtain⟨tk,tf,te,top⟩:=t;unfold WU VP;dsimp only;have kb:=zh.new w #[.int .i64 tk,.int .i64 tf,.int .i64 te,.bool top] 44;have a1:=kb.cell 1;have a2:=kb.cell 2;have hB:=(Below.refl _ w).alloc (Nat.le_refl _) (.cells #[.int .i64 tk,.int .i64 tf,.int .i64 te,.bool top] 44);by_cases h1:0≤tf
 ·by_cases h2:tf≤te
  ·by_cases h3:te≤(s.size:Int)
   ·go_enter Tryz.func63,Tryz.ntmps63
    go_wp2;go_ret;exact⟨by simp[h1,h2,h3],hB⟩
   ·go_enter Tryz.func63,Tryz.ntmps63
    go_wp2;go_ret;exact⟨by simp;omega,hB⟩
  ·go_enter Tryz.func63,Tryz.ntmps63
   go_wp2;go_ret;exact⟨by simp;omega,hB⟩
 ·go_enter Tryz.func63,Tryz.ntmps63
  go_wp2;go_ret;exact⟨by simp;omega,hB⟩
theorem zmk(s:ByteArray)(t:Tz)(hs:s.size≤1000000):Calls Tryz.prog 64 #[.string s,WU t] w λe w'=>e=.returned (.string (JC s t))∧Below w.heap.size w w':=by
 have hst:=λW=>zbJ W s t
 cases hin:VP s t with
 |true=>
  have hcl:=λW=>Ar (s.extract t.zf.toNat t.en.toNat) W (by rw[ByteArray.size_extract];omega);rw[hin]at hst;have htx:JC s t=s.extract t.zf.toNat t.en.toNat:=by unfold JC;rw[if_pos hin]
  rw[htx];unfold VP at hin;simp only[Bool.and_eq_true,decide_eq_true_eq]at hin;obtain⟨q0,q1,q2⟩:=hin;clear htx;obtain⟨tk,tf,te,top⟩:=t;unfold WU at*;dsimp only at*;obtain⟨a,rfl⟩:=Int.eq_ofNat_of_zero_le q0;obtain⟨b,rfl⟩:=Int.eq_ofNat_of_zero_le (show 0≤te by omega);rw[Int.toNat_natCast,Int.toNat_natCast]at*;have HST:=hid hst;have Xw:=hid hcl;have kb:=zh.new w #[.int .i64 tk,.int .i64 (a:Int),.int .i64 (b:Int),.bool top] 44;have hB0:Below w.heap.size w (w.alloc (.cells #[.int .i64 tk,.int .i64 (a:Int),.int .i64 (b:Int),.bool top] 44)):=(Below.refl _ w).alloc (Nat.le_refl _) _;have HB0:=hid hB0;have HKB:=hid kb;clear hst hcl hB0;go_enter Tryz.func64,Tryz.ntmps64
  go_wp2_with fail
  refine(HST.out _).mono ?_;rintro e w1 ⟨rfl,hb1⟩;have k1:=HKB.out.below hb1;have a1:=k1.cell 1;have a2:=k1.cell 2
  go_wp2_with fail
  refine(Xw.out _).mono ?_;rintro e w2 ⟨rfl,hb2⟩;go_wp2;go_ret;have hz:=HB0.out.size;exact⟨rfl,(HB0.out.trans (hb1.mono hz)).trans (hb2.mono (Nat.le_trans hz hb1.size))⟩
 |false=>
  rw[hin]at hst;have htx:JC s t=⟨#[]⟩:=by unfold JC;rw[if_neg (by rw[hin];simp)]
  rw[htx];clear htx hin;obtain⟨tk,tf,te,top⟩:=t;unfold WU at*;have HST:=hid hst;have hB0:Below w.heap.size w (w.alloc (.cells #[.int .i64 tk,.int .i64 tf,.int .i64 te,.bool top] 44)):=(Below.refl _ w).alloc (Nat.le_refl _) _;have HB0:=hid hB0;clear hst hB0;go_enter Tryz.func64,Tryz.ntmps64
  go_wp2_with fail
  refine(HST.out _).mono ?_;rintro e w1 ⟨rfl,hb1⟩;go_wp2;go_ret;exact⟨rfl,HB0.out.trans (hb1.mono HB0.out.size)⟩
theorem zml(k:Int):Calls Tryz.prog 62 #[.int .i64 k] w λe w'=>e=.returned (.bool (QD k))∧w'=w:=by
 unfold QD;by_cases h4:k=4
 ·subst h4
  go_enter Tryz.func62,Tryz.ntmps62;go_wp2;go_ret;exact⟨rfl,rfl⟩
 by_cases h5:k=5
 ·subst h5
  go_enter Tryz.func62,Tryz.ntmps62;go_wp2;go_ret;exact⟨rfl,rfl⟩
 by_cases h6:k=6
 ·subst h6
  go_enter Tryz.func62,Tryz.ntmps62;go_wp2;go_ret;exact⟨rfl,rfl⟩
 by_cases h2:k=2
 ·subst h2
  go_enter Tryz.func62,Tryz.ntmps62;go_wp2;go_ret;exact⟨rfl,rfl⟩
 ·go_enter Tryz.func62,Tryz.ntmps62
  go_wp2;go_ret;exact⟨by simp[h2,h4,h5,h6],rfl⟩
end
theorem zbH:(Tryz.prog.info? 59).map (λi=>(i.zero,i.size,i.bytes))=some (some (.agg #[.int .i64 0,.string ⟨#[]⟩,.int .i64 0,.int .i64 0]),4,40):=by kernel_rfl
theorem zbI{W:World}{b:Nat}{x:Lf}(h:zh W b #[.int .i64 x.kind,.string x.text,.int .i64 x.zf,.int .i64 x.en] 59):Src W (.slice (some ⟨b,0,none⟩) 1 1) 1 (XR x):=by
 refine .inr ⟨_,0,1,rfl,h.lt,λj u hj=>?_⟩;rw[Nat.zero_add,h.cell j];simpa[XR]using hj
theorem zmi(a c d a' c' d':Int)(b b':ByteArray)(w:World):(Op.equalIn 10000 59 (.agg #[.int .i64 a,.string b,.int .i64 c,.int .i64 d]) (.agg #[.int .i64 a',.string b',.int .i64 c',.int .i64 d'])).run Tryz.prog w=.ok (a==a' &&(decide (b=b')&&(c==c' && d==d'))) w:=by
 have u3:=Tryz.underlying3;have a3:=Tryz.isAgg3;have z3:=Tryz.sizeOf3;have u4:=Tryz.underlying9;have a4:=Tryz.isAgg9;have z4:=Tryz.sizeOf9;have hS:Tryz.prog.underlying 59=some (.struct (Tryz.prog.fieldsOf 59)):=by kernel_rfl
 rw[show(10000:Nat)=9999+1 from rfl,run_equalIn_agg w 9999 59 _ _ hS (by kernel_rfl)];simp only[Program.fieldsOf,Tryz.underlying59]
 go_simp
 rw[←jW b b'];by_cases h1:a=a'<;>by_cases h2:b.toList=b'.toList<;>by_cases h3:c=c'<;>by_cases h4:d=d'<;>simp[h1,h2,h3,h4]
theorem zmj(a c d a' c' d':Int)(b b':ByteArray)(w:World):(binOp .neq 59 (.agg #[.int .i64 a,.string b,.int .i64 c,.int .i64 d]) (.agg #[.int .i64 a',.string b',.int .i64 c',.int .i64 d'])).run Tryz.prog w=.ok (.bool (!(a==a' &&(decide (b=b')&&(c==c' && d==d'))))) w:=by
 rw[run_neq_struct,zmi];simp[Result.andThen]
theorem ziI(a c d:Int)(b:ByteArray)(w:World):(binOp .neq 59 (.agg #[.int .i64 a,.string b,.int .i64 c,.int .i64 d]) (.agg #[.int .i64 a,.string b,.int .i64 c,.int .i64 d])).run Tryz.prog w=.ok (.bool false) w:=by
 rw[zmj];simp
def LvI(s:ByteArray)(l:List Tz)(w:World)(v4 v9:Value)(wr:World):Prop:=
 ∃i:Nat,i≤l.length∧v9=.int .i64 (i:Int)∧wr.ownsRow w.heap.size 59 4 v4 (xK s (l.take i)).length (jm (xK s (l.take i)))∧Below w.heap.size w wr
section
variable(w:World)(s:ByteArray)(l:List Tz)(oa:Option Addr)(n c:Nat)(hR:Wy w oa n l)(hs:s.size≤1000000)(hn:n≤900000)
include hR hs hn
theorem zjr:Calls Tryz.prog 38 #[.string s,.slice oa n c] w λe w'=>∃v,e=.returned v∧w'.ownsRow w.heap.size 59 4 v (xK s l).length (jm (xK s l))∧Below w.heap.size w w':=by
 have hlen:=hR.len;have HR:=hid hR;have HLEN:=hid hlen;have VJ:=hid (λW t=>zmk W s t hs);have HST:=hid (λW t=>zbJ W s t);clear hR hlen;go_enter Tryz.func38,Tryz.ntmps38;go_wp2
 go_loopw [4,9] (λv4 v9 wr=>LvI s l w v4 v9 wr) (λ_ v _=>n-(intOf v).toNat)
 case atStart=>exact⟨0,Nat.zero_le _,rfl,World.ownsRow_nil _ _ _ _,Below.refl _ _⟩
 case round=>
  obtain⟨i,hi,rfl,hown,hBw⟩:=hrel;obtain⟨ov,cv,rfl⟩:=JD hown;have HO:=hid hown;have yg:=hid hBw;have hL:=Nb s (l.take i);rw[List.length_take]at hL;by_cases hlt:i<n
  ·have q1:(i:Int)<(n:Int):=by omega
   have q0:(0:Int)≤(i:Int):=by omega
   have hxa:l[i]?=some (l[i]'(by have:=HLEN.out;omega)):=List.getElem?_eq_getElem _;generalize l[i]'(by have:=HLEN.out;omega)=x at hxa;have hstep:=zbK s hxa;obtain⟨g1,o1,rfl,h1,c0,c1,c2,c3⟩:=(HR.out.below hBw).cells i x hxa;have HTZ:=hid (λW=>VJ.out W x);have KH:=hid (λW=>HST.out W x);have hF:JB s x=if QD x.kind=true∧VP s x=true then [⟨x.kind,JC s x,x.zf,x.en⟩]else []:=rfl
   rw[hF]at hstep;obtain⟨tk,tf,te,top⟩:=x;unfold WU at HTZ KH;dsimp only at*;generalize JC s ⟨tk,tf,te,top⟩=TX at*;obtain⟨z,hz⟩:∃z,(xK s (l.take i)).length=z:=⟨_,rfl⟩;rw[hz]at HO hL ⊢;have HZ:=hid hz;have kY:=hid hstep;have DI:i+1≤l.length:=by have:=HLEN.out;omega
   have WV:=hid DI;have hol:=ji HO.out;have hog:=yH HO.out;have Jf:=hid hol;have Gl:=hid hog;have kb:=zh.new wr #[.int .i64 tk,.int .i64 tf,.int .i64 te,.bool top] 44;have hal:=(Below.refl wr.heap.size wr).alloc (Nat.le_refl _) (.cells #[.int .i64 tk,.int .i64 tf,.int .i64 te,.bool top] 44);have Gj:=hid hal;clear hown hxa hF hstep DI hz hol hog hal
   go_wp2_with fail
   obtain⟨W1,hW1⟩:∃X,wr.alloc (.cells #[.int .i64 tk,.int .i64 tf,.int .i64 te,.bool top] 44)=X:=⟨_,rfl⟩;have hz1:W1.heap.size=wr.heap.size+1:=by rw[←hW1,World.size_alloc]
   rw[hW1]at kb Gj ⊢;have ho1:=vM HO.out Gj.out;have hB1:=yg.out.trans (Gj.out.mono yg.out.size);have X7:=hid ho1;have HB1:=hid hB1;clear hW1 ho1 hB1 Gj HO HR;obtain⟨Bt,hBt⟩:∃z,wr.heap.size=z:=⟨_,rfl⟩;have lN:=hid hBt;rw[hBt]at kb hz1 ⊢;clear hBt;have yP:=kb;refine(zml W1 tk).mono ?_;rintro e wl ⟨rfl,rfl⟩;obtain⟨K,hK⟩:∃K,QD tk=K:=⟨_,rfl⟩;obtain⟨I,hI⟩:∃I,VP s ⟨tk,tf,te,top⟩=I:=⟨_,rfl⟩;rw[hK]at kY ⊢;rw[hI]at kY KH;clear hK hI;have a0:=kb.cell 0;have a1:=kb.cell 1;have a2:=kb.cell 2;have a3:=kb.cell 3;have HKB:=hid kb;have same:(K && I)=false→wl.ownsRow w.heap.size 59 4 (.slice ov z cv) (xK s (l.take (i+1))).length (jm (xK s (l.take (i+1)))):=λh=>by
    have e:¬(K=true∧I=true):=λq=>by rw[q.1,q.2]at h;cases h
    rw[kY.out,if_neg e,List.append_nil,HZ.out];exact X7.out
   have SAME:=hid same;clear same yP kb
   cases K with
   |false=>
    go_wp2
    go_roundw
    case rel=>exact⟨i+1,WV.out,by go_num,SAME.out rfl,HB1.out⟩
    case measure=>simp[intOf];omega
   |true=>
    go_wp2_with fail
    refine(KH.out _).mono ?_;rintro e w3 ⟨rfl,hb3⟩
    cases I with
    |false=>
     have HB3:=hid hb3;clear hb3;go_wp2
     go_roundw
     case rel=>exact⟨i+1,WV.out,by go_num,vM (SAME.out rfl) HB3.out,HB1.out.trans (HB3.out.mono HB1.out.size)⟩
     case measure=>simp[intOf];omega
    |true=>
     have qV:=HKB.out.below hb3;have ho3:=vM X7.out hb3;have HO3:=hid ho3;have HB3:=hid (HB1.out.trans (hb3.mono HB1.out.size));have zmm:=hid (λW=>(HTZ.out W).mono (λe w' (h:e=.returned (.string TX)∧Below W.heap.size W w')=>(⟨_,h.1,rfl,h.2⟩:∃v,e=.returned v∧(v=.string TX∧Below W.heap.size W w'))));have hz3:Bt+1≤w3.heap.size:=by have:=hb3.size;omega
     clear a0 a1 a2 a3 ho3 hb3 HKB;have a1:=qV.cell 1;have a0:=qV.cell 0;have a2:=qV.cell 2;have a3:=qV.cell 3
     go_upto_region 5 with fail
     have e0:w3.drew.cell? ⟨Bt,0,none⟩=some (.int .i64 tk)∧w3.drew.cell? ⟨Bt,1,none⟩=some (.int .i64 tf)∧w3.drew.cell? ⟨Bt,2,none⟩=some (.int .i64 te)∧w3.drew.cell? ⟨Bt,3,none⟩=some (.bool top):=⟨a0,a1,a2,a3⟩;clear a0 a1 a2 a3
     go_region_held_law (λw'=>w'.cell? ⟨Bt,0,none⟩=some (.int .i64 tk)∧w'.cell? ⟨Bt,1,none⟩=some (.int .i64 tf)∧w'.cell? ⟨Bt,2,none⟩=some (.int .i64 te)∧w'.cell? ⟨Bt,3,none⟩=some (.bool top)) (first|exact e0|exact s4|exact Z8 _|exact s9) (first
      |(refine um (by rfl) Tryz.func64 (by kernel_rfl) (by kernel_rfl) _ _ (by rfl) [.string s,.agg #[.int .i64 tk,.int .i64 tf,.int .i64 te,.bool top]] (by rfl) _ (zmm.out _) ?_;intro v w4 hh;obtain⟨hv4,hb4⟩:=hh;subst hv4;have ZQ:=qV.drew.below hb4;have s4:w4.cell? ⟨Bt,0,none⟩=some (.int .i64 tk)∧w4.cell? ⟨Bt,1,none⟩=some (.int .i64 tf)∧w4.cell? ⟨Bt,2,none⟩=some (.int .i64 te)∧w4.cell? ⟨Bt,3,none⟩=some (.bool top):=⟨ZQ.cell 0,ZQ.cell 1,ZQ.cell 2,ZQ.cell 3⟩;have Z8:∀o,(w4.alloc o).cell? ⟨Bt,0,none⟩=some (.int .i64 tk)∧(w4.alloc o).cell? ⟨Bt,1,none⟩=some (.int .i64 tf)∧(w4.alloc o).cell? ⟨Bt,2,none⟩=some (.int .i64 te)∧(w4.alloc o).cell? ⟨Bt,3,none⟩=some (.bool top):=λo=>⟨(ZQ.alloc o).cell 0,(ZQ.alloc o).cell 1,(ZQ.alloc o).cell 2,(ZQ.alloc o).cell 3⟩;have wY:=vM (GN HO3.out) hb4)
      |(refine Y0 (by rfl) _ _ 55 59 4 40 _ (by rfl) Tryz.underlying55 zbH rfl (by omega) (by omega) w.heap.size (.slice ov z cv) z (jm (xK s (l.take i))) (by rfl) (vM wY ((Below.refl _ _).alloc (Nat.le_refl _) _)) _ 1 (XR ⟨tk,TX,tf,te⟩) (by rfl) (zbI (x:=⟨tk,TX,tf,te⟩) (zh.new w4 _ _)) rfl (zbL _) (by omega) (by rw[World.size_alloc];have:=HB3.out.size;have:=hb4.size;have e:w3.drew.heap.size=w3.heap.size:=rfl;omega) (z+1) rfl ?_;intro uQ c9 w9 jg Zj Vw;have xx:=(ZQ.alloc (.cells #[.int .i64 tk,.string TX,.int .i64 tf,.int .i64 te] 59)).grown Zj (λe=>by have:=lN.out;have:=Jf.out _ e.symm;omega);have s9:w9.cell? ⟨Bt,0,none⟩=some (.int .i64 tk)∧w9.cell? ⟨Bt,1,none⟩=some (.int .i64 tf)∧w9.cell? ⟨Bt,2,none⟩=some (.int .i64 te)∧w9.cell? ⟨Bt,3,none⟩=some (.bool top):=⟨xx.cell 0,xx.cell 1,xx.cell 2,xx.cell 3⟩))
     all_goals
      have Tf:Below w.heap.size w w4:=HB3.out.drew.trans (hb4.mono HB3.out.size);have zbM:Below w.heap.size w w9:=(Tf.alloc Tf.size _).grown Zj (by rw[World.size_alloc];have:=Tf.size;omega) (λk hk=>Gl.out k hk);have hown:w9.ownsRow w.heap.size 59 4 (.slice uQ (z+1) c9) (xK s (l.take (i+1))).length (jm (xK s (l.take (i+1)))):=by
       rw[kY.out,if_pos (by simp),zbN,List.length_append,HZ.out];simpa[jm]using jg
      have HOWN:=hid hown;have Ed:=hid zbM;clear hown zbM Tf s9 xx Zj jg wY s4 Z8 ZQ hb4 qV e0;go_wp2
      go_roundw
      case rel=>exact⟨i+1,WV.out,by go_num,HOWN.out,Ed.out⟩
      case measure=>simp[intOf];omega
  ·have q1:¬(i:Int)<(n:Int):=by omega
   have hin:i=l.length:=by have:=HLEN.out;omega
   subst hin;rw[List.take_length]at hown;have DF:=hid hown;clear hown HO hL;go_wp2;go_ret;exact⟨_,rfl,DF.out,yg.out⟩
end
theorem zbO(s:ByteArray):∀(k a:Nat) (x:Lx),∀q∈vO s k a x,q.1.zf<q.1.en∧q.1.en≤s.size
 |0,a,x,q,h=>by cases h
 |k+1,a,x,q,h=>by
  unfold vO at h;by_cases g:a<s.size
  ·rw[if_pos g]at h
   have hok:=jB x g;rcases List.mem_cons.1 h with e|e
   ·subst e
    show(zo s a x).zf<(zo s a x).en∧(zo s a x).en≤s.size;omega
   ·exact zbO s k _ _ q e
  ·rw[if_neg g]at h
   cases h
theorem zmn{s:ByteArray}{t:Tk}(h:t∈(ui s).map Prod.fst):t.zf<t.en∧t.en≤s.size:=by
 obtain⟨q,h1,h2⟩:=List.mem_map.1 h;subst h2;exact zbO s _ _ _ q h1
def RvI(s:ByteArray)(l:List Tz)(w W0:World)(v5 v6:Value)(wr:World):Prop:=
 ∃i:Nat,i≤l.length∧v6=.int .i64 (i:Int)∧wr.ownsRow W0.heap.size 59 4 v5 (xK s (l.take i)).length (jm (xK s (l.take i)))∧Below W0.heap.size W0 wr
section
variable(w:World)
theorem ziF(s:ByteArray)(hs:s.size≤900):Calls Tryz.prog 23 #[.string s] w λe w'=>∃v,e=.returned v∧w'.ownsRow w.heap.size 59 4 v (xK s (((ui s).map Prod.fst).map Tk.z)).length (jm (xK s (((ui s).map Prod.fst).map Tk.z)))∧Below w.heap.size w w':=by
 have Vm:=hid (λW=>AX W s hs);have hlen:=zbf s s.size 0 Lx.zero;rw[show vO s s.size 0 Lx.zero=ui s from rfl]at hlen;have ug:=hid (λt=>@zmn s t);generalize XD (ui s)=X at*;obtain⟨L,hL⟩:∃L,(ui s).map Prod.fst=L:=⟨_,rfl⟩;obtain⟨N,hN⟩:∃N,(ui s).length=N:=⟨_,rfl⟩;have hLN:N=L.length:=by rw[←hL,List.length_map,hN]
 rw[hL,hN]at Vm;rw[hL]at ug ⊢;rw[hN]at hlen;have uo:=hid hLN;clear hL hN hLN;go_enter Tryz.func23,Tryz.ntmps23
 go_wp2_with fail
 refine(Vm.out _).mono ?_;rintro e w2 ⟨v,oa,n,c,rfl,ho,hM,hb2⟩;obtain⟨ot,ct,rfl,hK⟩:=ZL.uT uo.out ho;have hba:=(Below.refl w2.heap.size w2).alloc (Nat.le_refl _) (.cells #[.int .i64 (X.await:Int),.slice oa n c,.bool X.body] 50);have HB2:=hid (hb2.alloc hb2.size (.cells #[.int .i64 (X.await:Int),.slice oa n c,.bool X.body] 50));have Ee:=hid (hK.below hba);unfold zD;clear ho hM hK hb2 hba;go_wp2;obtain⟨W0,hW0⟩:∃Z,w2.alloc (.cells #[.int .i64 (X.await:Int),.slice oa n c,.bool X.body] 50)=Z:=⟨_,rfl⟩;rw[hW0]at HB2 Ee ⊢;clear hW0
 go_loopw [5,6] (λv5 v6 wr=>RvI s (L.map Tk.z) w W0 v5 v6 wr) (λ_ v _=>N-(intOf v).toNat)
 case atStart=>exact⟨0,Nat.zero_le _,rfl,World.ownsRow_nil _ _ _ _,Below.refl _ _⟩
 case round=>
  obtain⟨i,hi,rfl,hown,hBw⟩:=hrel;rw[List.length_map]at hi;obtain⟨ov,cv,rfl⟩:=JD hown;have HO:=hid hown;have yg:=hid hBw;have wQ:=Nb s ((L.map Tk.z).take i);rw[List.length_take,List.length_map]at wQ;by_cases hlt:i<N
  ·have q1:(i:Int)<(N:Int):=by omega
   have q0:(0:Int)≤(i:Int):=by omega
   have hxa:L[i]?=some (L[i]'(by have:=uo.out;omega)):=List.getElem?_eq_getElem _;generalize L[i]'(by have:=uo.out;omega)=x at hxa;have hxz:(L.map Tk.z)[i]?=some x.z:=by rw[List.getElem?_map,hxa];rfl
   have hstep:=zbK s hxz;obtain⟨hx1,hx2⟩:=ug.out x (List.mem_of_getElem? hxa);obtain⟨g1,o1,rfl,h1,b0,b1,b2,b3⟩:=Ee.out.cells i x hxa;have hF:JB s x.z=if QD (x.kind:Int)=true then [⟨(x.kind:Int),s.extract x.zf x.en,(x.zf:Int),(x.en:Int)⟩]else []:=by
    have hin:VP s x.z=true:=by
     unfold VP Tk.z;simp only[Bool.and_eq_true,decide_eq_true_eq];omega
    unfold JB JC;rw[hin];simp only[and_true,if_true];rfl
   rw[hF]at hstep;obtain⟨tk,tf,te,top⟩:=x;dsimp only at*;have hgB:∀W,Below W0.heap.size W0 W→W.cell? ⟨g1,o1+i*4,none⟩=some (.int .i64 (tk:Int))∧W.cell? ⟨g1,o1+i*4+1,none⟩=some (.int .i64 (tf:Int))∧W.cell? ⟨g1,o1+i*4+2,none⟩=some (.int .i64 (te:Int)):=λW hW=>⟨(hW.cell (p:=⟨g1,_,none⟩) h1).trans b0,(hW.cell (p:=⟨g1,_,none⟩) h1).trans b1,(hW.cell (p:=⟨g1,_,none⟩) h1).trans b2⟩;have Ef:=hid hgB;have c0:=(hgB _ hBw).1;clear hgB b0 b1 b2 b3;obtain⟨TX,XF⟩:∃TX,s.extract tf te=TX:=⟨_,rfl⟩;obtain⟨z,hz⟩:∃z,(xK s ((L.map Tk.z).take i)).length=z:=⟨_,rfl⟩;rw[hz]at HO wQ ⊢;have HZ:=hid hz;have kY:=hid hstep;have DI:i+1≤(L.map Tk.z).length:=by rw[List.length_map];have:=uo.out;omega
   have WV:=hid DI;have hol:=ji HO.out;have hog:=yH HO.out;have Jf:=hid hol;have Gl:=hid hog;have VJ:=hid XF;obtain⟨K,hK⟩:∃K,QD (tk:Int)=K:=⟨_,rfl⟩;have HKK:=hid hK;clear hown hxa hxz hF hstep DI hz hol hog XF hK Ee ug
   go_upto_region 7 with fail
   go_cut [37]from 24 to 37 (λv wx=>v=.bool K∧wx=wr)
   case first=>
    have ZR:=HKK.out;unfold QD at ZR;by_cases k2:tk=2
    ·subst k2
     have XA:=hid ZR;clear ZR;go_wp2;go_meet;case rel=>exact⟨by rw[←XA.out];rfl,by first|rfl|trivial⟩
    have t2:((tk:Int)==2)=false:=beq_eq_false_iff_ne.2 (by omega);have d2:decide ((tk:Int)=2)=false:=decide_eq_false (by omega);rw[d2]at ZR;by_cases k4:tk=4
    ·subst k4
     have XA:=hid ZR;clear ZR d2;go_wp2;go_meet;case rel=>exact⟨by rw[←XA.out];rfl,by first|rfl|trivial⟩
    have t4:((tk:Int)==4)=false:=beq_eq_false_iff_ne.2 (by omega);have d4:decide ((tk:Int)=4)=false:=decide_eq_false (by omega);rw[d4]at ZR;by_cases k5:tk=5
    ·subst k5
     have XA:=hid ZR;clear ZR d2 d4;go_wp2;go_meet;case rel=>exact⟨by rw[←XA.out];rfl,by first|rfl|trivial⟩
    have t5:((tk:Int)==5)=false:=beq_eq_false_iff_ne.2 (by omega);have d5:decide ((tk:Int)=5)=false:=decide_eq_false (by omega);rw[d5]at ZR;by_cases k6:tk=6
    ·subst k6
     have XA:=hid ZR;clear ZR d2 d4 d5;go_wp2;go_meet;case rel=>exact⟨by rw[←XA.out];rfl,by first|rfl|trivial⟩
    have t6:((tk:Int)==6)=false:=beq_eq_false_iff_ne.2 (by omega);have d6:decide ((tk:Int)=6)=false:=decide_eq_false (by omega);rw[d6]at ZR;have XA:=hid ZR;clear ZR d2 d4 d5 d6 k2 k4 k5 k6;go_wp2;go_meet;case rel=>exact⟨by rw[←XA.out];rfl,by first|rfl|trivial⟩
   case rest=>
    obtain⟨hv,hw⟩:=hcut;subst hv;subst hw
    cases K with
    |false=>
     have hs2:wc.ownsRow W0.heap.size 59 4 (.slice ov z cv) (xK s ((L.map Tk.z).take (i+1))).length (jm (xK s ((L.map Tk.z).take (i+1)))):=by
      rw[kY.out,if_neg (by rw[HKK.out];simp),List.append_nil,HZ.out];exact HO.out
     have HS2:=hid hs2;clear hs2;go_wp2
     go_roundw
     case rel=>exact⟨i+1,WV.out,by go_num,HS2.out,yg.out⟩
     case measure=>simp[intOf];omega
    |true=>
     have r0:(0:Int)≤(tf:Int):=by omega
     have r1:(tf:Int)≤(te:Int):=by omega
     have r2:(te:Int)≤(s.size:Int):=by omega
     have e0:wc.drew.cell? ⟨g1,o1+i*4+1,none⟩=some (.int .i64 (tf:Int))∧wc.drew.cell? ⟨g1,o1+i*4+2,none⟩=some (.int .i64 (te:Int)):=(Ef.out _ yg.out.drew).2;have ea:∀o,((wc.alloc o).drew).cell? ⟨g1,o1+i*4+1,none⟩=some (.int .i64 (tf:Int))∧((wc.alloc o).drew).cell? ⟨g1,o1+i*4+2,none⟩=some (.int .i64 (te:Int)):=λo=>(Ef.out _ ((yg.out.alloc yg.out.size o).drew)).2;clear c0
     go_upto_region 8 with fail
     go_region_held_law (λw'=>w'.cell? ⟨g1,o1+i*4+1,none⟩=some (.int .i64 (tf:Int))∧w'.cell? ⟨g1,o1+i*4+2,none⟩=some (.int .i64 (te:Int))) (first|exact e0|exact ea _|exact s9) (first
      |(refine Y0 (by rfl) _ _ 55 59 4 40 _ (by rfl) Tryz.underlying55 zbH rfl (by omega) (by omega) W0.heap.size (.slice ov z cv) z (jm (xK s ((L.map Tk.z).take i))) (by rfl) (GN (jS HO.out _)) _ 1 (XR ⟨(tk:Int),s.extract tf te,(tf:Int),(te:Int)⟩) (by rfl) (zbI (x:=⟨(tk:Int),s.extract tf te,(tf:Int),(te:Int)⟩) ((zh.new wc _ _).drew)) rfl (zbL _) (by omega) (by show W0.heap.size≤(wc.alloc _).heap.size;rw[World.size_alloc];have:=yg.out.size;omega) (z+1) rfl ?_;intro uQ c9 w9 jg Zj Vw;have vH:Below W0.heap.size W0 w9:=((yg.out.alloc yg.out.size _).drew).grown Zj (by show W0.heap.size≤(wc.alloc _).heap.size;rw[World.size_alloc];have:=yg.out.size;omega) (λk hk=>Gl.out k hk);have s9:=(Ef.out _ vH).2))
     all_goals
      have hown:w9.ownsRow W0.heap.size 59 4 (.slice uQ (z+1) c9) (xK s ((L.map Tk.z).take (i+1))).length (jm (xK s ((L.map Tk.z).take (i+1)))):=by
       rw[kY.out,if_pos HKK.out,zbN,List.length_append,HZ.out];simpa[jm]using jg
      have HOWN:=hid hown;have Ed:=hid vH;clear hown vH s9 Zj jg e0 ea;go_wp2
      go_roundw
      case rel=>exact⟨i+1,WV.out,by go_num,HOWN.out,Ed.out⟩
      case measure=>simp[intOf];omega
  ·have q1:¬(i:Int)<(N:Int):=by omega
   have hin:i=(L.map Tk.z).length:=by rw[List.length_map];have:=uo.out;omega
   have he:(L.map Tk.z).take i=L.map Tk.z:=by rw[hin,List.take_length]
   rw[he]at hown ⊢;have DF:=hid hown;clear hown HO wQ hin he;go_wp2;go_ret;exact⟨_,rfl,JR DF.out HB2.out.size,HB2.out.trans (yg.out.mono HB2.out.size)⟩
end
def ziH(W:World)(n:Nat)(v:Value)(wr:World):Prop:=∃i:Nat,i≤n∧v=.int .i64 (i:Int)∧Below W.heap.size W wr
def dK(W0 W:World)(tk tf te:Int)(top:Bool)(y:Lx)(v10 v11:Value):Prop:=
 ∃(bt bx:Nat) (o9:Option Addr) (n9 c9:Nat),v10=.pointer (some ⟨bt,0,none⟩)∧v11=.pointer (some ⟨bx,0,none⟩)∧zh W bt #[.int .i64 tk,.int .i64 tf,.int .i64 te,.bool top] 44∧zh W bx #[.int .i64 (y.await:Int),.slice o9 n9 c9,.bool y.body] 50∧yR W (.slice o9 n9 c9) y∧Below W0.heap.size W0 W∧W0.heap.size≤bt∧W0.heap.size≤bx
theorem zaK{V X:World}{bt bx:Nat}{tk tf te:Int}{top:Bool}{y:Lx}{o9:Option Addr}{n9 c9:Nat}{a0:Int}{q0:Option Addr}{q1 q2:Nat}{e0:Bool}(hb:Below V.heap.size V X)(hL:yR X (.slice o9 n9 c9) y)
 (kt:zh X bt #[.int .i64 tk,.int .i64 tf,.int .i64 te,.bool top] 44)(kx:zh X bx #[.int .i64 a0,.slice q0 q1 q2,.bool e0] 50)(hne:bt≠bx)(h1:V.heap.size≤bt)(h2:V.heap.size≤bx):
  dK V (((X.setCell ⟨bx,0,none⟩ (.int .i64 (y.await:Int))).setCell ⟨bx,1,none⟩ (.slice o9 n9 c9)).setCell ⟨bx,2,none⟩ (.bool y.body)) tk tf te top y (.pointer (some ⟨bt,0,none⟩)) (.pointer (some ⟨bx,0,none⟩)):=by
 have hF:zg (λk=>k=bx) X (((X.setCell ⟨bx,0,none⟩ (.int .i64 (y.await:Int))).setCell ⟨bx,1,none⟩ (.slice o9 n9 c9)).setCell ⟨bx,2,none⟩ (.bool y.body)):=
  zg.setCell (p:=λk=>k=bx) (zg.setCell (p:=λk=>k=bx) (zg.setCell (p:=λk=>k=bx) (zg.refl _ X) 0 (.inl rfl) _) 1 (.inl rfl) _) 2 (.inl rfl) _
 exact⟨bt,bx,o9,n9,c9,rfl,rfl,((kt.other 0 _ hne).other 1 _ hne).other 2 _ hne,((kx.set 0 _).set 1 _).set 2 _,hL.Y9 kx NJ hF,hb.trans (hF.below hb.size (λk hk=>by rw[hk];exact h2)),h1,h2⟩
theorem BP{V X:World}{bt bx:Nat}{tk tf te:Int}{top:Bool}{y:Lx}{o9:Option Addr}{n9 c9:Nat}{a0 b0 d0:Int}{f0:Bool}{q0:Option Addr}{q1 q2:Nat}{a1:Int}{e0:Bool}(hb:Below V.heap.size V X)(hL:yR X (.slice o9 n9 c9) y)
 (kt:zh X bt #[.int .i64 a0,.int .i64 b0,.int .i64 d0,.bool f0] 44)(kx:zh X bx #[.int .i64 a1,.slice q0 q1 q2,.bool e0] 50)(hne:bt≠bx)(h1:V.heap.size≤bt)(h2:V.heap.size≤bx):
  dK V (((((((X.setCell ⟨bt,0,none⟩ (.int .i64 tk)).setCell ⟨bt,1,none⟩ (.int .i64 tf)).setCell ⟨bt,2,none⟩ (.int .i64 te)).setCell ⟨bt,3,none⟩ (.bool top)).setCell ⟨bx,0,none⟩ (.int .i64 (y.await:Int))).setCell ⟨bx,1,none⟩ (.slice o9 n9 c9)).setCell ⟨bx,2,none⟩ (.bool y.body)) tk tf te top y (.pointer (some ⟨bt,0,none⟩)) (.pointer (some ⟨bx,0,none⟩)):=by
 have hF:zg (λk=>k=bt) X ((((X.setCell ⟨bt,0,none⟩ (.int .i64 tk)).setCell ⟨bt,1,none⟩ (.int .i64 tf)).setCell ⟨bt,2,none⟩ (.int .i64 te)).setCell ⟨bt,3,none⟩ (.bool top)):=
  zg.setCell (p:=λk=>k=bt) (zg.setCell (p:=λk=>k=bt) (zg.setCell (p:=λk=>k=bt) (zg.setCell (p:=λk=>k=bt) (zg.refl _ X) 0 (.inl rfl) _) 1 (.inl rfl) _) 2 (.inl rfl) _) 3 (.inl rfl) _
 exact zaK (hb.trans (hF.below hb.size (λk hk=>by rw[hk];exact h1))) (hL.Y9 kt zlT hF) ((((kt.set 0 _).set 1 _).set 2 _).set 3 _) ((((kx.other 0 _ hne.symm).other 1 _ hne.symm).other 2 _ hne.symm).other 3 _ hne.symm) hne h1 h2
theorem zjT{V X:World}{tk tf te:Int}{top:Bool}{y:Lx}{o9:Option Addr}{n9 c9:Nat}(hb:Below V.heap.size V X)(hL:yR X (.slice o9 n9 c9) y):
  dK V ((X.alloc (.cells #[.int .i64 tk,.int .i64 tf,.int .i64 te,.bool top] 44)).alloc (.cells #[.int .i64 (y.await:Int),.slice o9 n9 c9,.bool y.body] 50)) tk tf te top y (.pointer (some ⟨X.heap.size,0,none⟩)) (.pointer (some ⟨X.heap.size+1,0,none⟩)):=
 ⟨X.heap.size,X.heap.size+1,o9,n9,c9,rfl,rfl,(zh.new X _ _).alloc _,xU X _ _ _,hL.below (jd X _ _),hb.trans ((jd X _ _).mono hb.size),hb.size,Nat.le_succ_of_le hb.size⟩
theorem zjU{V X:World}{tk tf te:Int}{top:Bool}{y:Lx}{o9:Option Addr}{n9 c9:Nat}(hb:Below V.heap.size V X)(hL:yR X (.slice o9 n9 c9) y):
  dK V ((X.alloc (.cells #[.int .i64 (y.await:Int),.slice o9 n9 c9,.bool y.body] 50)).alloc (.cells #[.int .i64 tk,.int .i64 tf,.int .i64 te,.bool top] 44)) tk tf te top y (.pointer (some ⟨X.heap.size+1,0,none⟩)) (.pointer (some ⟨X.heap.size,0,none⟩)):=
 ⟨X.heap.size+1,X.heap.size,o9,n9,c9,rfl,rfl,xU X _ _ _,(zh.new X _ _).alloc _,hL.below (jd X _ _),hb.trans ((jd X _ _).mono hb.size),Nat.le_succ_of_le hb.size,hb.size⟩
end Go.Proofs.YtdjcidackkogjaaGreatDoor

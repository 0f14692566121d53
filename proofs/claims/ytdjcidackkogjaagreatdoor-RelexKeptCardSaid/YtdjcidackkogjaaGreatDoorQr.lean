/- What Step of layer 9 (token) returns, and the libr -/
import Derived.Test.YtdjcidackkogjaaGreatDoorQq
namespace Go.Proofs.YtdjcidackkogjaaGreatDoor
set_option linter.unusedSectionVars false
set_option linter.unusedVariables false
open Lib(hid)
set_option maxHeartbeats 8000000
set_option maxRecDepth 100000
open Go.RowKit
theorem nU{w:World}{base:Nat}{e:TypeId}{k n:Nat}{oa:Option Addr}{c m:Nat}{xs:List Value}(h:w.ownsRow base e k (.slice oa m c) n xs):n≤c:=by
 rcases h.2 with⟨h1,h2⟩|⟨g,cap,cur,h1,h2,h3,h4,h5⟩
 ·omega
 ·injection h1 with _ _ e3
  omega
section
variable(w:World)(l:List Dl)(oa:Option Addr)(n c:Nat)(hS:Src w (.slice oa n c) n (zx l))(hn:n=l.length)(hl:n≤900000)
include hS hn hl
theorem zas:Calls Tryz.prog 61 #[.slice oa n c] w λe w'=>∃yD c',e=.returned (.slice yD n c')∧w'.ownsRow w.heap.size 87 2 (.slice yD n c') n (zx l)∧Below w.heap.size w w':=by
 have HS:=hid hS;have HN:=hid hn;rcases hS with⟨h1,h2,h3⟩|⟨b,off,c2,h1,h2,h3⟩
 ·injection h1 with e1 e2 e3
  have H3:=hid h3;subst e1 e3;subst h2;clear hn h3;have heq:=Lib.run_eql_slice_nil (P:=Tryz.prog) w 48 87 none 0 0 0 0 Tryz.underlying48;go_enter Tryz.func61,Tryz.ntmps61;go_wp2;go_ret;refine⟨_,_,rfl,?_,Below.refl _ _⟩;rw[H3.out];exact World.ownsRow_nil _ _ _ _
 ·injection h1 with e1 e2 e3
  subst e1;clear hn e3 h3;have heq:=Lib.run_eql_slice_nil (P:=Tryz.prog) w 48 87 (some ⟨b,off,none⟩) n c 0 0 Tryz.underlying48;go_enter Tryz.func61,Tryz.ntmps61
  go_wp2_with (at_builtin;refine jh rfl _ _ 48 87 2 24 _ rfl Tryz.underlying48 Jp rfl (by omega) (by omega) w.heap.size (.slice (some ⟨w.heap.size,0,none⟩) 0 0) 0 [] rfl (zbw w) _ n (zx l) rfl (HS.out.below ((Below.refl _ _).alloc (Nat.le_refl _) _)) (NT HN.out) (Qk l) (by omega) (by rw[World.size_alloc];exact Nat.le_succ _) n (Nat.zero_add n) ?_;intro Yr c8 w8 XH jC Z7)
  go_ret;exact⟨_,_,rfl,XH,((Below.refl w.heap.size w).alloc (Nat.le_refl _) (.cells #[] 87)).grown jC (by rw[World.size_alloc];exact Nat.le_succ _) (λk hk=>by have:w.heap.size=k:=(by injection hk);omega)⟩
end
theorem vJ.uT{W:World}{base:Nat}{oa:Option Addr}{n c:Nat}{x:Lx}(h:W.ownsRow base 87 2 (.slice oa n c) n (zx x.pend))(hn:n=x.pend.length)(hb:1≤base):vJ W (.slice oa n c) x:=by
 have hcap:=nU h;have hlt:=ji h;have hge:=yH h;subst hn;exact⟨Src.uT h,λ_=>JR h hb,λg hg=>⟨by have:=hge g hg;omega,hlt g hg⟩,⟨oa,c,rfl,hcap⟩⟩
section
variable(w:World)(x:Lx)(oa:Option Addr)(n c:Nat)(hM:yR w (.slice oa n c) x)(s:ByteArray)(hs:s.size≤900)(hT:Tx w)(hpl:x.pend.length≤800000)(haw:x.await≤1000)
include hM hs hT hpl haw
theorem zjN(a:Nat)(ha:a<s.size):
  Calls Tryz.prog 77 #[.string s,.int .i64 (a:Int),zD x (.slice oa n c)] w λe w'=>∃yD n' c',e=.returned (.tuple #[yJ (zo s a x),zD (zy s a x) (.slice yD n' c')])∧yR w' (.slice yD n' c') (zy s a x)∧Below w.heap.size w w':=by
 have hn:n=x.pend.length:=by
  obtain⟨yD,c',he,_⟩:=hM.cap;injection he
 have hB0:=ZO w (.cells #[.int .i64 (x.await:Int),.slice oa n c,.bool x.body] 50) (.cells #[.int .i64 0,.int .i64 0,.int .i64 0,.bool false] 44) (.cells #[.int .i64 0,.slice none 0 0,.bool false] 50);have hst:=xA.new w (x.await:Int) (.slice oa n c) x.body;have hcl:∀W,Below w.heap.size w W→_:=λW hW=>zas W x.pend oa n c (by have:=(hM.below hW).src;rw[←hn]at this;exact this) hn (by omega);have Xw:=hid hcl;have hnx:∀W yD c',Below w.heap.size w W→vJ W (.slice yD n c') x→_:=λW yD c' hW hL=>zlb W x yD n c' s a ha hs (hT.b hW) hL hpl haw;have jD:=hid hnx;have HN:=hid hn;have hw1:1≤w.heap.size:=hT.1;unfold zD at jD ⊢;generalize zo s a x=t at*;generalize zy s a x=y at*;obtain⟨A,pd,bd⟩:=x;obtain⟨tk,tf,te,top⟩:=t;unfold yJ at jD ⊢;dsimp only at hst hB0 Xw jD HN ⊢;have q0:¬(a:Int)<0:=by omega
 have q1:¬(s.size:Int)≤(a:Int):=by omega
 have q2:(a:Int)<(s.size:Int):=by omega
 have zY:=hst.kb.cell 1;have KA:=hst.kb.frozen 1;clear hcl hnx hn hM hT hpl haw;go_enter Tryz.func77,Tryz.ntmps77
 go_wp2_with fail
 obtain⟨W,hW⟩:∃X,(((w.alloc (.cells #[.int .i64 (A:Int),.slice oa n c,.bool bd] 50)).alloc (.cells #[.int .i64 0,.int .i64 0,.int .i64 0,.bool false] 44)).alloc (.cells #[.int .i64 0,.slice none 0 0,.bool false] 50))=X:=⟨_,rfl⟩;obtain⟨Bx,hBx⟩:∃z,w.heap.size=z:=⟨_,rfl⟩;rw[hW]at hst zY KA hB0 ⊢;rw[hBx]at hst zY KA ⊢;have yt:=hid hBx;clear hW hBx;refine(Xw.out _ hB0).mono ?_;rintro e w1 ⟨y8,c1,rfl,ho1,hb1⟩;have hst1:=hst.below hb1;have a1:=hst1.kb.cell 1;have f1:=hst1.kb.frozen 1;clear zY KA;have hkl:=hst1.kr.lt;have hF:zg (λb=>b=Bx) w1 (w1.setCell ⟨Bx,1,none⟩ (.slice y8 n c1)):=zg.setCell (p:=λb=>b=Bx) (zg.refl _ w1) 1 (.inl rfl) _;have hWl:Bx+3≤W.heap.size:=by have:=hst.kr.lt;omega
 have NR:=yH ho1;have ho2:=zQ hF ho1 (λg hg hh=>by have:=NR g hg;omega);have kb2:=hst1.kb.set 1 (.slice y8 n c1);have VM:=hst1.kt.other 1 (.slice y8 n c1) (b':=Bx) (by omega);have yh:=hst1.kr.other 1 (.slice y8 n c1) (b':=Bx) (by omega);have tX:Below w.heap.size w (w1.setCell ⟨Bx,1,none⟩ (.slice y8 n c1)):=hst1.bl.setCell (p:=⟨Bx,1,none⟩) (by have:=yt.out;show w.heap.size≤Bx;omega) _
 go_upto_region 2 with fail
 obtain⟨W2,hW2⟩:∃Y,w1.setCell ⟨Bx,1,none⟩ (.slice y8 n c1)=Y:=⟨_,rfl⟩;rw[hW2]at ho2 kb2 VM yh tX hF ⊢;clear hW2 a1 f1 ho1;have ed:zh W2 Bx #[.int .i64 (A:Int),.slice y8 n c1,.bool bd] 50:=kb2;have hL:=vJ.uT (x:=⟨A,pd,bd⟩) ho2 HN.out (by omega);have hnx2:=jD.out W2 y8 c1 tX hL;have zlS:=hid hnx2;have HL:=hid hL;have eF:=hid NR;have b0:=ed.cell 0;have b1:=ed.cell 1;have b2:=ed.cell 2;clear hnx2 hL NR kb2 ho2 hF
 go_wp2_with fail
 refine(zlS.out).mono ?_;rintro e w3 ⟨Xv,n3,c3,rfl,wF,hF3,hg3⟩;have hlt2:Bx+3≤W2.heap.size:=by have:=yh.lt;omega
 have hnb:∀b,b≤Bx+1+1→¬(Value.slice y8 n c1).ownBlock=some b:=λb hb e=>by have:=eF.out b e;omega
 have uP:=VM.zf hF3 (hnb _ (by omega));have yK:=yh.zf hF3 (hnb _ (by omega));have t0:=uP.cell 0;have t1:=uP.cell 1;have t2:=uP.cell 2;have t3:=uP.cell 3;have kT:=uP.frozen 0;have kU:=uP.frozen 1;have kV:=uP.frozen 2;have kW:=uP.frozen 3;have r0:=yK.cell 0;have r1:=yK.cell 1;have r2:=yK.cell 2;have kH:=yK.frozen 0;have kJ:=yK.frozen 1;have kK:=yK.frozen 2;have HM3:=hid wF;have HG3:=hid hg3;clear wF hg3;have zbx:Below w.heap.size w w3:=tX.trans (hF3.below tX.size (λk hk=>by have:=eF.out k hk;have:=yt.out;omega));go_wp2;have hst3:xA w (A:Int) (.slice oa n c) bd Bx w3→True:=λ_=>trivial;have e6:=(((uP.set 0 (.int .i64 (tk:Int))).set 1 (.int .i64 (tf:Int))).set 2 (.int .i64 (te:Int))).set 3 (.bool top);have f6:=((e6.other 0 (.int .i64 (y.await:Int)) (b':=Bx+1+1) (by omega)).other 1 (.slice Xv n3 c3) (b':=Bx+1+1) (by omega)).other 2 (.bool y.body) (b':=Bx+1+1) (by omega);have e7:=(((yK.other 0 (.int .i64 (tk:Int)) (b':=Bx+1) (by omega)).other 1 (.int .i64 (tf:Int)) (b':=Bx+1) (by omega)).other 2 (.int .i64 (te:Int)) (b':=Bx+1) (by omega)).other 3 (.bool top) (b':=Bx+1) (by omega);have f7:=((e7.set 0 (.int .i64 (y.await:Int))).set 1 (.slice Xv n3 c3)).set 2 (.bool y.body);have yZ:zg (λb=>b=Bx+1∨b=Bx+1+1) w3 (((((((w3.setCell ⟨Bx+1,0,none⟩ (.int .i64 (tk:Int))).setCell ⟨Bx+1,1,none⟩ (.int .i64 (tf:Int))).setCell ⟨Bx+1,2,none⟩ (.int .i64 (te:Int))).setCell ⟨Bx+1,3,none⟩ (.bool top)).setCell ⟨Bx+1+1,0,none⟩ (.int .i64 (y.await:Int))).setCell ⟨Bx+1+1,1,none⟩ (.slice Xv n3 c3)).setCell ⟨Bx+1+1,2,none⟩ (.bool y.body)):=
  (((((((zg.refl _ w3).setCell 0 (.inl (.inl rfl)) _).setCell 1 (.inl (.inl rfl)) _).setCell 2 (.inl (.inl rfl)) _).setCell 3 (.inl (.inl rfl)) _).setCell 0 (.inl (.inr rfl)) _).setCell 1 (.inl (.inr rfl)) _).setCell 2 (.inl (.inr rfl)) _
 obtain⟨W5,xC⟩:∃X,((((((w3.setCell ⟨Bx+1,0,none⟩ (.int .i64 (tk:Int))).setCell ⟨Bx+1,1,none⟩ (.int .i64 (tf:Int))).setCell ⟨Bx+1,2,none⟩ (.int .i64 (te:Int))).setCell ⟨Bx+1,3,none⟩ (.bool top)).setCell ⟨Bx+1+1,0,none⟩ (.int .i64 (y.await:Int))).setCell ⟨Bx+1+1,1,none⟩ (.slice Xv n3 c3)).setCell ⟨Bx+1+1,2,none⟩ (.bool y.body)=X:=⟨_,rfl⟩;rw[xC]at f6 f7 yZ ⊢;have h0:W5.cell? ⟨Bx+1,0,none⟩=some (.int .i64 (tk:Int)):=f6.cell 0;have h1:W5.cell? ⟨Bx+1,1,none⟩=some (.int .i64 (tf:Int)):=f6.cell 1;have h2:W5.cell? ⟨Bx+1,2,none⟩=some (.int .i64 (te:Int)):=f6.cell 2;have h3:W5.cell? ⟨Bx+1,3,none⟩=some (.bool top):=f6.cell 3;have i0:W5.cell? ⟨Bx+1+1,0,none⟩=some (.int .i64 (y.await:Int)):=f7.cell 0;have i1:W5.cell? ⟨Bx+1+1,1,none⟩=some (.slice Xv n3 c3):=f7.cell 1;have i2:W5.cell? ⟨Bx+1+1,2,none⟩=some (.bool y.body):=f7.cell 2;refine bodyPost_ret (v:=.tuple #[.agg #[.int .i64 (tk:Int),.int .i64 (tf:Int),.int .i64 (te:Int),.bool top],.agg #[.int .i64 (y.await:Int),.slice Xv n3 c3,.bool y.body]]) (by simp[results,Tryz.results77,go_sem,h0,h1,h2,h3,i0,i1,i2]) rfl ?_;refine⟨Xv,n3,c3,rfl,(HM3.out.zf yZ (λg hg hh=>?_)).rd,zbx.trans (yZ.below zbx.size (λb hb=>by have:=yt.out;omega))⟩;rcases HG3.out g hg with q|q
 ·have:=eF.out g q;omega
 ·omega
end
theorem yR.Y9{W W':World}{pv:Value}{x:Lx}{B:Nat}{cs:Array Value}{t:TypeId}(h:yR W pv x)(hB:zh W B cs t)(hcs:∀(j:Nat) (u:ByteArray),cs[j]?≠some (.string u))(hF:zg (λk=>k=B) W W'):yR W' pv x:=by
 refine⟨?_,h.cap⟩;rcases h.src with q|⟨g,off,c2,h1,h2,h3⟩
 ·exact .inl q
 ·refine .inr ⟨g,off,c2,h1,Nat.lt_of_lt_of_le h2 hF.size,λj u hj=>?_⟩
  by_cases e:g=B
  ·exfalso
   subst e;obtain⟨d,ds,hp⟩:∃d ds,x.pend=d::ds:=by
    cases hx:x.pend with
    |nil=>rw[hx]at hj;cases hj
    |cons d ds=>exact⟨d,ds,rfl⟩
   have hs:=h3 0 (.string d.word) (by rw[hp,qR];rfl);rw[Nat.add_zero,hB.cell off]at hs;exact hcs _ _ hs
  ·exact(hF.cell (a:=⟨g,off+j,none⟩) h2 e).trans (h3 j u hj)
theorem zlT{a b c:Int}{d:Bool}(j:Nat)(u:ByteArray):(#[.int .i64 a,.int .i64 b,.int .i64 c,.bool d]:Array Value)[j]?≠some (.string u):=by
 match j with
 |0=>simp
 |1=>simp
 |2=>simp
 |3=>simp
 |k+4=>simp
theorem NJ{a:Int}{o:Option Addr}{n c:Nat}{d:Bool}(j:Nat)(u:ByteArray):(#[.int .i64 a,.slice o n c,.bool d]:Array Value)[j]?≠some (.string u):=by
 match j with
 |0=>simp
 |1=>simp
 |2=>simp
 |k+3=>simp
def dK(W0 W:World)(tk tf te:Int)(top:Bool)(y:Lx)(v10 v11:Value):Prop:=
 ∃(bt bx:Nat) (o9:Option Addr) (n9 c9:Nat),v10=.pointer (some ⟨bt,0,none⟩)∧v11=.pointer (some ⟨bx,0,none⟩)∧zh W bt #[.int .i64 tk,.int .i64 tf,.int .i64 te,.bool top] 44∧zh W bx #[.int .i64 (y.await:Int),.slice o9 n9 c9,.bool y.body] 50∧yR W (.slice o9 n9 c9) y∧Below W0.heap.size W0 W∧W0.heap.size≤bt∧W0.heap.size≤bx
theorem zaK{V X:World}{bt bx:Nat}{tk tf te:Int}{top:Bool}{y:Lx}{o9:Option Addr}{n9 c9:Nat}{a0:Int}{q0:Option Addr}{q1 q2:Nat}{e0:Bool}(hb:Below V.heap.size V X)(hL:yR X (.slice o9 n9 c9) y)
 (kt:zh X bt #[.int .i64 tk,.int .i64 tf,.int .i64 te,.bool top] 44)(kx:zh X bx #[.int .i64 a0,.slice q0 q1 q2,.bool e0] 50)(hne:bt≠bx)(h1:V.heap.size≤bt)(h2:V.heap.size≤bx):
  dK V (((X.setCell ⟨bx,0,none⟩ (.int .i64 (y.await:Int))).setCell ⟨bx,1,none⟩ (.slice o9 n9 c9)).setCell ⟨bx,2,none⟩ (.bool y.body)) tk tf te top y (.pointer (some ⟨bt,0,none⟩)) (.pointer (some ⟨bx,0,none⟩)):=by
 have hF:zg (λk=>k=bx) X (((X.setCell ⟨bx,0,none⟩ (.int .i64 (y.await:Int))).setCell ⟨bx,1,none⟩ (.slice o9 n9 c9)).setCell ⟨bx,2,none⟩ (.bool y.body)):=
  zg.setCell (p:=λk=>k=bx) (zg.setCell (p:=λk=>k=bx) (zg.setCell (p:=λk=>k=bx) (zg.refl _ X) 0 (.inl rfl) _) 1 (.inl rfl) _) 2 (.inl rfl) _
 exact⟨bt,bx,o9,n9,c9,rfl,rfl,((kt.other 0 _ hne).other 1 _ hne).other 2 _ hne,((kx.set 0 _).set 1 _).set 2 _,hL.Y9 kx NJ hF,hb.trans (hF.below hb.size (λk hk=>by rw[hk];exact h2)),h1,h2⟩
theorem BP{V X:World}{bt bx:Nat}{tk tf te:Int}{top:Bool}{y:Lx}{o9:Option Addr}{n9 c9:Nat}{a0 b0 d0:Int}{f0:Bool}{q0:Option Addr}{q1 q2:Nat}{a1:Int}{e0:Bool}(hb:Below V.heap.size V X)(hL:yR X (.slice o9 n9 c9) y)
 (kt:zh X bt #[.int .i64 a0,.int .i64 b0,.int .i64 d0,.bool f0] 44)(kx:zh X bx #[.int .i64 a1,.slice q0 q1 q2,.bool e0] 50)(hne:bt≠bx)(h1:V.heap.size≤bt)(h2:V.heap.size≤bx):
  dK V (((((((X.setCell ⟨bt,0,none⟩ (.int .i64 tk)).setCell ⟨bt,1,none⟩ (.int .i64 tf)).setCell ⟨bt,2,none⟩ (.int .i64 te)).setCell ⟨bt,3,none⟩ (.bool top)).setCell ⟨bx,0,none⟩ (.int .i64 (y.await:Int))).setCell ⟨bx,1,none⟩ (.slice o9 n9 c9)).setCell ⟨bx,2,none⟩ (.bool y.body)) tk tf te top y (.pointer (some ⟨bt,0,none⟩)) (.pointer (some ⟨bx,0,none⟩)):=by
 have hF:zg (λk=>k=bt) X ((((X.setCell ⟨bt,0,none⟩ (.int .i64 tk)).setCell ⟨bt,1,none⟩ (.int .i64 tf)).setCell ⟨bt,2,none⟩ (.int .i64 te)).setCell ⟨bt,3,none⟩ (.bool top)):=
  zg.setCell (p:=λk=>k=bt) (zg.setCell (p:=λk=>k=bt) (zg.setCell (p:=λk=>k=bt) (zg.setCell (p:=λk=>k=bt) (zg.refl _ X) 0 (.inl rfl) _) 1 (.inl rfl) _) 2 (.inl rfl) _) 3 (.inl rfl) _
 exact zaK (hb.trans (hF.below hb.size (λk hk=>by rw[hk];exact h1))) (hL.Y9 kt zlT hF) ((((kt.set 0 _).set 1 _).set 2 _).set 3 _) ((((kx.other 0 _ hne.symm).other 1 _ hne.symm).other 2 _ hne.symm).other 3 _ hne.symm) hne h1 h2
theorem zjT{V X:World}{tk tf te:Int}{top:Bool}{y:Lx}{o9:Option Addr}{n9 c9:Nat}(hb:Below V.heap.size V X)(hL:yR X (.slice o9 n9 c9) y):
  dK V ((X.alloc (.cells #[.int .i64 tk,.int .i64 tf,.int .i64 te,.bool top] 44)).alloc (.cells #[.int .i64 (y.await:Int),.slice o9 n9 c9,.bool y.body] 50)) tk tf te top y (.pointer (some ⟨X.heap.size,0,none⟩)) (.pointer (some ⟨X.heap.size+1,0,none⟩)):=
 ⟨X.heap.size,X.heap.size+1,o9,n9,c9,rfl,rfl,(zh.new X _ _).alloc _,xU X _ _ _,hL.below (jd X _ _),hb.trans ((jd X _ _).mono hb.size),hb.size,Nat.le_succ_of_le hb.size⟩
theorem zjU{V X:World}{tk tf te:Int}{top:Bool}{y:Lx}{o9:Option Addr}{n9 c9:Nat}(hb:Below V.heap.size V X)(hL:yR X (.slice o9 n9 c9) y):
  dK V ((X.alloc (.cells #[.int .i64 (y.await:Int),.slice o9 n9 c9,.bool y.body] 50)).alloc (.cells #[.int .i64 tk,.int .i64 tf,.int .i64 te,.bool top] 44)) tk tf te top y (.pointer (some ⟨X.heap.size+1,0,none⟩)) (.pointer (some ⟨X.heap.size,0,none⟩)):=
 ⟨X.heap.size+1,X.heap.size,o9,n9,c9,rfl,rfl,xU X _ _ _,(zh.new X _ _).alloc _,hL.below (jd X _ _),hb.trans ((jd X _ _).mono hb.size),Nat.le_succ_of_le hb.size,hb.size⟩
structure Tz where
 kind:Int
 zf:Int
 en:Int
 op:Bool
structure Lf where
 kind:Int
 text:ByteArray
 zf:Int
 en:Int
def Tk.z(t:Tk):Tz:=⟨t.kind,t.zf,t.en,t.op⟩
structure Wy(W:World)(oa:Option Addr)(n:Nat)(l:List Tz):Prop where
 len:n=l.length
 cells:∀(j:Nat) t,l[j]?=some t→∃b off,oa=some ⟨b,off,none⟩∧b<W.heap.size∧W.cell? ⟨b,off+j*4,none⟩=some (.int .i64 t.kind)∧W.cell? ⟨b,off+j*4+1,none⟩=some (.int .i64 t.zf)∧W.cell? ⟨b,off+j*4+2,none⟩=some (.int .i64 t.en)∧W.cell? ⟨b,off+j*4+3,none⟩=some (.bool t.op)
theorem Wy.below{W W':World}{oa:Option Addr}{n:Nat}{l:List Tz}(h:Wy W oa n l)(hb:Below W.heap.size W W'):Wy W' oa n l:=
 ⟨h.len,λj d hj=>by
  obtain⟨b,off,h1,h2,h3,h4,h5,h6⟩:=h.cells j d hj;have e:∀o,W'.cell? ⟨b,o,none⟩=W.cell? ⟨b,o,none⟩:=λo=>hb.cell (p:=⟨b,o,none⟩) h2;exact⟨b,off,h1,Nat.lt_of_lt_of_le h2 hb.size,(e _).trans h3,(e _).trans h4,(e _).trans h5,(e _).trans h6⟩⟩
theorem ZL.z{W:World}{oa:Option Addr}{n:Nat}{l:List Tk}(h:ZL W oa n l):Wy W oa n (l.map Tk.z):=
 ⟨by rw[List.length_map];exact h.len,λj t hj=>by
  rw[List.getElem?_map]at hj;obtain⟨u,hu1,hu2⟩:=Option.map_eq_some_iff.1 hj;subst hu2;exact h.cells j u hu1⟩
def XR(x:Lf):List Value:=[.int .i64 x.kind,.string x.text,.int .i64 x.zf,.int .i64 x.en]
def jm(l:List Lf):List Value:=l.flatMap XR
theorem zbP:∀(l:List Lf) (j k:Nat) (t:Lf),l[j]?=some t→k<4→(jm l)[j*4+k]?=(XR t)[k]?
 | [],j,k,t,h,_=>by cases h
 |a::l,0,k,t,h,hk=>by
  cases h;show(XR a++jm l)[0*4+k]?=_;rw[List.getElem?_append_left (by show 0*4+k<4;omega),Nat.zero_mul,Nat.zero_add]
 |a::l,j+1,k,t,h,hk=>by
  show(XR a++jm l)[(j+1)*4+k]?=_;rw[List.getElem?_append_right (by show 4≤_;omega),show(j+1)*4+k-(XR a).length=j*4+k from by show(j+1)*4+k-4=_;omega];exact zbP l j k t h hk
structure KO(W:World)(oa:Option Addr)(n:Nat)(l:List Lf):Prop where
 len:n=l.length
 cells:∀(j:Nat) t,l[j]?=some t→∃b off,oa=some ⟨b,off,none⟩∧b<W.heap.size∧W.cell? ⟨b,off+j*4,none⟩=some (.int .i64 t.kind)∧W.cell? ⟨b,off+j*4+1,none⟩=some (.string t.text)∧W.cell? ⟨b,off+j*4+2,none⟩=some (.int .i64 t.zf)∧W.cell? ⟨b,off+j*4+3,none⟩=some (.int .i64 t.en)
theorem KO.below{W W':World}{oa:Option Addr}{n:Nat}{l:List Lf}(h:KO W oa n l)(hb:Below W.heap.size W W'):KO W' oa n l:=
 ⟨h.len,λj d hj=>by
  obtain⟨b,off,h1,h2,h3,h4,h5,h6⟩:=h.cells j d hj;have e:∀o,W'.cell? ⟨b,o,none⟩=W.cell? ⟨b,o,none⟩:=λo=>hb.cell (p:=⟨b,o,none⟩) h2;exact⟨b,off,h1,Nat.lt_of_lt_of_le h2 hb.size,(e _).trans h3,(e _).trans h4,(e _).trans h5,(e _).trans h6⟩⟩
theorem KO.uT{W:World}{base:Nat}{v:Value}{l:List Lf}{n:Nat}(hn:n=l.length)(h:W.ownsRow base 59 4 v n (jm l)):∃oa c,v=.slice oa n c∧KO W oa n l:=by
 subst hn;rcases Src.uT h with⟨h1,h2,_⟩|⟨b,off,c,h1,h2,h3⟩
 ·have:=List.eq_nil_of_length_eq_zero h2
  subst this;exact⟨none,0,h1,rfl,λj t hj=>by cases hj⟩
 ·refine⟨_,c,h1,rfl,λj t hj=>?_⟩
  have g:=λk hk=>zbP l j k t hj hk;refine⟨b,off,rfl,h2,h3 (j*4) _ (g 0 (by omega)),?_,?_,?_⟩
  ·exact h3 (j*4+1) _ (g 1 (by omega))
  ·exact h3 (j*4+2) _ (g 2 (by omega))
  ·exact h3 (j*4+3) _ (g 3 (by omega))
end Go.Proofs.YtdjcidackkogjaaGreatDoor

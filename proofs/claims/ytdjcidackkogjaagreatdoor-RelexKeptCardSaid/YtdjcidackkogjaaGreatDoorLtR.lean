/- A row of pieces in memory; what the document's own -/
import Derived.Test.YtdjcidackkogjaaGreatDoorQh
import Derived.Test.YtdjcidackkogjaaGreatDoorAp
namespace Go.Proofs.YtdjcidackkogjaaGreatDoor
set_option linter.unusedSectionVars false
set_option linter.unusedVariables false
open Lib(hid)
set_option maxHeartbeats 16000000
set_option maxRecDepth 100000
open Go.RowKit
theorem uX:(Tryz.prog.info? 133).map (λi=>(i.zero,i.size,i.bytes))=some (some (.agg #[.bool false,.bool false,.string ⟨#[]⟩]),3,24):=by kernel_rfl
def zZ(L:List Pc):List Value:=L.flatMap vK
theorem Fj(a:Pc)(l:List Pc):zZ (a::l)=.bool a.ex::.bool a.q::.string a.t::zZ l:=by
 unfold zZ;rw[List.flatMap_cons];rfl
theorem GL(l:List Pc):(zZ l).length=l.length*3:=by
 induction l with
 |nil=>rfl
 |cons a l ih=>rw[Fj];simp only[List.length_cons,ih];omega
theorem kD(l k:List Pc):zZ (l++k)=zZ l++zZ k:=by unfold zZ;rw[List.flatMap_append]
theorem QP(l:List Pc):∀v∈zZ l,v.oneCell'=true:=by
 intro v hv;obtain⟨s,_,hs⟩:=List.mem_flatMap.1 hv;simp[vK]at hs;rcases hs with rfl|rfl|rfl<;>rfl
theorem Fp:∀{l:List Pc} {j:Nat} {p:Pc},l[j]?=some p→∀c v,(vK p)[c]?=some v→(zZ l)[j*3+c]?=some v
 | [],j,p,h,c,v,hv=>by simp at h
 |a::l,0,p,h,c,v,hv=>by
  simp at h;subst h;have hc:c<(vK a).length:=(List.getElem?_eq_some_iff.1 hv).1;show(zZ (a::l))[0*3+c]?=_;rw[Nat.zero_mul,Nat.zero_add];unfold zZ;rw[List.flatMap_cons,List.getElem?_append_left hc];exact hv
 |a::l,j+1,p,h,c,v,hv=>by
  have h':l[j]?=some p:=by simpa using h
  have ih:=Fp h' c v hv;have e:(j+1)*3+c=j*3+c+3:=by omega
  rw[e,Fj];simpa using ih
def vw(w:World)(base:Nat)(v:Value)(L:List Pc):Prop:=w.ownsRow base 133 3 v L.length (zZ L)
theorem vw.below{w w':World}{base:Nat}{v:Value}{L:List Pc}(h:vw w base v L)(hb:Below w.heap.size w w'):vw w' base v L:=vM h hb
theorem vw.lower{w:World}{base b:Nat}{v:Value}{L:List Pc}(h:vw w base v L)(hb:b≤base):vw w b v L:=by
 refine⟨h.1,?_⟩;rcases h.2 with h|⟨g,cap,cur,h1,h2,h3⟩
 ·exact .inl h
 ·exact .inr ⟨g,cap,cur,h1,by omega,h3⟩
structure GM(w:World)(oa:Option Addr)(n:Nat)(L:List Pc):Prop where
 len:n=L.length
 cells:∀i p,L[i]?=some p→∃ob,oa=some ⟨ob,0,none⟩∧ob<w.heap.size∧w.cell? ⟨ob,i*3,none⟩=some (.bool p.ex)∧w.cell? ⟨ob,i*3+1,none⟩=some (.bool p.q)∧w.cell? ⟨ob,i*3+2,none⟩=some (.string p.t)
theorem GM.below{w w':World}{oa:Option Addr}{n:Nat}{L:List Pc}(h:GM w oa n L)(hb:Below w.heap.size w w'):GM w' oa n L:=
 ⟨h.len,λi p hp=>by
  obtain⟨ob,h1,h2,h3,h4,h5⟩:=h.cells i p hp;exact⟨ob,h1,Nat.lt_of_lt_of_le h2 hb.size,(hb.cell (p:=⟨ob,_,none⟩) h2).trans h3,(hb.cell (p:=⟨ob,_,none⟩) h2).trans h4,(hb.cell (p:=⟨ob,_,none⟩) h2).trans h5⟩⟩
theorem vw.read{w:World}{base:Nat}{v:Value}{L:List Pc}(h:vw w base v L):∃oa n oc,v=.slice oa n oc∧GM w oa n L:=by
 have h':w.ownsRow base 133 3 v L.length (zZ L):=h;obtain⟨oa,oc,rfl⟩:=Zt h';refine⟨oa,_,oc,rfl,rfl,λi p hp=>?_⟩;have hl:i<L.length:=(List.getElem?_eq_some_iff.1 hp).1;obtain⟨ob,xM,hov,_,_,_,hlt⟩:=VT h' (by omega);obtain⟨rfl,rfl⟩:oa=some ⟨ob,0,none⟩∧oc=xM:=by simpa using hov
 have hc:=λc u (hu:(vK p)[c]?=some u)=>by
  have:=h'.cells (g:=ob) rfl (i*3+c) u (Fp hp c u hu);rw[Addr.add_lit,Nat.zero_add]at this;exact this
 exact⟨ob,rfl,hlt,hc 0 _ rfl,hc 1 _ rfl,hc 2 _ rfl⟩
theorem GM.get{w:World}{oa:Option Addr}{n:Nat}{L:List Pc}(h:GM w oa n L){i:Nat}(hi:i<n):∃ob p,oa=some ⟨ob,0,none⟩∧L[i]?=some p∧ob<w.heap.size∧w.cell? ⟨ob,i*3,none⟩=some (.bool p.ex)∧w.cell? ⟨ob,i*3+1,none⟩=some (.bool p.q)∧w.cell? ⟨ob,i*3+2,none⟩=some (.string p.t):=by
 have hl:i<L.length:=by have:=h.len;omega
 obtain⟨ob,h1⟩:=h.cells i L[i] (List.getElem?_eq_getElem hl);exact⟨ob,L[i],h1.1,List.getElem?_eq_getElem hl,h1.2⟩
theorem D7(W:World):(W.alloc (.cells #[] 133)).ownsRow W.heap.size 133 3 (.slice (some ⟨W.heap.size,0,none⟩) 0 0) 0 []:=
 ⟨rfl,.inr ⟨W.heap.size,0,_,rfl,Nat.le_refl _,World.alloc_heap_new W _,Nat.le_refl _,by unfold maxLen;omega,rfl,rfl⟩⟩
theorem kE(x:Pc):∀u∈vK x,u.oneCell'=true:=by
 intro u hu;simp[vK]at hu;rcases hu with rfl|rfl|rfl<;>rfl
theorem QQ(W:World)(x:Pc):Src (W.alloc (.cells #[.bool x.ex,.bool x.q,.string x.t] 133)) (.slice (some ⟨W.heap.size,0,none⟩) 1 1) 1 (vK x):=by
 refine .inr ⟨_,0,1,rfl,by simp,λj u hj=>?_⟩;have:=(zh.new W #[.bool x.ex,.bool x.q,.string x.t] 133).cell j;rw[Nat.zero_add,this];simpa[vK]using hj
theorem GN{w:World}{base:Nat}{e:TypeId}{k n:Nat}{v:Value}{xs:List Value}(h:w.ownsRow base e k v n xs):w.drew.ownsRow base e k v n xs:=vM h ((Below.refl _ w).drew)
theorem jS{w:World}{base:Nat}{e:TypeId}{k n:Nat}{v:Value}{xs:List Value}(h:w.ownsRow base e k v n xs)(o:Obj):(w.alloc o).ownsRow base e k v n xs:=
 vM h ((Below.refl _ w).alloc (Nat.le_refl _) o)
theorem JR{w:World}{base b:Nat}{e:TypeId}{k n:Nat}{v:Value}{xs:List Value}(h:w.ownsRow base e k v n xs)(hb:b≤base):w.ownsRow b e k v n xs:=by
 refine⟨h.1,?_⟩;rcases h.2 with h|⟨g,cap,cur,h1,h2,h3⟩
 ·exact .inl h
 ·exact .inr ⟨g,cap,cur,h1,by omega,h3⟩
theorem X6{W:World}{b:Nat}{x:Pc}(h:zh W b #[.bool x.ex,.bool x.q,.string x.t] 133):Src W (.slice (some ⟨b,0,none⟩) 1 1) 1 (vK x):=by
 refine .inr ⟨_,0,1,rfl,h.lt,λj u hj=>?_⟩;rw[Nat.zero_add,h.cell j];simpa[vK]using hj
theorem zcK{s:ByteArray}{a:Nat}(h1:a<s.size)(h2:born s a=true):∃i:Nat,(PL s)[i]?=some (prt s a):=by
 refine⟨idx s a,?_⟩;unfold PL;rw[List.getElem?_map,JS s a h2 h1];rfl
def zcL(s:ByteArray)(n a:Nat)(w:World)(v6:Value)(wr:World):Prop:=∃i:Nat,i≤n∧v6=.int .i64 (i:Int)∧(∀(j:Nat) p,j<i→(PL s)[j]?=some p→p.zf≠a)∧wr=w
def sD(s:ByteArray)(a:Nat)(e:Ending):Prop:=(a<s.size∧born s a=true∧e=.returned (.tuple #[uz (prt s a),.int .i64 1]))∨(¬(a<s.size∧born s a=true)∧e=.returned (.tuple #[.agg #[.int .i64 0,.int .i64 0,.int .i64 0,.int .i64 0,.bool false],.int .i64 0]))
section
variable(w:World)
theorem Fq(s:ByteArray)(oa:Option Addr)(n oc a:Nat)(hR:Xa w oa n (PL s))(hn:n≤60000)(ha:a≤1000000):
  Calls Tryz.prog 83 #[.slice oa n oc,.int .i64 (a:Int)] w λe w'=>sD s a e∧Below w.heap.size w w':=by
 have kb:=zh.new w #[.int .i64 0,.int .i64 0,.int .i64 0,.int .i64 0,.bool false] 142;have hB1:Below w.heap.size w (w.alloc (.cells #[.int .i64 0,.int .i64 0,.int .i64 0,.int .i64 0,.bool false] 142)):=(Below.refl _ w).alloc (Nat.le_refl _) _;have HR:=hid hR;clear hR;go_enter Tryz.func83,Tryz.ntmps83;go_wp2;obtain⟨W1,hW1⟩:∃X,w.alloc (.cells #[.int .i64 0,.int .i64 0,.int .i64 0,.int .i64 0,.bool false] 142)=X:=⟨_,rfl⟩;rw[hW1]at kb hB1 ⊢;have yu:=HR.out.below hB1;clear hW1
 go_loopw [6] (λv6 wr=>zcL s n a W1 v6 wr) (λv _=>n-(intOf v).toNat)
 case atStart=>exact⟨0,Nat.zero_le _,rfl,λj p h=>by omega,rfl⟩
 case round=>
  obtain⟨i,hi,rfl,hj,rfl⟩:=hrel;have f0:=kb.frozen 0;have f1:=kb.frozen 1;have f2:=kb.frozen 2;have f3:=kb.frozen 3;have f4:=kb.frozen 4;have c0:=kb.cell 0;have c1:=kb.cell 1;have c2:=kb.cell 2;have c3:=kb.cell 3;have c4:=kb.cell 4;by_cases hlt:(i:Int)<(n:Int)
  ·have hlt':i<n:=by omega
   have q0:(0:Int)≤(i:Int):=by omega
   obtain⟨ob,p,rfl,hp,_,a0,a1,a2,a3,a4⟩:=yu.at hlt';obtain⟨Fv,hf0,hpe,hf1,hbn,XX,hpt,_⟩:=fQ hp;have HJ:=hid hj;have HP:=hid hp;by_cases he:p.zf=a
   ·have hfi:sD s a (.returned (.tuple #[uz p,.int .i64 1])):=by
     left;have hfe:=qH s Fv;rw[←hpe]at hfe;have e2:Fv=a:=by omega
     subst e2;exact⟨by omega,hbn,by rw[hpe]⟩
    have vS:=hid hfi;have t1:((p.zf:Int)==(a:Int))=true:=beq_iff_eq.2 (by omega);clear hp hf0 hpe hf1 hbn XX hpt hj hfi he;go_wp2;have k5:=((((kb.set 0 (.int .i64 (p.mode:Int))).set 1 (.int .i64 (p.zf:Int))).set 2 (.int .i64 (p.to:Int))).set 3 (.int .i64 p.up)).set 4 (.bool p.op);have yA:=((((hB1.setCell (p:=⟨w.heap.size,0,none⟩) (Nat.le_refl _) (.int .i64 (p.mode:Int))).setCell (p:=⟨w.heap.size,1,none⟩) (Nat.le_refl _) (.int .i64 (p.zf:Int))).setCell (p:=⟨w.heap.size,2,none⟩) (Nat.le_refl _) (.int .i64 (p.to:Int))).setCell (p:=⟨w.heap.size,3,none⟩) (Nat.le_refl _) (.int .i64 p.up)).setCell (p:=⟨w.heap.size,4,none⟩) (Nat.le_refl _) (.bool p.op);have g0:=k5.cell 0;have g1:=k5.cell 1;have g2:=k5.cell 2;have g3:=k5.cell 3;have g4:=k5.cell 4;obtain⟨W5,xC⟩:∃X,((((wr.setCell ⟨w.heap.size,0,none⟩ (.int .i64 (p.mode:Int))).setCell ⟨w.heap.size,1,none⟩ (.int .i64 (p.zf:Int))).setCell ⟨w.heap.size,2,none⟩ (.int .i64 (p.to:Int))).setCell ⟨w.heap.size,3,none⟩ (.int .i64 p.up)).setCell ⟨w.heap.size,4,none⟩ (.bool p.op)=X:=⟨_,rfl⟩;rw[xC]at g0 g1 g2 g3 g4 yA ⊢;clear k5 kb c0 c1 c2 c3 c4 xC;have h0:W5.cell? ⟨w.heap.size,0,none⟩=some (.int .i64 (p.mode:Int)):=g0;have h1:W5.cell? ⟨w.heap.size,1,none⟩=some (.int .i64 (p.zf:Int)):=g1;have h2:W5.cell? ⟨w.heap.size,2,none⟩=some (.int .i64 (p.to:Int)):=g2;have h3:W5.cell? ⟨w.heap.size,3,none⟩=some (.int .i64 p.up):=g3;have h4:W5.cell? ⟨w.heap.size,4,none⟩=some (.bool p.op):=g4;refine bodyPost_ret (v:=.tuple #[uz p,.int .i64 1]) (by simp[results,Tryz.results83,go_sem,uz,h0,h1,h2,h3,h4]) rfl ?_;exact⟨vS.out,yA⟩
   ·have t1:((p.zf:Int)==(a:Int))=false:=beq_eq_false_iff_ne.2 (by omega)
    clear hp hf0 hpe hf1 hbn XX hpt hj;go_wp2
    go_roundw
    case rel=>
     refine⟨i+1,by omega,by go_num,λj q h hq=>?_,rfl⟩;rcases Nat.eq_or_lt_of_le (Nat.le_of_lt_succ h)with e|e
     ·subst e
      rw[HP.out]at hq;cases hq;exact he
     ·exact HJ.out j q e hq
    case measure=>simp[intOf];omega
  ·obtain rfl:i=n:=by omega
   have hfi:sD s a (.returned (.tuple #[.agg #[.int .i64 0,.int .i64 0,.int .i64 0,.int .i64 0,.bool false],.int .i64 0])):=by
    right;refine⟨λh=>?_,rfl⟩;obtain⟨k,hk⟩:=zcK h.1 h.2;have hl:=(List.getElem?_eq_some_iff.1 hk).1;exact hj k _ (by rw[yu.len];exact hl) hk (qH s a)
   have vS:=hid hfi;clear hj hfi yu;go_wp2;have k5:=((((kb.set 0 (.int .i64 0)).set 1 (.int .i64 0)).set 2 (.int .i64 0)).set 3 (.int .i64 0)).set 4 (.bool false);have yA:=((((hB1.setCell (p:=⟨w.heap.size,0,none⟩) (Nat.le_refl _) (.int .i64 0)).setCell (p:=⟨w.heap.size,1,none⟩) (Nat.le_refl _) (.int .i64 0)).setCell (p:=⟨w.heap.size,2,none⟩) (Nat.le_refl _) (.int .i64 0)).setCell (p:=⟨w.heap.size,3,none⟩) (Nat.le_refl _) (.int .i64 0)).setCell (p:=⟨w.heap.size,4,none⟩) (Nat.le_refl _) (.bool false);have g0:=k5.cell 0;have g1:=k5.cell 1;have g2:=k5.cell 2;have g3:=k5.cell 3;have g4:=k5.cell 4;obtain⟨W5,xC⟩:∃X,((((wr.setCell ⟨w.heap.size,0,none⟩ (.int .i64 0)).setCell ⟨w.heap.size,1,none⟩ (.int .i64 0)).setCell ⟨w.heap.size,2,none⟩ (.int .i64 0)).setCell ⟨w.heap.size,3,none⟩ (.int .i64 0)).setCell ⟨w.heap.size,4,none⟩ (.bool false)=X:=⟨_,rfl⟩;rw[xC]at g0 g1 g2 g3 g4 yA ⊢;clear k5 kb c0 c1 c2 c3 c4 xC;have h0:W5.cell? ⟨w.heap.size,0,none⟩=some (.int .i64 0):=g0;have h1:W5.cell? ⟨w.heap.size,1,none⟩=some (.int .i64 0):=g1;have h2:W5.cell? ⟨w.heap.size,2,none⟩=some (.int .i64 0):=g2;have h3:W5.cell? ⟨w.heap.size,3,none⟩=some (.int .i64 0):=g3;have h4:W5.cell? ⟨w.heap.size,4,none⟩=some (.bool false):=g4;refine bodyPost_ret (v:=.tuple #[.agg #[.int .i64 0,.int .i64 0,.int .i64 0,.int .i64 0,.bool false],.int .i64 0]) (by simp[results,Tryz.results83,go_sem,h0,h1,h2,h3,h4]) rfl ?_;exact⟨vS.out,yA⟩
theorem zcM(L:List Pc)(t:ByteArray)(fr:Bool)(v:Value)(hP:vw w 0 v L)(hl:L.length≤500000)(h:L=[]∨fr=true):
  Calls Tryz.prog 84 #[v,.string t,.bool fr] w λe w'=>∃v',e=.returned v'∧vw w' w.heap.size v' (L++ [⟨false,false,t⟩])∧Below w.heap.size w w':=by
 obtain⟨oa,oc,rfl⟩:=JD hP;obtain⟨n,hn⟩:∃n,L.length=n:=⟨_,rfl⟩;have VU:=hid (λX (hX:Below w.heap.size w X)=>(Src.uT hP).below hX);have hlc:=GL L;rw[hn]at VU hl hlc ⊢;have HN:=hid hn;have VV:=hid hlc;have hcond:n=0∨fr=true:=by rcases h with rfl|h;exact .inl (by rw[←hn];rfl);exact .inr h
 have hB1:Below w.heap.size w (w.alloc (.cells #[] 133)):=(Below.refl _ w).alloc (Nat.le_refl _) _;have Fz:=hid (D7 w);clear hn hP h hlc;have fin:∀(y8:Option Addr) (c1:Nat) (w1:World) (xq:Option Addr) (c2:Nat) (w2:World),(w.alloc (.cells #[] 133)).grownBy w1 (Value.slice (some ⟨w.heap.size,0,none⟩) 0 0).ownBlock→w1.ownsRow w.heap.size 133 3 (.slice y8 n c1) n ([]++zZ L)→(w1.alloc (.cells #[.bool false,.bool false,.string t] 133)).grownBy w2 (Value.slice y8 n c1).ownBlock→
   w2.ownsRow w.heap.size 133 3 (.slice xq (n+1) c2) (n+1) (([]++zZ L)++vK ⟨false,false,t⟩)→vw w2 w.heap.size (.slice xq (n+1) c2) (L++ [⟨false,false,t⟩])∧Below w.heap.size w w2:=by
  intro y8 c1 w1 xq c2 w2 hg1 ho1 hg2 ho2;have hBw1:Below w.heap.size w w1:=hB1.grown hg1 (by simp) (λk hk=>by simp[Value.ownBlock]at hk;omega);have hs1:=hBw1.size;refine⟨?_,((hBw1.alloc hs1 _).grown hg2 (by simp;omega) (λk hk=>yH ho1 k hk))⟩;have e:(L++ [(⟨false,false,t⟩:Pc)]).length=n+1:=by rw[List.length_append,HN.out];rfl
  show w2.ownsRow _ _ _ _ _ _;rw[e,kD];simpa[zZ]using ho2
 have FIN:=hid fin;clear fin;go_enter Tryz.func84,Tryz.ntmps84;by_cases h0:n=0
 ·subst h0
  go_wp2_with (at_builtin;first
   |(refine jh rfl _ _ 130 133 3 24 _ rfl Tryz.underlying130 uX rfl (by omega) (by omega) w.heap.size (.slice (some ⟨w.heap.size,0,none⟩) 0 0) 0 [] rfl Fz.out (.slice oa 0 oc) 0 (zZ L) rfl (VU.out _ hB1) VV.out (QP L) (by omega) (by simp) 0 rfl ?_;intro y8 c1 w1 hown1 xR hg1;have X7:=hid hown1;have sF:=hid xR;have sG:=xR.size;clear hown1 xR hg1)
   |(refine jh rfl _ _ 130 133 3 24 _ rfl Tryz.underlying130 uX rfl (by omega) (by omega) w.heap.size (.slice y8 0 c1) 0 ([]++zZ L) rfl (vM X7.out ((Below.refl _ w1).alloc (Nat.le_refl _) _)) _ 1 (vK ⟨false,false,t⟩) rfl (QQ w1 ⟨false,false,t⟩) rfl (kE _) (by omega) (by simp at sG ⊢;omega) 1 rfl ?_;intro xq c2 w2 hown2 kF hg2))
  go_ret;exact⟨_,rfl,FIN.out _ _ _ _ _ _ sF.out X7.out kF hown2⟩
 ·have hft:fr=true:=hcond.resolve_left h0
  subst hft;have h0':(0:Int)<(n:Int):=by omega
  go_wp2_with (at_builtin;first
   |(refine jh rfl _ _ 130 133 3 24 _ rfl Tryz.underlying130 uX rfl (by omega) (by omega) w.heap.size (.slice (some ⟨w.heap.size,0,none⟩) 0 0) 0 [] rfl Fz.out (.slice oa n oc) n (zZ L) rfl (VU.out _ hB1) VV.out (QP L) (by omega) (by simp) n (Nat.zero_add n) ?_;intro y8 c1 w1 hown1 xR hg1;have X7:=hid hown1;have sF:=hid xR;have sG:=xR.size;clear hown1 xR hg1)
   |(refine jh rfl _ _ 130 133 3 24 _ rfl Tryz.underlying130 uX rfl (by omega) (by omega) w.heap.size (.slice y8 n c1) n ([]++zZ L) rfl (vM X7.out ((Below.refl _ w1).alloc (Nat.le_refl _) _)) _ 1 (vK ⟨false,false,t⟩) rfl (QQ w1 ⟨false,false,t⟩) rfl (kE _) (by omega) (by simp at sG ⊢;omega) (n+1) rfl ?_;intro xq c2 w2 hown2 kF hg2))
  go_ret;exact⟨_,rfl,FIN.out _ _ _ _ _ _ sF.out X7.out kF hown2⟩
theorem zcN(A:List Pc)(h t:ByteArray)(v:Value)(hP:vw w 0 v (A++ [⟨false,false,h⟩]))(hl:A.length≤400000)(hh:h.size≤1000000)(ht:t.size≤1000000):
  Calls Tryz.prog 84 #[v,.string t,.bool false] w λe w'=>∃v',e=.returned v'∧vw w' w.heap.size v' (A++ [⟨false,false,h++t⟩])∧Below w.heap.size w w':=by
 obtain⟨oa,oc,rfl⟩:=JD hP;obtain⟨m,hm⟩:∃m,A.length=m:=⟨_,rfl⟩;obtain⟨n,hn⟩:∃n,(A++ [(⟨false,false,h⟩:Pc)]).length=n:=⟨_,rfl⟩;have hnm:n=m+1:=by rw[←hn,←hm,List.length_append];rfl
 have hmn:m=n-1:=by omega
 obtain⟨yD,n',oc',he,yu⟩:=hP.read;rw[hn]at he;injection he with e1 e2 e3;subst e1 e2 e3;obtain⟨ob,hob,hol,a0,a1,a2⟩:=yu.cells m ⟨false,false,h⟩ (by rw[←hm];simp);subst hob;have FB:Src w (.slice (some ⟨ob,0,none⟩) n oc) n (zZ (A++ [⟨false,false,h⟩])):=by have:=Src.uT hP;rw[hn]at this;exact this
 have hsrc1:=FB.take (k:=3) (m':=m) (by omega) (by omega);have htk:(zZ (A++ [(⟨false,false,h⟩:Pc)])).take (m*3)=zZ A:=by
  rw[kD,List.take_append_of_le_length (by rw[GL,hm];exact Nat.le_refl _),List.take_of_length_le (by rw[GL,hm];exact Nat.le_refl _)]
 rw[htk]at hsrc1;have sH:IntKind.i64.wrap ((n:Int)-1)=(m:Int):=by rw[IntWalk.i64_in _ (by omega)];omega
 have hoc:n≤oc:=by
  obtain⟨g,cap,hg,_,h3,_⟩:=VT (show w.ownsRow 0 133 3 (.slice (some ⟨ob,0,none⟩) n oc) n _ from by have:=hP;unfold vw at this;rw[hn]at this;exact this) (by omega);injection hg with _ _ e3;omega
 have VU:=hid (λX (hX:Below w.heap.size w X)=>hsrc1.below hX);have hlc:(zZ A).length=m*3:=by rw[GL,hm]
 have HM:=hid hm;have VV:=hid hlc;obtain⟨X,hX⟩:∃X,h++t=X:=⟨_,rfl⟩;have qY:X.size≤2000000:=by rw[←hX,ByteArray.size_append];omega
 have hsum:h.size+t.size≤2000000:=by omega
 rw[hX,hn];have i1:n≤m+1:=by omega
 have i2:m+1≤n:=by omega
 have i3:m≤400000:=by omega
 have HNM:=hid hnm;clear hn hm hP hlc htk FB hsrc1 yu hnm hmn hl;go_enter Tryz.func84,Tryz.ntmps84;have q0:(0:Int)<(n:Int):=by omega
 have q1:(m:Int)<(n:Int):=by omega
 have q2:(0:Int)≤(m:Int):=by omega
 go_wp2;have kb:=zh.new w #[.bool false,.bool false,.string h] 133;have hB1:Below w.heap.size w (w.alloc (.cells #[.bool false,.bool false,.string h] 133)):=(Below.refl _ w).alloc (Nat.le_refl _) _;have hz1:(w.alloc (.cells #[.bool false,.bool false,.string h] 133)).heap.size=w.heap.size+1:=by simp
 obtain⟨W1,hW1⟩:∃X,w.alloc (.cells #[.bool false,.bool false,.string h] 133)=X:=⟨_,rfl⟩;rw[hW1]at kb hB1 hz1 ⊢;clear hW1;obtain⟨z,hz⟩:∃z,W1.heap.size=z:=⟨_,rfl⟩;have hwz:w.heap.size<z:=by omega
 have zmt:w.heap.size≠z:=by omega
 clear hz1;have b1:∀A,Below w.heap.size w (W1.alloc A).drew:=λA=>(hB1.alloc (by omega) A).drew;have b2:∀A B,Below w.heap.size w ((W1.alloc A).alloc B).drew:=λA B=>((hB1.alloc (by omega) A).alloc (by simp;omega) B).drew;have k1:∀A,zh (W1.alloc A).drew w.heap.size #[.bool false,.bool false,.string h] 133:=λA=>(kb.alloc A).drew;have k2:∀A B,zh ((W1.alloc A).alloc B).drew w.heap.size #[.bool false,.bool false,.string h] 133:=λA B=>((kb.alloc A).alloc B).drew;have o1:(W1.alloc (.cells #[] 133)).drew.ownsRow w.heap.size 133 3 (.slice (some ⟨z,0,none⟩) 0 0) 0 []:=by
  have:=JR (b:=w.heap.size) (GN (D7 W1)) (by omega)
  rwa [hz]at this
 have o2:∀B,((W1.alloc (.cells #[] 133)).alloc B).drew.ownsRow w.heap.size 133 3 (.slice (some ⟨z,0,none⟩) 0 0) 0 []:=λB=>by
  have:=JR (b:=w.heap.size) (GN (jS (D7 W1) B)) (by omega)
  rwa [hz]at this
 have o3:∀B,((W1.alloc B).alloc (.cells #[] 133)).drew.ownsRow w.heap.size 133 3 (.slice (some ⟨z+1,0,none⟩) 0 0) 0 []:=λB=>by
  have:=D7 (W1.alloc B);rw[World.size_alloc]at this;have:=JR (b:=w.heap.size) (GN this) (by omega)
  rwa [hz]at this
 have x2:∀A,zh ((W1.alloc A).alloc (.cells #[.bool false,.bool false,.string X] 133)).drew (z+1) #[.bool false,.bool false,.string X] 133:=λA=>by
  have:=zh.new (W1.alloc A) #[.bool false,.bool false,.string X] 133;rw[World.size_alloc,hz]at this;exact this.drew
 have x3:∀A,zh ((W1.alloc (.cells #[.bool false,.bool false,.string X] 133)).alloc A).drew z #[.bool false,.bool false,.string X] 133:=λA=>by
  have:=((zh.new W1 #[.bool false,.bool false,.string X] 133).alloc A).drew
  rwa [hz]at this
 have s1:∀A,(W1.alloc A).drew.heap.size=z+1:=λA=>by show(W1.alloc A).heap.size=_;rw[World.size_alloc,hz]
 have s2:∀A B,((W1.alloc A).alloc B).drew.heap.size=z+2:=λA B=>by show((W1.alloc A).alloc B).heap.size=_;rw[World.size_alloc,World.size_alloc,hz]
 have hs0:W1.drew.cell? ⟨w.heap.size,2,none⟩=some (.string h):=kb.drew.cell 2;have hs1:∀A,(W1.alloc A).drew.cell? ⟨w.heap.size,2,none⟩=some (.string h):=λA=>(k1 A).cell 2;have hs2:∀A B,((W1.alloc A).alloc B).drew.cell? ⟨w.heap.size,2,none⟩=some (.string h):=λA B=>(k2 A B).cell 2;have hno:n≤500000:=by omega
 go_region_held_law (λw'=>w'.cell? ⟨w.heap.size,2,none⟩=some (.string h)) (first|exact hs0|exact hs1 _|exact hs2 _ _|exact QR|exact QS _|exact La|go_keep) (first
  |(refine Y0 (by rfl) _ _ 130 133 3 24 _ (by rfl) Tryz.underlying130 uX rfl (by omega) (by omega) w.heap.size (.slice (some ⟨z,0,none⟩) 0 0) 0 [] (by rfl) o1 (.slice (some ⟨ob,0,none⟩) m oc) m (zZ A) (by rfl) (VU.out _ (b1 _)) VV.out (QP A) (by omega) (by rw[s1];omega) m (Nat.zero_add m) ?_;intro y8 c1 w1 hown1 xR hg1;have hL1:=(b1 _:Below w.heap.size w _).grown xR (by rw[s1];omega) (by intro k hk;simp[Value.ownBlock]at hk;omega);have hK1:=(k1 (.cells #[] 133)).grown xR (by simp[Value.ownBlock];omega);have QR:w1.cell? ⟨w.heap.size,2,none⟩=some (.string h):=hK1.cell 2;have QS:∀o,(w1.alloc o).cell? ⟨w.heap.size,2,none⟩=some (.string h):=λo=>(hK1.alloc o).cell 2;have hsz1:=hL1.size)
  |(refine Y0 (by rfl) _ _ 130 133 3 24 _ (by rfl) Tryz.underlying130 uX rfl (by omega) (by omega) w.heap.size (.slice (some ⟨z,0,none⟩) 0 0) 0 [] (by rfl) (o2 _) (.slice (some ⟨ob,0,none⟩) m oc) m (zZ A) (by rfl) (VU.out _ (b2 _ _)) VV.out (QP A) (by omega) (by rw[s2];omega) m (Nat.zero_add m) ?_;intro y8 c1 w1 hown1 xR hg1;have hL1:=(b2 _ _:Below w.heap.size w _).grown xR (by rw[s2];omega) (by intro k hk;simp[Value.ownBlock]at hk;omega);have hK1:=(k2 (.cells #[] 133) (.cells #[.bool false,.bool false,.string X] 133)).grown xR (by simp[Value.ownBlock];omega);have QR:w1.cell? ⟨w.heap.size,2,none⟩=some (.string h):=hK1.cell 2;have QS:∀o,(w1.alloc o).cell? ⟨w.heap.size,2,none⟩=some (.string h):=λo=>(hK1.alloc o).cell 2;have hsz1:=hL1.size;have hX1:=(x2 (.cells #[] 133)).grown xR (by simp[Value.ownBlock]))
  |(refine Y0 (by rfl) _ _ 130 133 3 24 _ (by rfl) Tryz.underlying130 uX rfl (by omega) (by omega) w.heap.size (.slice (some ⟨z+1,0,none⟩) 0 0) 0 [] (by rfl) (o3 _) (.slice (some ⟨ob,0,none⟩) m oc) m (zZ A) (by rfl) (VU.out _ (b2 _ _)) VV.out (QP A) (by omega) (by rw[s2];omega) m (Nat.zero_add m) ?_;intro y8 c1 w1 hown1 xR hg1;have hL1:=(b2 _ _:Below w.heap.size w _).grown xR (by rw[s2];omega) (by intro k hk;simp[Value.ownBlock]at hk;omega);have hK1:=(k2 (.cells #[.bool false,.bool false,.string X] 133) (.cells #[] 133)).grown xR (by simp[Value.ownBlock];omega);have QR:w1.cell? ⟨w.heap.size,2,none⟩=some (.string h):=hK1.cell 2;have QS:∀o,(w1.alloc o).cell? ⟨w.heap.size,2,none⟩=some (.string h):=λo=>(hK1.alloc o).cell 2;have hsz1:=hL1.size;have hX1:=(x3 (.cells #[] 133)).grown xR (by simp[Value.ownBlock]))
  |(refine Y0 (by rfl) _ _ 130 133 3 24 _ (by rfl) Tryz.underlying130 uX rfl (by omega) (by omega) w.heap.size (.slice y8 m c1) m ([]++zZ A) (by rfl) (jS hown1 _) _ 1 (vK ⟨false,false,X⟩) (by rfl) (QQ w1 ⟨false,false,X⟩) rfl (kE _) (by omega) (by rw[World.size_alloc];omega) n (by omega) ?_;intro xq c2 w2 hown2 kF hg2;have hL2:=(hL1.alloc (by omega) (.cells #[.bool false,.bool false,.string X] 133)).grown kF (by rw[World.size_alloc];omega) (λk hk=>yH hown1 k hk);have La:w2.cell? ⟨w.heap.size,2,none⟩=some (.string h):=((hK1.alloc (.cells #[.bool false,.bool false,.string X] 133)).grown kF (by intro e;first|omega|(have:=yH hown1 _ e.symm;rcases hg1 with g|g<;>(rw[←e]at g;simp[Value.ownBlock]at g;omega)))).cell 2)
  |(refine Y0 (by rfl) _ _ 130 133 3 24 _ (by rfl) Tryz.underlying130 uX rfl (by omega) (by omega) w.heap.size (.slice y8 m c1) m ([]++zZ A) (by rfl) hown1 _ 1 (vK ⟨false,false,X⟩) (by rfl) (X6 (x:=⟨false,false,X⟩) hX1) rfl (kE _) (by omega) (by omega) n (by omega) ?_;intro xq c2 w2 hown2 kF hg2;have hL2:=hL1.grown kF (by omega) (λk hk=>yH hown1 k hk);have La:w2.cell? ⟨w.heap.size,2,none⟩=some (.string h):=(hK1.grown kF (by intro e;rcases hg1 with g|g<;>(rw[←e]at g;simp[Value.ownBlock]at g;omega))).cell 2))
 all_goals
  go_wp2;refine bodyPost_ret (v:=.slice xq n c2) (by simp[results,Tryz.results84,go_sem]) rfl ⟨_,rfl,?_,hL2⟩;have e:(A++ [(⟨false,false,X⟩:Pc)]).length=n:=by rw[List.length_append,HM.out,HNM.out];rfl
  show w2.ownsRow _ _ _ _ _ _;rw[e,kD];simpa[zZ]using hown2
end
end Go.Proofs.YtdjcidackkogjaaGreatDoor

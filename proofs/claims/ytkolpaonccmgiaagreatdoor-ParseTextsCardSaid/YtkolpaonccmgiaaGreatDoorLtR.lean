/- A row of pieces in memory; what the document's own -/
import Derived.Test.YtkolpaonccmgiaaGreatDoorQh
import Derived.Test.YtkolpaonccmgiaaGreatDoorAp
namespace Go.Proofs.YtkolpaonccmgiaaGreatDoor
set_option linter.unusedSectionVars false
set_option linter.unusedVariables false
open Go.Proofs.Tryz
open _root_.Nat renaming le_refl->waa,zero_add->wac
open _root_.Go.World renaming size_alloc->waf
open _root_.Go.RowKit.Below renaming refl->wag
open _root_.List renaming getElem?_eq_some_iff->wak,getElem?_eq_getElem->wal,length_append->wam
open Lib(hid)
set_option maxHeartbeats 16000000
set_option maxRecDepth 100000
open Go.RowKit
theorem qQ:(prog.info? 119).map (λi=>(i.zero,i.size,i.bytes))=some (some (.agg #[.bool false,.bool false,.string ⟨#[]⟩]),3,24):=by kernel_rfl
def yE(L:List Pc):List Value:=L.flatMap uY
theorem AL(a:Pc)(l:List Pc):yE (a::l)=.bool a.ex::.bool a.q::.string a.t::yE l:=by
 unfold yE;rw[List.flatMap_cons];rfl
theorem RY(l:List Pc):(yE l).length=l.length*3:=by
 induction l with
 |nil=>rfl
 |cons a l ih=>rw[AL];simp only[List.length_cons,ih];omega
theorem YA(l k:List Pc):yE (l++k)=yE l++yE k:=by unfold yE;rw[List.flatMap_append]
theorem lJ(l:List Pc):∀v∈yE l,v.oneCell'=true:=by
 intro v hv;obtain⟨s,_,hs⟩:=List.mem_flatMap.1 hv;simp[uY]at hs;rcases hs with rfl|rfl|rfl<;>rfl
theorem AO:∀{l:List Pc} {j:Nat} {p:Pc},l[j]?=some p->∀c v,(uY p)[c]?=some v->(yE l)[j*3+c]?=some v
 | [],j,p,h,c,v,hv=>by simp at h
 |a::l,0,p,h,c,v,hv=>by
  simp at h;subst h;have hc:c<(uY a).length:=(wak.1 hv).1;show(yE (a::l))[0*3+c]?=_;rw[Nat.zero_mul,wac];unfold yE;rw[List.flatMap_cons,List.getElem?_append_left hc];exact hv
 |a::l,j+1,p,h,c,v,hv=>by
  have h':l[j]?=some p:=by simpa using h
  have ih:=AO h' c v hv;have e:(j+1)*3+c=j*3+c+3:=by omega
  rw[e,AL];simpa using ih
def uO(w:World)(base:Nat)(v:Value)(L:List Pc):Prop:=w.ownsRow base 119 3 v L.length (yE L)
theorem uO.below{w w':World}{base:Nat}{v:Value}{L:List Pc}(h:uO w base v L)(hb:Below w.heap.size w w'):uO w' base v L:=uh h hb
theorem uO.lower{w:World}{base b:Nat}{v:Value}{L:List Pc}(h:uO w base v L)(hb:b<=base):uO w b v L:=by
 refine⟨h.1,?_⟩;rcases h.2 with h|⟨g,cap,cur,h1,h2,h3⟩
 ·exact .inl h
 ·exact .inr ⟨g,cap,cur,h1,by omega,h3⟩
structure RZ(w:World)(oa:Option Addr)(n:Nat)(L:List Pc):Prop where
 len:n=L.length
 cells:∀i p,L[i]?=some p->∃ob,oa=some ⟨ob,0,none⟩/\ob<w.heap.size/\w.cell? ⟨ob,i*3,none⟩=some (.bool p.ex)/\w.cell? ⟨ob,i*3+1,none⟩=some (.bool p.q)/\w.cell? ⟨ob,i*3+2,none⟩=some (.string p.t)
theorem RZ.below{w w':World}{oa:Option Addr}{n:Nat}{L:List Pc}(h:RZ w oa n L)(hb:Below w.heap.size w w'):RZ w' oa n L:=
 ⟨h.len,λi p hp=>by
  obtain⟨ob,h1,h2,h3,h4,h5⟩:=h.cells i p hp;exact⟨ob,h1,Nat.lt_of_lt_of_le h2 hb.size,(hb.cell (p:=⟨ob,_,none⟩) h2).trans h3,(hb.cell (p:=⟨ob,_,none⟩) h2).trans h4,(hb.cell (p:=⟨ob,_,none⟩) h2).trans h5⟩⟩
theorem uO.read{w:World}{base:Nat}{v:Value}{L:List Pc}(h:uO w base v L):∃oa n oc,v=.slice oa n oc/\RZ w oa n L:=by
 have h':w.ownsRow base 119 3 v L.length (yE L):=h;obtain⟨oa,oc,rfl⟩:=Xw h';refine⟨oa,_,oc,rfl,rfl,λi p hp=>?_⟩;have hl:i<L.length:=(wak.1 hp).1;obtain⟨ob,vO,hov,_,_,_,hlt⟩:=VD h' (by omega);obtain⟨rfl,rfl⟩:oa=some ⟨ob,0,none⟩/\oc=vO:=by simpa using hov
 have hc:=λc u (hu:(uY p)[c]?=some u)=>by
  have:=h'.cells (g:=ob) rfl (i*3+c) u (AO hp c u hu);rw[Addr.add_lit,wac]at this;exact this
 exact⟨ob,rfl,hlt,hc 0 _ rfl,hc 1 _ rfl,hc 2 _ rfl⟩
theorem RZ.get{w:World}{oa:Option Addr}{n:Nat}{L:List Pc}(h:RZ w oa n L){i:Nat}(hi:i<n):∃ob p,oa=some ⟨ob,0,none⟩/\L[i]?=some p/\ob<w.heap.size/\w.cell? ⟨ob,i*3,none⟩=some (.bool p.ex)/\w.cell? ⟨ob,i*3+1,none⟩=some (.bool p.q)/\w.cell? ⟨ob,i*3+2,none⟩=some (.string p.t):=by
 have hl:i<L.length:=by have:=h.len;omega
 obtain⟨ob,h1⟩:=h.cells i L[i] (wal hl);exact⟨ob,L[i],h1.1,wal hl,h1.2⟩
theorem SN(W:World):(W.alloc (.cells #[] 119)).ownsRow W.heap.size 119 3 (.slice (some ⟨W.heap.size,0,none⟩) 0 0) 0 []:=
 ⟨rfl,.inr ⟨W.heap.size,0,_,rfl,waa _,World.alloc_heap_new W _,waa _,by unfold maxLen;omega,rfl,rfl⟩⟩
theorem YB(x:Pc):∀u∈uY x,u.oneCell'=true:=by
 intro u hu;simp[uY]at hu;rcases hu with rfl|rfl|rfl<;>rfl
theorem lK(W:World)(x:Pc):Src (W.alloc (.cells #[.bool x.ex,.bool x.q,.string x.t] 119)) (.slice (some ⟨W.heap.size,0,none⟩) 1 1) 1 (uY x):=by
 refine .inr ⟨_,0,1,rfl,by simp,λj u hj=>?_⟩;have:=(zf.new W #[.bool x.ex,.bool x.q,.string x.t] 119).cell j;rw[wac,this];simpa[uY]using hj
theorem MN{w:World}{base:Nat}{e:TypeId}{k n:Nat}{v:Value}{xs:List Value}(h:w.ownsRow base e k v n xs):w.drew.ownsRow base e k v n xs:=uh h ((wag _ w).drew)
theorem Y7{w:World}{base:Nat}{e:TypeId}{k n:Nat}{v:Value}{xs:List Value}(h:w.ownsRow base e k v n xs)(o:Obj):(w.alloc o).ownsRow base e k v n xs:=
 uh h ((wag _ w).alloc (waa _) o)
theorem dh{w:World}{base b:Nat}{e:TypeId}{k n:Nat}{v:Value}{xs:List Value}(h:w.ownsRow base e k v n xs)(hb:b<=base):w.ownsRow b e k v n xs:=by
 refine⟨h.1,?_⟩;rcases h.2 with h|⟨g,cap,cur,h1,h2,h3⟩
 ·exact .inl h
 ·exact .inr ⟨g,cap,cur,h1,by omega,h3⟩
theorem QN{W:World}{b:Nat}{x:Pc}(h:zf W b #[.bool x.ex,.bool x.q,.string x.t] 119):Src W (.slice (some ⟨b,0,none⟩) 1 1) 1 (uY x):=by
 refine .inr ⟨_,0,1,rfl,h.lt,λj u hj=>?_⟩;rw[wac,h.cell j];simpa[uY]using hj
theorem zeD{s:ByteArray}{a:Nat}(h1:a<s.size)(h2:born s a=true):∃i:Nat,(PL s)[i]?=some (prt s a):=by
 refine⟨idx s a,?_⟩;unfold PL;rw[List.getElem?_map,G9 s a h2 h1];rfl
def zeE(s:ByteArray)(n a:Nat)(w:World)(v6:Value)(wr:World):Prop:=∃i:Nat,i<=n/\v6=.int .i64 (i:Int)/\(∀(j:Nat) p,j<i->(PL s)[j]?=some p->p.zh≠a)/\wr=w
def bG(s:ByteArray)(a:Nat)(e:Ending):Prop:=(a<s.size/\born s a=true/\e=.returned (.tuple #[jS (prt s a),.int .i64 1]))\/(¬(a<s.size/\born s a=true)/\e=.returned (.tuple #[.agg #[.int .i64 0,.int .i64 0,.int .i64 0,.int .i64 0,.bool false],.int .i64 0]))
section
variable(w:World)
theorem AP(s:ByteArray)(oa:Option Addr)(n oc a:Nat)(hR:Jy w oa n (PL s))(hn:n<=60000)(ha:a<=1000000):
  Calls prog 141 #[.slice oa n oc,.int .i64 (a:Int)] w λe w'=>bG s a e/\Below w.heap.size w w':=by
 have kb:=zf.new w #[.int .i64 0,.int .i64 0,.int .i64 0,.int .i64 0,.bool false] 136;have hB1:Below w.heap.size w (w.alloc (.cells #[.int .i64 0,.int .i64 0,.int .i64 0,.int .i64 0,.bool false] 136)):=(wag _ w).alloc (waa _) _;have HR:=hid hR;clear hR;go_enter func141,ntmps141;go_wp2;obtain⟨W1,hW1⟩:∃X,w.alloc (.cells #[.int .i64 0,.int .i64 0,.int .i64 0,.int .i64 0,.bool false] 136)=X:=⟨_,rfl⟩;rw[hW1]at kb hB1 ⊢;have y9:=HR.out.below hB1;clear hW1
 go_loopw [6] (λv6 wr=>zeE s n a W1 v6 wr) (λv _=>n-(intOf v).toNat)
 case atStart=>exact⟨0,Nat.zero_le _,rfl,λj p h=>by omega,rfl⟩
 case round=>
  obtain⟨i,hi,rfl,hj,rfl⟩:=hrel;have f0:=kb.frozen 0;have f1:=kb.frozen 1;have f2:=kb.frozen 2;have f3:=kb.frozen 3;have f4:=kb.frozen 4;have c0:=kb.cell 0;have c1:=kb.cell 1;have c2:=kb.cell 2;have c3:=kb.cell 3;have c4:=kb.cell 4;by_cases hlt:(i:Int)<(n:Int)
  ·have hlt':i<n:=by omega
   have q0:(0:Int)<=(i:Int):=by omega
   obtain⟨ob,p,rfl,hp,_,a0,a1,a2,a3,a4⟩:=y9.at hlt';obtain⟨AQ,hf0,hpe,hf1,hbn,Vb,hpt,_⟩:=Am hp;have HJ:=hid hj;have HP:=hid hp;by_cases he:p.zh=a
   ·have hfi:bG s a (.returned (.tuple #[jS p,.int .i64 1])):=by
     left;have hfe:=Yc s AQ;rw[←hpe]at hfe;have e2:AQ=a:=by omega
     subst e2;exact⟨by omega,hbn,by rw[hpe]⟩
    have jd:=hid hfi;have t1:((p.zh:Int)==(a:Int))=true:=beq_iff_eq.2 (by omega);clear hp hf0 hpe hf1 hbn Vb hpt hj hfi he;go_wp2;have k5:=((((kb.set 0 (.int .i64 (p.mode:Int))).set 1 (.int .i64 (p.zh:Int))).set 2 (.int .i64 (p.to:Int))).set 3 (.int .i64 p.up)).set 4 (.bool p.op);have vP:=((((hB1.setCell (p:=⟨w.heap.size,0,none⟩) (waa _) (.int .i64 (p.mode:Int))).setCell (p:=⟨w.heap.size,1,none⟩) (waa _) (.int .i64 (p.zh:Int))).setCell (p:=⟨w.heap.size,2,none⟩) (waa _) (.int .i64 (p.to:Int))).setCell (p:=⟨w.heap.size,3,none⟩) (waa _) (.int .i64 p.up)).setCell (p:=⟨w.heap.size,4,none⟩) (waa _) (.bool p.op);have g0:=k5.cell 0;have g1:=k5.cell 1;have g2:=k5.cell 2;have g3:=k5.cell 3;have g4:=k5.cell 4;obtain⟨W5,Zg⟩:∃X,((((wr.setCell ⟨w.heap.size,0,none⟩ (.int .i64 (p.mode:Int))).setCell ⟨w.heap.size,1,none⟩ (.int .i64 (p.zh:Int))).setCell ⟨w.heap.size,2,none⟩ (.int .i64 (p.to:Int))).setCell ⟨w.heap.size,3,none⟩ (.int .i64 p.up)).setCell ⟨w.heap.size,4,none⟩ (.bool p.op)=X:=⟨_,rfl⟩;rw[Zg]at g0 g1 g2 g3 g4 vP ⊢;clear k5 kb c0 c1 c2 c3 c4 Zg;have h0:W5.cell? ⟨w.heap.size,0,none⟩=some (.int .i64 (p.mode:Int)):=g0;have h1:W5.cell? ⟨w.heap.size,1,none⟩=some (.int .i64 (p.zh:Int)):=g1;have h2:W5.cell? ⟨w.heap.size,2,none⟩=some (.int .i64 (p.to:Int)):=g2;have h3:W5.cell? ⟨w.heap.size,3,none⟩=some (.int .i64 p.up):=g3;have h4:W5.cell? ⟨w.heap.size,4,none⟩=some (.bool p.op):=g4;refine bodyPost_ret (v:=.tuple #[jS p,.int .i64 1]) (by simp[results,results141,go_sem,jS,h0,h1,h2,h3,h4]) rfl ?_;exact⟨jd.out,vP⟩
   ·have t1:((p.zh:Int)==(a:Int))=false:=beq_eq_false_iff_ne.2 (by omega)
    clear hp hf0 hpe hf1 hbn Vb hpt hj;go_wp2
    go_roundw
    case rel=>
     refine⟨i+1,by omega,by go_num,λj q h hq=>?_,rfl⟩;rcases Nat.eq_or_lt_of_le (Nat.le_of_lt_succ h)with e|e
     ·subst e
      rw[HP.out]at hq;cases hq;exact he
     ·exact HJ.out j q e hq
    case measure=>simp[intOf];omega
  ·obtain rfl:i=n:=by omega
   have hfi:bG s a (.returned (.tuple #[.agg #[.int .i64 0,.int .i64 0,.int .i64 0,.int .i64 0,.bool false],.int .i64 0])):=by
    right;refine⟨λh=>?_,rfl⟩;obtain⟨k,hk⟩:=zeD h.1 h.2;have hl:=(wak.1 hk).1;exact hj k _ (by rw[y9.len];exact hl) hk (Yc s a)
   have jd:=hid hfi;clear hj hfi y9;go_wp2;have k5:=((((kb.set 0 (.int .i64 0)).set 1 (.int .i64 0)).set 2 (.int .i64 0)).set 3 (.int .i64 0)).set 4 (.bool false);have vP:=((((hB1.setCell (p:=⟨w.heap.size,0,none⟩) (waa _) (.int .i64 0)).setCell (p:=⟨w.heap.size,1,none⟩) (waa _) (.int .i64 0)).setCell (p:=⟨w.heap.size,2,none⟩) (waa _) (.int .i64 0)).setCell (p:=⟨w.heap.size,3,none⟩) (waa _) (.int .i64 0)).setCell (p:=⟨w.heap.size,4,none⟩) (waa _) (.bool false);have g0:=k5.cell 0;have g1:=k5.cell 1;have g2:=k5.cell 2;have g3:=k5.cell 3;have g4:=k5.cell 4;obtain⟨W5,Zg⟩:∃X,((((wr.setCell ⟨w.heap.size,0,none⟩ (.int .i64 0)).setCell ⟨w.heap.size,1,none⟩ (.int .i64 0)).setCell ⟨w.heap.size,2,none⟩ (.int .i64 0)).setCell ⟨w.heap.size,3,none⟩ (.int .i64 0)).setCell ⟨w.heap.size,4,none⟩ (.bool false)=X:=⟨_,rfl⟩;rw[Zg]at g0 g1 g2 g3 g4 vP ⊢;clear k5 kb c0 c1 c2 c3 c4 Zg;have h0:W5.cell? ⟨w.heap.size,0,none⟩=some (.int .i64 0):=g0;have h1:W5.cell? ⟨w.heap.size,1,none⟩=some (.int .i64 0):=g1;have h2:W5.cell? ⟨w.heap.size,2,none⟩=some (.int .i64 0):=g2;have h3:W5.cell? ⟨w.heap.size,3,none⟩=some (.int .i64 0):=g3;have h4:W5.cell? ⟨w.heap.size,4,none⟩=some (.bool false):=g4;refine bodyPost_ret (v:=.tuple #[.agg #[.int .i64 0,.int .i64 0,.int .i64 0,.int .i64 0,.bool false],.int .i64 0]) (by simp[results,results141,go_sem,h0,h1,h2,h3,h4]) rfl ?_;exact⟨jd.out,vP⟩
theorem zeF(L:List Pc)(t:ByteArray)(fr:Bool)(v:Value)(hP:uO w 0 v L)(hl:L.length<=500000)(h:L=[]\/fr=true):
  Calls prog 142 #[v,.string t,.bool fr] w λe w'=>∃v',e=.returned v'/\uO w' w.heap.size v' (L++ [⟨false,false,t⟩])/\Below w.heap.size w w':=by
 obtain⟨oa,oc,rfl⟩:=KX hP;obtain⟨n,hn⟩:∃n,L.length=n:=⟨_,rfl⟩;have gq:=hid (λX (hX:Below w.heap.size w X)=>(Src.Y2 hP).below hX);have hlc:=RY L;rw[hn]at gq hl hlc ⊢;have HN:=hid hn;have gu:=hid hlc;have hcond:n=0\/fr=true:=by rcases h with rfl|h;exact .inl (by rw[←hn];rfl);exact .inr h
 have hB1:Below w.heap.size w (w.alloc (.cells #[] 119)):=(wag _ w).alloc (waa _) _;have AU:=hid (SN w);clear hn hP h hlc;have fin:∀(kV:Option Addr) (c1:Nat) (w1:World) (xU:Option Addr) (c2:Nat) (w2:World),(w.alloc (.cells #[] 119)).grownBy w1 (Value.slice (some ⟨w.heap.size,0,none⟩) 0 0).ownBlock->w1.ownsRow w.heap.size 119 3 (.slice kV n c1) n ([]++yE L)->(w1.alloc (.cells #[.bool false,.bool false,.string t] 119)).grownBy w2 (Value.slice kV n c1).ownBlock->
   w2.ownsRow w.heap.size 119 3 (.slice xU (n+1) c2) (n+1) (([]++yE L)++uY ⟨false,false,t⟩)->uO w2 w.heap.size (.slice xU (n+1) c2) (L++ [⟨false,false,t⟩])/\Below w.heap.size w w2:=by
  intro kV c1 w1 xU c2 w2 hg1 ho1 hg2 ho2;have hBw1:Below w.heap.size w w1:=hB1.grown hg1 (by simp) (λk hk=>by simp[Value.ownBlock]at hk;omega);have hs1:=hBw1.size;refine⟨?_,((hBw1.alloc hs1 _).grown hg2 (by simp;omega) (λk hk=>xx ho1 k hk))⟩;have e:(L++ [(⟨false,false,t⟩:Pc)]).length=n+1:=by rw[wam,HN.out];rfl
  show w2.ownsRow _ _ _ _ _ _;rw[e,YA];simpa[yE]using ho2
 have FIN:=hid fin;clear fin;go_enter func142,ntmps142;by_cases h0:n=0
 ·subst h0
  go_wp2_with (at_builtin;first
   |(refine Zq rfl _ _ 116 119 3 24 _ rfl underlying116 qQ rfl (by omega) (by omega) w.heap.size (.slice (some ⟨w.heap.size,0,none⟩) 0 0) 0 [] rfl AU.out (.slice oa 0 oc) 0 (yE L) rfl (gq.out _ hB1) gu.out (lJ L) (by omega) (by simp) 0 rfl ?_;intro kV c1 w1 hown1 uy hg1;have QO:=hid hown1;have MO:=hid uy;have bH:=uy.size;clear hown1 uy hg1)
   |(refine Zq rfl _ _ 116 119 3 24 _ rfl underlying116 qQ rfl (by omega) (by omega) w.heap.size (.slice kV 0 c1) 0 ([]++yE L) rfl (uh QO.out ((wag _ w1).alloc (waa _) _)) _ 1 (uY ⟨false,false,t⟩) rfl (lK w1 ⟨false,false,t⟩) rfl (YB _) (by omega) (by simp at bH ⊢;omega) 1 rfl ?_;intro xU c2 w2 hown2 YC hg2))
  go_ret;exact⟨_,rfl,FIN.out _ _ _ _ _ _ MO.out QO.out YC hown2⟩
 ·have hft:fr=true:=hcond.resolve_left h0
  subst hft;have h0':(0:Int)<(n:Int):=by omega
  go_wp2_with (at_builtin;first
   |(refine Zq rfl _ _ 116 119 3 24 _ rfl underlying116 qQ rfl (by omega) (by omega) w.heap.size (.slice (some ⟨w.heap.size,0,none⟩) 0 0) 0 [] rfl AU.out (.slice oa n oc) n (yE L) rfl (gq.out _ hB1) gu.out (lJ L) (by omega) (by simp) n (wac n) ?_;intro kV c1 w1 hown1 uy hg1;have QO:=hid hown1;have MO:=hid uy;have bH:=uy.size;clear hown1 uy hg1)
   |(refine Zq rfl _ _ 116 119 3 24 _ rfl underlying116 qQ rfl (by omega) (by omega) w.heap.size (.slice kV n c1) n ([]++yE L) rfl (uh QO.out ((wag _ w1).alloc (waa _) _)) _ 1 (uY ⟨false,false,t⟩) rfl (lK w1 ⟨false,false,t⟩) rfl (YB _) (by omega) (by simp at bH ⊢;omega) (n+1) rfl ?_;intro xU c2 w2 hown2 YC hg2))
  go_ret;exact⟨_,rfl,FIN.out _ _ _ _ _ _ MO.out QO.out YC hown2⟩
theorem zeG(A:List Pc)(h t:ByteArray)(v:Value)(hP:uO w 0 v (A++ [⟨false,false,h⟩]))(hl:A.length<=400000)(hh:h.size<=1000000)(ht:t.size<=1000000):
  Calls prog 142 #[v,.string t,.bool false] w λe w'=>∃v',e=.returned v'/\uO w' w.heap.size v' (A++ [⟨false,false,h++t⟩])/\Below w.heap.size w w':=by
 obtain⟨oa,oc,rfl⟩:=KX hP;obtain⟨m,hm⟩:∃m,A.length=m:=⟨_,rfl⟩;obtain⟨n,hn⟩:∃n,(A++ [(⟨false,false,h⟩:Pc)]).length=n:=⟨_,rfl⟩;have hnm:n=m+1:=by rw[←hn,←hm,wam];rfl
 have hmn:m=n-1:=by omega
 obtain⟨xC,n',oc',he,y9⟩:=hP.read;rw[hn]at he;injection he with e1 e2 e3;subst e1 e2 e3;obtain⟨ob,hob,hol,a0,a1,a2⟩:=y9.cells m ⟨false,false,h⟩ (by rw[←hm];simp);subst hob;have AV:Src w (.slice (some ⟨ob,0,none⟩) n oc) n (yE (A++ [⟨false,false,h⟩])):=by have:=Src.Y2 hP;rw[hn]at this;exact this
 have hsrc1:=AV.take (k:=3) (m':=m) (by omega) (by omega);have htk:(yE (A++ [(⟨false,false,h⟩:Pc)])).take (m*3)=yE A:=by
  rw[YA,List.take_append_of_le_length (by rw[RY,hm];exact waa _),List.take_of_length_le (by rw[RY,hm];exact waa _)]
 rw[htk]at hsrc1;have hmi:IntKind.i64.wrap ((n:Int)-1)=(m:Int):=by rw[IntWalk.i64_in _ (by omega)];omega
 have hoc:n<=oc:=by
  obtain⟨g,cap,hg,_,h3,_⟩:=VD (show w.ownsRow 0 119 3 (.slice (some ⟨ob,0,none⟩) n oc) n _ from by have:=hP;unfold uO at this;rw[hn]at this;exact this) (by omega);injection hg with _ _ e3;omega
 have gq:=hid (λX (hX:Below w.heap.size w X)=>hsrc1.below hX);have hlc:(yE A).length=m*3:=by rw[RY,hm]
 have HM:=hid hm;have gu:=hid hlc;obtain⟨X,hX⟩:∃X,h++t=X:=⟨_,rfl⟩;have Yv:X.size<=2000000:=by rw[←hX,ByteArray.size_append];omega
 have hsum:h.size+t.size<=2000000:=by omega
 rw[hX,hn];have i1:n<=m+1:=by omega
 have i2:m+1<=n:=by omega
 have i3:m<=400000:=by omega
 have HNM:=hid hnm;clear hn hm hP hlc htk AV hsrc1 y9 hnm hmn hl;go_enter func142,ntmps142;have q0:(0:Int)<(n:Int):=by omega
 have q1:(m:Int)<(n:Int):=by omega
 have q2:(0:Int)<=(m:Int):=by omega
 go_wp2;have kb:=zf.new w #[.bool false,.bool false,.string h] 119;have hB1:Below w.heap.size w (w.alloc (.cells #[.bool false,.bool false,.string h] 119)):=(wag _ w).alloc (waa _) _;have hz1:(w.alloc (.cells #[.bool false,.bool false,.string h] 119)).heap.size=w.heap.size+1:=by simp
 obtain⟨W1,hW1⟩:∃X,w.alloc (.cells #[.bool false,.bool false,.string h] 119)=X:=⟨_,rfl⟩;rw[hW1]at kb hB1 hz1 ⊢;clear hW1;obtain⟨z,hz⟩:∃z,W1.heap.size=z:=⟨_,rfl⟩;have hwz:w.heap.size<z:=by omega
 have zoh:w.heap.size≠z:=by omega
 clear hz1;have b1:∀A,Below w.heap.size w (W1.alloc A).drew:=λA=>(hB1.alloc (by omega) A).drew;have b2:∀A B,Below w.heap.size w ((W1.alloc A).alloc B).drew:=λA B=>((hB1.alloc (by omega) A).alloc (by simp;omega) B).drew;have k1:∀A,zf (W1.alloc A).drew w.heap.size #[.bool false,.bool false,.string h] 119:=λA=>(kb.alloc A).drew;have k2:∀A B,zf ((W1.alloc A).alloc B).drew w.heap.size #[.bool false,.bool false,.string h] 119:=λA B=>((kb.alloc A).alloc B).drew;have o1:(W1.alloc (.cells #[] 119)).drew.ownsRow w.heap.size 119 3 (.slice (some ⟨z,0,none⟩) 0 0) 0 []:=by
  have:=dh (b:=w.heap.size) (MN (SN W1)) (by omega)
  rwa [hz]at this
 have o2:∀B,((W1.alloc (.cells #[] 119)).alloc B).drew.ownsRow w.heap.size 119 3 (.slice (some ⟨z,0,none⟩) 0 0) 0 []:=λB=>by
  have:=dh (b:=w.heap.size) (MN (Y7 (SN W1) B)) (by omega)
  rwa [hz]at this
 have o3:∀B,((W1.alloc B).alloc (.cells #[] 119)).drew.ownsRow w.heap.size 119 3 (.slice (some ⟨z+1,0,none⟩) 0 0) 0 []:=λB=>by
  have:=SN (W1.alloc B);rw[waf]at this;have:=dh (b:=w.heap.size) (MN this) (by omega)
  rwa [hz]at this
 have x2:∀A,zf ((W1.alloc A).alloc (.cells #[.bool false,.bool false,.string X] 119)).drew (z+1) #[.bool false,.bool false,.string X] 119:=λA=>by
  have:=zf.new (W1.alloc A) #[.bool false,.bool false,.string X] 119;rw[waf,hz]at this;exact this.drew
 have x3:∀A,zf ((W1.alloc (.cells #[.bool false,.bool false,.string X] 119)).alloc A).drew z #[.bool false,.bool false,.string X] 119:=λA=>by
  have:=((zf.new W1 #[.bool false,.bool false,.string X] 119).alloc A).drew
  rwa [hz]at this
 have s1:∀A,(W1.alloc A).drew.heap.size=z+1:=λA=>by show(W1.alloc A).heap.size=_;rw[waf,hz]
 have s2:∀A B,((W1.alloc A).alloc B).drew.heap.size=z+2:=λA B=>by show((W1.alloc A).alloc B).heap.size=_;rw[waf,waf,hz]
 have hs0:W1.drew.cell? ⟨w.heap.size,2,none⟩=some (.string h):=kb.drew.cell 2;have hs1:∀A,(W1.alloc A).drew.cell? ⟨w.heap.size,2,none⟩=some (.string h):=λA=>(k1 A).cell 2;have hs2:∀A B,((W1.alloc A).alloc B).drew.cell? ⟨w.heap.size,2,none⟩=some (.string h):=λA B=>(k2 A B).cell 2;have hno:n<=500000:=by omega
 go_region_held_law (λw'=>w'.cell? ⟨w.heap.size,2,none⟩=some (.string h)) (first|exact hs0|exact hs1 _|exact hs2 _ _|exact lL|exact lM _|exact MP|go_keep) (first
  |(refine QE (by rfl) _ _ 116 119 3 24 _ (by rfl) underlying116 qQ rfl (by omega) (by omega) w.heap.size (.slice (some ⟨z,0,none⟩) 0 0) 0 [] (by rfl) o1 (.slice (some ⟨ob,0,none⟩) m oc) m (yE A) (by rfl) (gq.out _ (b1 _)) gu.out (lJ A) (by omega) (by rw[s1];omega) m (wac m) ?_;intro kV c1 w1 hown1 uy hg1;have hL1:=(b1 _:Below w.heap.size w _).grown uy (by rw[s1];omega) (by intro k hk;simp[Value.ownBlock]at hk;omega);have hK1:=(k1 (.cells #[] 119)).grown uy (by simp[Value.ownBlock];omega);have lL:w1.cell? ⟨w.heap.size,2,none⟩=some (.string h):=hK1.cell 2;have lM:∀o,(w1.alloc o).cell? ⟨w.heap.size,2,none⟩=some (.string h):=λo=>(hK1.alloc o).cell 2;have hsz1:=hL1.size)
  |(refine QE (by rfl) _ _ 116 119 3 24 _ (by rfl) underlying116 qQ rfl (by omega) (by omega) w.heap.size (.slice (some ⟨z,0,none⟩) 0 0) 0 [] (by rfl) (o2 _) (.slice (some ⟨ob,0,none⟩) m oc) m (yE A) (by rfl) (gq.out _ (b2 _ _)) gu.out (lJ A) (by omega) (by rw[s2];omega) m (wac m) ?_;intro kV c1 w1 hown1 uy hg1;have hL1:=(b2 _ _:Below w.heap.size w _).grown uy (by rw[s2];omega) (by intro k hk;simp[Value.ownBlock]at hk;omega);have hK1:=(k2 (.cells #[] 119) (.cells #[.bool false,.bool false,.string X] 119)).grown uy (by simp[Value.ownBlock];omega);have lL:w1.cell? ⟨w.heap.size,2,none⟩=some (.string h):=hK1.cell 2;have lM:∀o,(w1.alloc o).cell? ⟨w.heap.size,2,none⟩=some (.string h):=λo=>(hK1.alloc o).cell 2;have hsz1:=hL1.size;have hX1:=(x2 (.cells #[] 119)).grown uy (by simp[Value.ownBlock]))
  |(refine QE (by rfl) _ _ 116 119 3 24 _ (by rfl) underlying116 qQ rfl (by omega) (by omega) w.heap.size (.slice (some ⟨z+1,0,none⟩) 0 0) 0 [] (by rfl) (o3 _) (.slice (some ⟨ob,0,none⟩) m oc) m (yE A) (by rfl) (gq.out _ (b2 _ _)) gu.out (lJ A) (by omega) (by rw[s2];omega) m (wac m) ?_;intro kV c1 w1 hown1 uy hg1;have hL1:=(b2 _ _:Below w.heap.size w _).grown uy (by rw[s2];omega) (by intro k hk;simp[Value.ownBlock]at hk;omega);have hK1:=(k2 (.cells #[.bool false,.bool false,.string X] 119) (.cells #[] 119)).grown uy (by simp[Value.ownBlock];omega);have lL:w1.cell? ⟨w.heap.size,2,none⟩=some (.string h):=hK1.cell 2;have lM:∀o,(w1.alloc o).cell? ⟨w.heap.size,2,none⟩=some (.string h):=λo=>(hK1.alloc o).cell 2;have hsz1:=hL1.size;have hX1:=(x3 (.cells #[] 119)).grown uy (by simp[Value.ownBlock]))
  |(refine QE (by rfl) _ _ 116 119 3 24 _ (by rfl) underlying116 qQ rfl (by omega) (by omega) w.heap.size (.slice kV m c1) m ([]++yE A) (by rfl) (Y7 hown1 _) _ 1 (uY ⟨false,false,X⟩) (by rfl) (lK w1 ⟨false,false,X⟩) rfl (YB _) (by omega) (by rw[waf];omega) n (by omega) ?_;intro xU c2 w2 hown2 YC hg2;have hL2:=(hL1.alloc (by omega) (.cells #[.bool false,.bool false,.string X] 119)).grown YC (by rw[waf];omega) (λk hk=>xx hown1 k hk);have MP:w2.cell? ⟨w.heap.size,2,none⟩=some (.string h):=((hK1.alloc (.cells #[.bool false,.bool false,.string X] 119)).grown YC (by intro e;first|omega|(have:=xx hown1 _ e.symm;rcases hg1 with g|g<;>(rw[←e]at g;simp[Value.ownBlock]at g;omega)))).cell 2)
  |(refine QE (by rfl) _ _ 116 119 3 24 _ (by rfl) underlying116 qQ rfl (by omega) (by omega) w.heap.size (.slice kV m c1) m ([]++yE A) (by rfl) hown1 _ 1 (uY ⟨false,false,X⟩) (by rfl) (QN (x:=⟨false,false,X⟩) hX1) rfl (YB _) (by omega) (by omega) n (by omega) ?_;intro xU c2 w2 hown2 YC hg2;have hL2:=hL1.grown YC (by omega) (λk hk=>xx hown1 k hk);have MP:w2.cell? ⟨w.heap.size,2,none⟩=some (.string h):=(hK1.grown YC (by intro e;rcases hg1 with g|g<;>(rw[←e]at g;simp[Value.ownBlock]at g;omega))).cell 2))
 all_goals
  go_wp2;refine bodyPost_ret (v:=.slice xU n c2) (by simp[results,results142,go_sem]) rfl ⟨_,rfl,?_,hL2⟩;have e:(A++ [(⟨false,false,X⟩:Pc)]).length=n:=by rw[wam,HM.out,HNM.out];rfl
  show w2.ownsRow _ _ _ _ _ _;rw[e,YA];simpa[yE]using hown2
end
end Go.Proofs.YtkolpaonccmgiaaGreatDoor

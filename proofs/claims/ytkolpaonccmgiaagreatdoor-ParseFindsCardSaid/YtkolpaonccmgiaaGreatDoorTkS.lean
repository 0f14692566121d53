/- What tokens of layer 9 (token) yields: each token  -/
import Derived.Test.YtkolpaonccmgiaaGreatDoorTkE
import Derived.Test.YtkolpaonccmgiaaGreatDoorLtR
set_option linter.unusedVariables false
namespace Go.Proofs.YtkolpaonccmgiaaGreatDoor
set_option linter.unusedSectionVars false
set_option linter.unusedVariables false
open Go.RowKit
theorem tksF_more (s:ByteArray):∀(k a j:Nat) (x:Lx),s.size - a≤k→k≤j→tksF s j a x=tksF s k a x
 |0,a,0,_,_,_=>rfl
 |0,a,j+1,x,h,_=>by
  show(if a<s.size then _ else _)=_
  rw [if_neg (by omega)];rfl
 |k+1,a,0,_,_,h=>by omega
 |k+1,a,j+1,x,h1,h2=>by
  unfold tksF
  by_cases h:a<s.size
  ·rw [if_pos h,if_pos h]
   have:=(tkN_ok x h).2
   rw [tksF_more s k _ j _ (by omega) (by omega)]
  ·rw [if_neg h,if_neg h]
theorem tksF_next {s:ByteArray} {a:Nat} (x:Lx) (h:a<s.size):tksF s (s.size - a) a x=(tkN s a x,nxN s a x)::tksF s (s.size - (tkN s a x).en) (tkN s a x).en (nxN s a x):=by
 have hg:=(tkN_ok x h).2
 obtain⟨k,hk⟩:∃k,s.size - a=k+1:=⟨s.size - a - 1,by omega⟩
 rw [hk]
 conv=>lhs;unfold tksF
 rw [if_pos h,tksF_more s _ _ _ _ (Nat.le_refl _) (by omega)]
theorem tksF_end {s:ByteArray} {a:Nat} (x:Lx) (h:¬a<s.size):tksF s (s.size - a) a x=[]:=by
 rw [show s.size - a=0 by omega];rfl
theorem lxN_ok (x:Lx) (k:Nat) (op:Bool) (text:ByteArray) {a e:Nat} (hp:x.pend.length≤a) (he:a<e) (ha:x.await≤1000):(lxN x k op text).pend.length≤e∧(lxN x k op text).await≤1000:=by
 have h17:(if ofN text=4∨ofN text=5 then ofN text else 0)≤1000:=by
  generalize ofN text=o
  split<;>omega
 have hx:x.pend.length≤e:=by omega
 unfold lxN
 split
 ·split
  ·exact⟨hx,ha⟩
  ·refine⟨?_,ha⟩
   show x.pend.tail.length≤_
   rw [List.length_tail]
   omega
 split
 ·exact⟨hx,ha⟩
 split
 ·exact⟨hx,Nat.zero_le _⟩
 split
 ·exact⟨hx,h17⟩
 split
 ·refine⟨?_,Nat.zero_le _⟩
  show(x.pend++ [_]).length≤_
  rw [List.length_append]
  show x.pend.length+1≤e
  omega
 ·exact⟨hx,Nat.zero_le _⟩
theorem nxN_ok {s:ByteArray} {a:Nat} (x:Lx) (h:a<s.size) (hp:x.pend.length≤a) (ha:x.await≤1000):(nxN s a x).pend.length≤(tkN s a x).en∧(nxN s a x).await≤1000:=
 lxN_ok x _ _ _ hp (tkN_ok x h).2.1 ha
def encT (q:Tk×Lx) (T:Nat→Prop) (W:World) (vs:Array Value):Prop:=
 ∃oa n c,vs=#[aggT q.1,aggL q.2 (.slice oa n c)]∧LxM W (.slice oa n c) q.2∧∀g,(Value.slice oa n c).ownBlock=some g→T g
def ToRl (s:ByteArray) (Bs Bt Bx:Nat) (J:List ((Tk×Lx)×Array Value)→(Nat→Prop)→World→Prop) (wr:World):Prop:=
 ∃(t:Tk) (x:Lx) (oa:Option Addr) (n c:Nat) (pre:List ((Tk×Lx)×Array Value)) (T:Nat→Prop),t.en≤s.size∧x.pend.length≤t.en∧x.await≤1000∧
  TKs s=pre.map Prod.fst++tksF s (s.size - t.en) t.en x∧Blk wr Bs #[.string s] 9∧Blk wr Bt #[.int .i64 (t.kind:Int),.int .i64 (t.frm:Int),.int .i64 (t.en:Int),.bool t.op] 67∧
  Blk wr Bx #[.int .i64 (x.await:Int),.slice oa n c,.bool x.body] 62∧LxM wr (.slice oa n c) x∧T Bt∧T Bx∧(∀g,(Value.slice oa n c).ownBlock=some g→T g∧g≠Bt∧g≠Bx∧Bs<g)∧(∀b,T b→Bs<b∧b<wr.heap.size)∧Tx wr∧J pre T wr∧
  (∀q vs,pre.getLast?=some (q,vs)→q.2=x∧vs=#[aggT q.1,aggL x (.slice oa n c)])
def TokC (Bs:Nat) (b:Nat):Prop:=b=Bs∨b=0
theorem LxM.kpt {W W':World} {pv:Value} {x:Lx} (h:LxM W pv x) (hs:W.heap.size≤W'.heap.size) (hb:∀g,pv.ownBlock=some g→W'.heap[g]?=W.heap[g]?):LxM W' pv x:=by
 refine⟨?_,fun e=>?_,fun g hg=>⟨(h.pos g hg).1,by have:=(h.pos g hg).2;omega⟩,h.cap⟩
 ·rcases h.src with q|⟨b,off,c,h1,h2,h3⟩
  ·exact .inl q
  ·exact .inr ⟨b,off,c,h1,by omega,fun j u hj=>(World.cell?_of_block (hb b (by rw [h1];rfl))).trans (h3 j u hj)⟩
 ·have ho:=h.own e
  refine⟨ho.1,?_⟩
  rcases ho.2 with h0|⟨g,cap,cur,hv,hb2,hg,h5⟩
  ·exact .inl h0
  ·refine .inr ⟨g,cap,cur,hv,hb2,?_,h5⟩
   rw [hb g (by rw [hv];rfl)]
   exact hg
def toSz (s:ByteArray):Option Value→Nat
 |some (.int _ i)=>s.size - i.toNat
 |_=>0
open Go.RowKit Go.Shelf
attribute [local go_sem] Oper.semAt_some
theorem infoTk:(Tryz.prog.info? 67).map (fun i=>(i.zero,i.size,i.bytes))=some (some (.agg #[.int .i64 0,.int .i64 0,.int .i64 0,.bool false]),4,32):=by kernel_rfl
theorem wplIn_apg {F:Fence} {fn:Nat} {ops:Array Oper} {rest:List Oper} {o:Oper} {a:Act} {w:World} {Q:Exit→Act→World→Prop} (hgd:o.guard=none) (s x:Operand) (t e:TypeId) (k bytes:Nat) (z:Value)
  (ho:o.op=.call { callee:=.builtin .append,args:=#[s,x],argTypes:=#[t,t] })
  (hu:Tryz.prog.underlying t=some (.slice e)) (hinfo:(Tryz.prog.info? e).map (fun i=>(i.zero,i.size,i.bytes))=some (some z,k,bytes)) (hzk:z.cells.size=k) (hk:0<k) (hby:bytes≤1000)
  (base:Nat) (v0:Value) (n0:Nat) (xs0:List Value) (hs:a.eval s=v0) (hown:w.ownsRow base e k v0 n0 xs0) (v1:Value) (m:Nat) (news:List Value) (hx:a.eval x=v1) (hsrc:Src w v1 m news) (hlen:news.length=m*k) (h1:∀u∈news,u.oneCell'=true) (hl:n0+m≤1000000) (hbase:base≤w.heap.size) (nn:Nat) (hnn:n0+m=nn)
  (h:∀oa c w',w'.ownsRow base e k (.slice oa nn c) nn (xs0++news)→w.grownBy w' v0.ownBlock→((Value.slice oa nn c).ownBlock=v0.ownBlock∨(Value.slice oa nn c).ownBlock=some w.heap.size)→wpListIn F fn Tryz.prog ops Q rest (a.put o.dst (.slice oa nn c)) w'):wpListIn F fn Tryz.prog ops Q (o::rest) a w:=by
 refine wpListIn_plain hgd fun K hK'=>?_
 obtain⟨oa,c,w',hrun,h2,h3,h4⟩:=run_app_gen w t e o.type k bytes z hu hinfo hzk hk hby base v0 n0 xs0 hown v1 m news hsrc hlen h1 hl hbase nn hnn
 unfold Oper.wpIn
 refine⟨?_,?_⟩
 ·simp [Oper.about,ho,resolve,Target.leads,Sem.run_pure]
 ·rw [Oper.semAt_plain F _ _ (by rw [ho];intro c hc';cases hc')]
  simp [execOp,ho,resolve,invoke,builtin,hs,hx,hrun,Result.andThen]
  exact hK' _ _ (h oa c w' h2 h3 h4)
def cellT (t:Tk):List Value:=[.int .i64 (t.kind:Int),.int .i64 (t.frm:Int),.int .i64 (t.en:Int),.bool t.op]
def cellsT (l:List Tk):List Value:=l.flatMap cellT
theorem cellsT_append (l k:List Tk):cellsT (l++k)=cellsT l++cellsT k:=by unfold cellsT;rw [List.flatMap_append]
theorem cellT_one (x:Tk):∀u∈cellT x,u.oneCell'=true:=by
 intro u hu
 simp [cellT]at hu
 rcases hu with rfl|rfl|rfl|rfl<;>rfl
theorem src_t {W:World} {b:Nat} {x:Tk} (h:Blk W b #[.int .i64 (x.kind:Int),.int .i64 (x.frm:Int),.int .i64 (x.en:Int),.bool x.op] 67):Src W (.slice (some ⟨b,0,none⟩) 1 1) 1 (cellT x):=by
 refine .inr ⟨_,0,1,rfl,h.lt,fun j u hj=>?_⟩
 rw [Nat.zero_add,h.cell j]
 simpa [cellT]using hj
def lstX (l:List (Tk×Lx)):Lx:=match l.getLast? with
 |some q=>q.2
 |none=>Lx.zero
theorem lstX_snoc (l:List (Tk×Lx)) (q:Tk×Lx):lstX (l++ [q])=q.2:=by unfold lstX;rw [List.getLast?_append];rfl
theorem tksF_len (s:ByteArray):∀(k a:Nat) (x:Lx),(tksF s k a x).length≤k
 |0,a,x=>Nat.zero_le _
 |k+1,a,x=>by
  unfold tksF
  split
  ·have:=tksF_len s k (tkN s a x).en (nxN s a x)
   rw [List.length_cons];omega
  ·exact Nat.zero_le _
def LgI (w:World) (z Br Ba Bl:Nat) (prs:List ((Tk×Lx)×Array Value)) (T:Nat→Prop) (W:World):Prop:=
 ∃v oa n c,Blk W Ba #[v] 59∧W.ownsRow (z+2) 67 4 v prs.length (cellsT (prs.map fun p=>p.1.1))∧Blk W Bl #[.int .i64 ((lstX (prs.map Prod.fst)).await:Int),.slice oa n c,.bool (lstX (prs.map Prod.fst)).body] 62∧
  Blk W Br #[.int .i64 0,.slice none 0 0,.bool false] 62∧(∀g,v.ownBlock=some g→¬T g)∧(∀b,T b→z+2≤b)∧z+2≤W.heap.size∧Below w.heap.size w W∧(prs=[]→Value.slice oa n c=.slice none 0 0)∧∀q vs,prs.getLast?=some (q,vs)→vs=#[aggT q.1,aggL q.2 (.slice oa n c)]
theorem LgI.abid {w:World} {z Br Ba Bl:Nat} (hr:Br<z) (hb:Ba<z) (hl:Bl<z) (hw:w.heap.size≤z):AbidL (z+1) (LgI w z Br Ba Bl):=by
 rintro pre T W W' T' ⟨v,oa,n,c,h1,h3,k1,k2,h2,hT,hzW,hB,hq,hz⟩ hf hT'
 have no:∀b,b<z→¬(T b∨b=z+1):=fun b hb hh=>by rcases hh with g|g;have:=hT b g;omega;omega
 refine⟨v,oa,n,c,h1.frm hf (no _ hb),own_frm hf h3 (fun g hg hh=>?_),k1.frm hf (no _ hl),k2.frm hf (no _ hr),fun g hg hh=>?_,fun b hb=>?_,?_,?_,hq,hz⟩
 ·rcases hh with e|e
  ·exact h2 g hg e
  ·have:=own_ge h3 g hg;omega
 ·rcases hT' g hh with e|e
  ·exact h2 g hg e
  ·have:=own_lt h3 g hg;omega
 ·rcases hT' b hb with e|e
  ·exact hT b e
  ·omega
 ·have:=hf.size;omega
 ·exact hB.trans ((hf.below (n:=w.heap.size) hB.size (fun b hh=>by rcases hh with e|e;have:=hT b e;omega;omega)))
def RdT (W:World) (v:Value) (l:List Tk):Prop:=
 (v=.slice none 0 0∧l=[])∨∃b off c,v=.slice (some ⟨b,off,none⟩) l.length c∧b<W.heap.size∧∀j t,l[j]?=some t→W.cell? ⟨b,off+j*4,none⟩=some (.int .i64 (t.kind:Int))∧W.cell? ⟨b,off+j*4+1,none⟩=some (.int .i64 (t.frm:Int))∧W.cell? ⟨b,off+j*4+2,none⟩=some (.int .i64 (t.en:Int))∧W.cell? ⟨b,off+j*4+3,none⟩=some (.bool t.op)
theorem cellsT_get:∀(l:List Tk) (j k:Nat) (t:Tk),l[j]?=some t→k<4→(cellsT l)[j*4+k]?=(cellT t)[k]?
 | [],j,k,t,h,_=>by cases h
 |a::l,0,k,t,h,hk=>by
  cases h
  show(cellT a++cellsT l)[0*4+k]?=_
  rw [List.getElem?_append_left (by show 0*4+k<4;omega),Nat.zero_mul,Nat.zero_add]
 |a::l,j+1,k,t,h,hk=>by
  show(cellT a++cellsT l)[(j+1)*4+k]?=_
  rw [List.getElem?_append_right (by show 4≤_;omega),show(j+1)*4+k - (cellT a).length=j*4+k from by show(j+1)*4+k - 4=_;omega]
  exact cellsT_get l j k t h hk
theorem RdT.of_own {W:World} {base:Nat} {v:Value} {l:List Tk} (h:W.ownsRow base 67 4 v l.length (cellsT l)):RdT W v l:=by
 rcases Src.of_own h with⟨h1,h2,_⟩|⟨b,off,c,h1,h2,h3⟩
 ·exact .inl ⟨h1,List.eq_nil_of_length_eq_zero h2⟩
 ·refine .inr ⟨b,off,c,h1,h2,fun j t hj=>?_⟩
  have g:=fun k hk=>cellsT_get l j k t hj hk
  refine⟨h3 (j*4) _ (g 0 (by omega)),?_,?_,?_⟩
  ·exact h3 (j*4+1) _ (g 1 (by omega))
  ·exact h3 (j*4+2) _ (g 2 (by omega))
  ·exact h3 (j*4+3) _ (g 3 (by omega))
theorem RdT.below {W W':World} {v:Value} {l:List Tk} (h:RdT W v l) (hb:Below W.heap.size W W'):RdT W' v l:=by
 rcases h with h|⟨b,off,c,h1,h2,h3⟩
 ·exact .inl h
 ·have e:∀o,W'.cell? ⟨b,o,none⟩=W.cell? ⟨b,o,none⟩:=fun o=>hb.cell (p:=⟨b,o,none⟩) h2
  exact .inr ⟨b,off,c,h1,Nat.lt_of_lt_of_le h2 hb.size,fun j t hj=>by rw [e,e,e,e];exact h3 j t hj⟩
set_option maxHeartbeats 400000 in
theorem tclone_any (s:ByteArray) (w:World) (hlim:s.size≤281474976710656):
  Calls Tryz.prog 92 #[.string s] w fun e w'=>e=.returned (.string s)∧Below w.heap.size w w':=by
 go_enter Tryz.func92,Tryz.ntmps92
 go_wp2_with (go_at_call 111;refine(Tryz.stringslite_Clone s _ hlim).mono ?_;rintro e w1 ⟨rfl,hb⟩)
 go_ret
 exact⟨rfl,hb⟩
section
variable (w:World) (s:ByteArray) (t:Tk) (hs:s.size≤1000000) (h1:t.frm≤t.en) (h2:t.en≤s.size)
include hs h1 h2
set_option maxHeartbeats 2000000 in
theorem stands_any:Calls Tryz.prog 65 #[.string s,aggT t] w fun e w'=>e=.returned (.bool true)∧Below w.heap.size w w':=by
 unfold aggT
 have q0:(0:Int)≤(t.frm:Int):=by omega
 have q1:(t.frm:Int)≤(t.en:Int):=by omega
 have q2:(t.en:Int)≤(s.size:Int):=by omega
 have kb:=Blk.new w #[.int .i64 (t.kind:Int),.int .i64 (t.frm:Int),.int .i64 (t.en:Int),.bool t.op] 67
 have a1:=kb.cell 1
 have a2:=kb.cell 2
 go_enter Tryz.func65,Tryz.ntmps65
 go_wp2
 go_ret
 exact⟨rfl,(Below.refl _ w).alloc (Nat.le_refl _) _⟩
set_option maxHeartbeats 2000000 in
theorem text_any:Calls Tryz.prog 66 #[.string s,aggT t] w fun e w'=>e=.returned (.string (s.extract t.frm t.en))∧Below w.heap.size w w':=by
 have hst:=fun W=>stands_any W s t hs h1 h2
 have hcl:=fun W=>tclone_any (s.extract t.frm t.en) W (by rw [ByteArray.size_extract];omega)
 unfold aggT at*
 have HST:=Lib.hid hst
 have HCL:=Lib.hid hcl
 have q0:(0:Int)≤(t.frm:Int):=by omega
 have q1:(t.frm:Int)≤(t.en:Int):=by omega
 have q2:(t.en:Int)≤(s.size:Int):=by omega
 have kb:=Blk.new w #[.int .i64 (t.kind:Int),.int .i64 (t.frm:Int),.int .i64 (t.en:Int),.bool t.op] 67
 have hB0:Below w.heap.size w (w.alloc (.cells #[.int .i64 (t.kind:Int),.int .i64 (t.frm:Int),.int .i64 (t.en:Int),.bool t.op] 67)):=(Below.refl _ w).alloc (Nat.le_refl _) _
 have HB0:=Lib.hid hB0
 have HKB:=Lib.hid kb
 clear hst hcl hB0
 go_enter Tryz.func66,Tryz.ntmps66
 go_wp2_with fail
 refine(HST.out _).mono ?_
 rintro e w1 ⟨rfl,hb1⟩
 have k1:=HKB.out.below hb1
 have a1:=k1.cell 1
 have a2:=k1.cell 2
 go_wp2_with fail
 refine(HCL.out _).mono ?_
 rintro e w2 ⟨rfl,hb2⟩
 go_wp2
 go_ret
 have hz:=HB0.out.size
 exact⟨rfl,(HB0.out.trans (hb1.mono hz)).trans (hb2.mono (Nat.le_trans hz hb1.size))⟩
end
structure RdK (W:World) (oa:Option Addr) (n:Nat) (l:List Tk):Prop where
 len:n=l.length
 cells:∀(j:Nat) t,l[j]?=some t→∃b off,oa=some ⟨b,off,none⟩∧b<W.heap.size∧W.cell? ⟨b,off+j*4,none⟩=some (.int .i64 (t.kind:Int))∧W.cell? ⟨b,off+j*4+1,none⟩=some (.int .i64 (t.frm:Int))∧W.cell? ⟨b,off+j*4+2,none⟩=some (.int .i64 (t.en:Int))∧W.cell? ⟨b,off+j*4+3,none⟩=some (.bool t.op)
theorem RdK.below {W W':World} {oa:Option Addr} {n:Nat} {l:List Tk} (h:RdK W oa n l) (hb:Below W.heap.size W W'):RdK W' oa n l:=
 ⟨h.len,fun j d hj=>by
  obtain⟨b,off,h1,h2,h3,h4,h5,h6⟩:=h.cells j d hj
  have e:∀o,W'.cell? ⟨b,o,none⟩=W.cell? ⟨b,o,none⟩:=fun o=>hb.cell (p:=⟨b,o,none⟩) h2
  exact⟨b,off,h1,Nat.lt_of_lt_of_le h2 hb.size,(e _).trans h3,(e _).trans h4,(e _).trans h5,(e _).trans h6⟩⟩
theorem RdK.of_own {W:World} {base:Nat} {v:Value} {l:List Tk} {n:Nat} (hn:n=l.length) (h:W.ownsRow base 67 4 v n (cellsT l)):∃oa c,v=.slice oa n c∧RdK W oa n l:=by
 subst hn
 rcases RdT.of_own h with⟨h1,h2⟩|⟨b,off,c,h1,h2,h3⟩
 ·subst h2
  exact⟨none,0,h1,rfl,fun j t hj=>by cases hj⟩
 ·refine⟨_,c,h1,rfl,fun j t hj=>?_⟩
  obtain⟨g0,g1,g2,g3⟩:=h3 j t hj
  exact⟨b,off,rfl,h2,g0,g1,g2,g3⟩
set_option maxRecDepth 100000 in
set_option maxHeartbeats 8000000 in
theorem tokens_seq (n:Nat) (hn:1≤n) (s:ByteArray) (hs:s.size≤900) (Bs:Nat) (h1s:1≤Bs) (W:World) (hb:Blk W Bs #[.string s] 9) (hT:Tx W):
  SeqE n Tryz.prog 90 #[.pointer (some ⟨Bs,0,none⟩)] encT (TokC Bs) (fun _=>False) (TKs s) W:=by
 intro l J Jx hJ hJx hY hJ0
 have HY:=Lib.hid hY
 have HJ:=Lib.hid hJ
 have hro:Fence.wide.round=none:=rfl
 have hfn:Fence.wide.fn 90:=trivial
 have hfx:Fence.wide.fn 91:=trivial
 have hlt:=hb.lt
 obtain⟨W2,hW2⟩:∃X,(W.alloc (.cells #[.int .i64 0,.int .i64 0,.int .i64 0,.bool false] 67)).alloc (.cells #[.int .i64 0,.slice none 0 0,.bool false] 62)=X:=⟨_,rfl⟩
 have hB2:Below W.heap.size W W2:=by rw [←hW2];exact below_a2' W _ _
 have kt2:Blk W2 W.heap.size #[.int .i64 0,.int .i64 0,.int .i64 0,.bool false] 67:=by rw [←hW2];exact(Blk.new W _ _).alloc _
 have kx2:Blk W2 (W.heap.size+1) #[.int .i64 0,.slice none 0 0,.bool false] 62:=by rw [←hW2];exact blk_a2 W _ _ _
 have hst:ToRl s Bs W.heap.size (W.heap.size+1) J W2:=by
  refine⟨⟨0,0,0,false⟩,Lx.zero,none,0,0,[],(fun b=>b=W.heap.size∨b=W.heap.size+1),Nat.zero_le _,Nat.zero_le _,Nat.zero_le _,rfl,hb.below hB2,kt2,kx2,LxM.zero _,.inl rfl,.inr rfl,fun g h=>(by cases h),fun b h=>?_,hT.b hB2,HJ.out.below hJ0 hB2 (fun b h=> .inr (by omega)),fun q vs h=>(by cases h)⟩
  have:=kx2.lt
  omega
 have HST:=Lib.hid hst
 have hkw:W.heap.size≠Bs∧W.heap.size+1≠Bs∧Bs≠W.heap.size∧Bs≠W.heap.size+1:=by omega
 obtain⟨Bt,hBt⟩:∃z,W.heap.size=z:=⟨_,rfl⟩
 have HW2:=Lib.hid hW2
 rw [hBt]at HST hkw
 have HBT:=Lib.hid hBt
 clear hY hJ hJ0 hst hb hW2 hB2 kt2 kx2 hT hlt hBt
 refine callsIn_of_wp Tryz.func90 rfl hfn ?_ hro
 simp only [Tryz.ntmps90,List.size_toArray,List.length_cons,List.length_nil,Nat.reduceAdd,Nat.reduceSub,Array.replicate_succ,Array.replicate_zero,List.push_toArray,List.append_toArray,List.nil_append,List.cons_append]
 gi_wp2
 rw [HW2.out,HBT.out]
 gi_loopw [] (fun wr=>ToRl s Bs Bt (Bt+1) J wr) (fun wr=>toSz s (wr.cell? ⟨Bt,2,none⟩))
 case atStart=>exact HST.out
 case round=>
  obtain⟨t,x,oa,m,c,pre,T,h1,h2,h3,hL,kb,kt,kx,hM,hTt,hTx,hTg,hTb,hTX,hj,hlast⟩:=hrel
  have kt0:=kt.cell 2
  have ks0:=kb.cell 0
  have hBb:Bs<Bt:=(hTb Bt hTt).1
  have hBt2:=(hTb Bt hTt).2
  have hBx2:=(hTb (Bt+1) hTx).2
  by_cases hlt:t.en<s.size
  ·have hi:(t.en:Int)<(s.size:Int):=by omega
   have x0:=kx.cell 0
   have x1:=kx.cell 1
   have x2:=kx.cell 2
   have hnx:=next_any wr x oa m c s t.en hlt hs hTX hM (by omega) h3
   have hok:=tkN_ok x hlt
   have hnk:=nxN_ok x hlt h2 h3
   have hlx:=tksF_next x hlt
   rw [hlx]at hL
   generalize hq:tkN s t.en x=t2 at hnx hok hnk hL hlx
   generalize hy:nxN s t.en x=y at hnx hnk hL hlx
   clear hq hy hlx
   unfold aggL aggT at hnx
   have HNX:=Lib.hid ((callsIn_wide (n:=n - 1)).2 hnx)
   have HH:=Lib.hid (And.intro hL (And.intro hok (And.intro hnk (And.intro hTg (And.intro hTb (And.intro hTX (And.intro hj hlast)))))))
   have HM:=Lib.hid hM
   clear hnx hL hok hnk hTg hTb hTX hj hlast hM
   gi_wp2_with fail
   refine(HNX.out).mono ?_
   rintro e w1 ⟨oa',n',c',rfl,hM1,hF1,hg1⟩
   obtain⟨hL,hok,hnk,hTg,hTb,hTX,hj,hlast⟩:=HH.out
   have kb1:=kb.frm hF1 (fun e=>by have:=(hTg _ e).2.2.2;omega)
   have kt1:=kt.frm hF1 (fun e=>by have:=(hTg _ e).2.1;omega)
   have kx1:=kx.frm hF1 (fun e=>by have:=(hTg _ e).2.2.1;omega)
   have hng:∀g,(Value.slice oa' n' c').ownBlock=some g→g≠Bt∧g≠Bt+1∧Bs<g:=fun g hg=>by
    rcases hg1 g hg with q|q
    ·exact(hTg g q).2
    ·omega
   have hs1:=hF1.size
   have hTX1:Tx w1:=⟨by omega,fun i hi=>(hF1.cell (a:=⟨0,i,none⟩) hTX.1 (fun e=>by have h:Bs<0:=(hTg 0 e).2.2.2;omega)).trans (hTX.2 i hi)⟩
   have hj1:J pre T w1:=HJ.out.same hj (hF1.mono (fun i _ hh=>(hTg i hh).1))
   have HH2:=Lib.hid (And.intro hng (And.intro hTX1 (And.intro hj1 hs1)))
   have HM1:=Lib.hid hM1
   have HG1:=Lib.hid hg1
   clear hL hok hnk hTg hTb hTX hj hlast hng hTX1 hj1 hs1 hM1 hg1 kb kx kt0 ks0 x0 x1 x2 HNX
   have c0:=kt1.cell 0
   have c1:=kt1.cell 1
   have c2:=kt1.cell 2
   have c3:=kt1.cell 3
   have d0:=kt1.frozen 0
   have d1:=kt1.frozen 1
   have d2:=kt1.frozen 2
   have d3:=kt1.frozen 3
   have x0:=kx1.cell 0
   have x1:=kx1.cell 1
   have x2:=kx1.cell 2
   have y0:=kx1.frozen 0
   have y1:=kx1.frozen 1
   have y2:=kx1.frozen 2
   have et:=(((kt1.set 0 (.int .i64 (t2.kind:Int))).set 1 (.int .i64 (t2.frm:Int))).set 2 (.int .i64 (t2.en:Int))).set 3 (.bool t2.op)
   have ft:=((et.other 0 (.int .i64 (y.await:Int)) (b':=Bt+1) (by omega)).other 1 (.slice oa' n' c') (b':=Bt+1) (by omega)).other 2 (.bool y.body) (b':=Bt+1) (by omega)
   have ex:=(((kx1.other 0 (.int .i64 (t2.kind:Int)) (b':=Bt) (by omega)).other 1 (.int .i64 (t2.frm:Int)) (b':=Bt) (by omega)).other 2 (.int .i64 (t2.en:Int)) (b':=Bt) (by omega)).other 3 (.bool t2.op) (b':=Bt) (by omega)
   have fx:=((ex.set 0 (.int .i64 (y.await:Int))).set 1 (.slice oa' n' c')).set 2 (.bool y.body)
   have hF3:Frm (fun b=>b=Bt∨b=Bt+1) w1 (((((((w1.setCell ⟨Bt,0,none⟩ (.int .i64 (t2.kind:Int))).setCell ⟨Bt,1,none⟩ (.int .i64 (t2.frm:Int))).setCell ⟨Bt,2,none⟩ (.int .i64 (t2.en:Int))).setCell ⟨Bt,3,none⟩ (.bool t2.op)).setCell ⟨Bt+1,0,none⟩ (.int .i64 (y.await:Int))).setCell ⟨Bt+1,1,none⟩ (.slice oa' n' c')).setCell ⟨Bt+1,2,none⟩ (.bool y.body)):=
    (((((((Frm.refl _ w1).setCell 0 (.inl (.inl rfl)) _).setCell 1 (.inl (.inl rfl)) _).setCell 2 (.inl (.inl rfl)) _).setCell 3 (.inl (.inl rfl)) _).setCell 0 (.inl (.inr rfl)) _).setCell 1 (.inl (.inr rfl)) _).setCell 2 (.inl (.inr rfl)) _
   have fb:=kb1.frm hF3 (fun e=>by omega)
   have hM3:LxM _ (.slice oa' n' c') y:=HM1.out.frm hF3 (fun g hg hh=>by have:=HH2.out.1 g hg;omega)
   have hF4:=(hF1.mono (q:=T) (fun i _ hh=>(HH.out.2.2.2.1 i hh).1)).trans hF3 (fun i _ hh=>by rcases hh with e|e<;>(rw [e];first|exact hTt|exact hTx))
   have hj3:=HJ.out pre T wr _ (fun b=>T b∨(Value.slice oa' n' c').ownBlock=some b) HH.out.2.2.2.2.2.2.1 hF4 (fun b hb=>hb.elim .inl (fun e=>by
    rcases HG1.out b e with q|q
    ·exact .inl (HH.out.2.2.2.1 b q).1
    ·exact .inr q))
   have hTb3:=fun b (hb:T b∨(Value.slice oa' n' c').ownBlock=some b)=>(show b<_ from hb.elim (fun h=>Nat.lt_of_lt_of_le (HH.out.2.2.2.2.1 b h).2 hF4.size) (fun e=>Nat.lt_of_lt_of_le (HM1.out.pos b e).2 hF3.size))
   obtain⟨fn,tmps,assign,body,hy,hR2⟩:=HY.out pre (t2,y) #[.agg #[.int .i64 (t2.kind:Int),.int .i64 (t2.frm:Int),.int .i64 (t2.en:Int),.bool t2.op],.agg #[.int .i64 (y.await:Int),.slice oa' n' c',.bool y.body]] _ (fun b=>T b∨(Value.slice oa' n' c').ownBlock=some b) _ HH.out.1 hj3 hTb3 ⟨oa',n',c',rfl,hM3,fun g hg=> .inr hg⟩
   have HR2:=Lib.hid hR2
   clear hR2 hTb3 hF4
   have HKT0:=Lib.hid kt
   clear kt
   have HF3:=Lib.hid hF3
   have HM3:=Lib.hid hM3
   have HJ3:=Lib.hid hj3
   clear hM3 hj3 et ex hF3
   gi_wp2
   refine HR2.out.mono ?_
   rintro e W' ⟨hk3,(⟨rfl,hJ3⟩|⟨rfl,hJx3⟩)⟩
   ·have ft':Blk W' Bt #[.int .i64 (t2.kind:Int),.int .i64 (t2.frm:Int),.int .i64 (t2.en:Int),.bool t2.op] 67:=(hk3.same Bt ft.lt (.inl (.inl hTt))).trans ft
    have fx':Blk W' (Bt+1) #[.int .i64 (y.await:Int),.slice oa' n' c',.bool y.body] 62:=(hk3.same (Bt+1) fx.lt (.inl (.inl hTx))).trans fx
    have fb':Blk W' Bs #[.string s] 9:=(hk3.same Bs fb.lt (.inr (.inl rfl))).trans fb
    have hM':LxM W' (.slice oa' n' c') y:=HM3.out.kpt hk3.size (fun g hg=>hk3.same g (HM3.out.pos g hg).2 (.inl (.inr hg)))
    have hz3:=HF3.out.size
    have hTX':Tx W':=⟨by have:=hk3.size;have:=HH2.out.2.2.2;omega,fun i hi=>(World.cell?_of_block (w':=W') (w:=w1) (a:=⟨0,i,none⟩) (show W'.heap[0]?=w1.heap[0]? from(hk3.same 0 (by have:=HH2.out.2.1.1;omega) (.inr (.inr rfl))).trans (HF3.out.block 0 HH2.out.2.1.1 (fun e=>by omega)))).trans (HH2.out.2.1.2 i hi)⟩
    have hrel':ToRl s Bs Bt (Bt+1) J W':=by
     refine⟨t2,y,oa',n',c',pre++ [((t2,y),#[.agg #[.int .i64 (t2.kind:Int),.int .i64 (t2.frm:Int),.int .i64 (t2.en:Int),.bool t2.op],.agg #[.int .i64 (y.await:Int),.slice oa' n' c',.bool y.body]])],(fun b=>T b∨(Value.slice oa' n' c').ownBlock=some b),HH.out.2.1.2.2,HH.out.2.2.1.1,HH.out.2.2.1.2,?_,fb',ft',fx',hM',.inl hTt,.inl hTx,fun g hg=>⟨.inr hg,HH2.out.1 g hg⟩,fun b hb=>?_,hTX',hJ3,fun q vs h=>?_⟩
     ·rw [HH.out.1]
      simp
     ·rcases hb with h|h
      ·have:=HH.out.2.2.2.2.1 b h
       have:=hk3.size
       have:=HH2.out.2.2.2
       omega
      ·have:=(HH2.out.1 b h).2.2
       have:=(hM'.pos b h).2
       omega
     ·rw [List.getLast?_append]at h
      simp at h
      obtain⟨h1,h2⟩:=h
      subst h1 h2
      exact⟨rfl,rfl⟩
    have HREL:=Lib.hid hrel'
    have c2':W'.cell? ⟨Bt,2,none⟩=some (.int .i64 (t2.en:Int)):=ft'.cell 2
    have HC2:=Lib.hid c2'
    have HKT:=HKT0
    clear hrel' hTX' hM' ft' fx' fb' c2'
    gi_wp2
    go_roundw
    case rel=>exact HREL.out
    case measure=>
     rw [HC2.out,show wr.cell? ⟨Bt,2,none⟩=some (.int .i64 (t.en:Int))from HKT.out.cell 2]
     show s.size - t2.en<s.size - t.en
     have:=HH.out.2.1.2
     omega
   ·gi_wp2
    refine bodyPost_ret (results_none rfl _ _ _) rfl ?_
    exact⟨⟨_,rfl⟩,.inr ⟨_,_,hJx3⟩⟩
  ·have hi:¬(t.en:Int)<(s.size:Int):=by omega
   rw [tksF_end x hlt,List.append_nil]at hL
   have HL:=Lib.hid hL
   have HH:=Lib.hid (And.intro hTg (And.intro hlast hM))
   clear hL hTg hlast hM
   gi_wp2
   go_end0
   refine⟨⟨_,rfl⟩,.inl ⟨pre,HL.out.symm,T,hj,fun qt qx vs h=>?_⟩⟩
   obtain⟨hTg,hlast,hM⟩:=HH.out
   obtain⟨e1,e2⟩:=hlast (qt,qx) vs h
   exact⟨oa,m,c,by rw [e1];exact e2,by rw [e1];exact hM,fun g hg=>(hTg g hg).1⟩
attribute [local go_sem] Oper.semAt_some
section
variable (w:World)
set_option maxHeartbeats 1000000 in
theorem tokens_any (t:ByteArray):Calls Tryz.prog 63 #[.string t] w fun e w'=>e=.returned (.func (.func 90) #[] #[.pointer (some ⟨w.heap.size,0,none⟩)])∧w'=w.alloc (.cells #[.string t] 9):=by
 go_enter Tryz.func63,Tryz.ntmps63
 go_wp2
 go_ret
 exact⟨rfl,rfl⟩
set_option maxRecDepth 100000 in
set_option maxHeartbeats 8000000 in
theorem lex_any (s:ByteArray) (hs:s.size≤900) (hT:Tx w):
  Calls Tryz.prog 39 #[.string s] w fun e w'=>∃v oa n c,e=.returned (.tuple #[v,aggL (lstX (TKs s)) (.slice oa n c)])∧w'.ownsRow w.heap.size 67 4 v (TKs s).length (cellsT ((TKs s).map Prod.fst))∧LxM w' (.slice oa n c) (lstX (TKs s))∧Below w.heap.size w w':=by
 have hlen:(TKs s).length≤900:=Nat.le_trans (tksF_len s s.size 0 Lx.zero) hs
 obtain⟨X,hX⟩:∃X,lstX (TKs s)=X:=⟨_,rfl⟩
 rw [hX]
 have HX:=Lib.hid hX
 clear hX
 have HTK:=Lib.hid (fun W=>tokens_any W s)
 refine(callsIn_wide (n:=5)).1 ?_
 have hfn:Fence.wide.fn 39:=trivial
 obtain⟨W0,hW0⟩:∃X,((w.alloc (.cells #[.int .i64 0,.slice none 0 0,.bool false] 62)).alloc (.cells #[.slice none 0 0] 59)).alloc (.cells #[.int .i64 0,.slice none 0 0,.bool false] 62)=X:=⟨_,rfl⟩
 have kr0:Blk W0 w.heap.size #[.int .i64 0,.slice none 0 0,.bool false] 62:=by rw [←hW0];exact((Blk.new w _ _).alloc _).alloc _
 have ka0:Blk W0 (w.heap.size+1) #[.slice none 0 0] 59:=by rw [←hW0];exact(blk_a2 w _ _ _).alloc _
 have kl0:Blk W0 (w.heap.size+1+1) #[.int .i64 0,.slice none 0 0,.bool false] 62:=by rw [←hW0];exact blk_a3 w _ _ _ _
 have hB0:Below w.heap.size w W0:=by rw [←hW0];exact below_a3 w _ _ _
 have hz0:W0.heap.size=w.heap.size+3:=by rw [←hW0];simp
 refine callsIn_of_wp_marks Tryz.func39 rfl hfn ?_ rfl
 refine(wpIn_wide (n:=5)).2 ?_
 simp only [Tryz.ntmps39,List.size_toArray,List.length_cons,List.length_nil,Nat.reduceAdd,Nat.reduceSub,Array.replicate_succ,Array.replicate_zero,List.push_toArray,List.append_toArray,List.nil_append,List.cons_append]
 go_wp2_with fail
 clear hW0
 obtain⟨Br,h6⟩:∃x,w.heap.size=x:=⟨_,rfl⟩
 have H6:=Lib.hid h6
 rw [h6]at kr0 ka0 kl0 hz0 ⊢
 clear h6
 refine(HTK.out _).mono ?_
 rintro en W1 ⟨rfl,hW1⟩
 have hB1:Below W0.heap.size W0 W1:=by rw [hW1];exact(Below.refl _ _).alloc (Nat.le_refl _) _
 have ks:Blk W1 W0.heap.size #[.string s] 9:=by rw [hW1];exact Blk.new W0 _ _
 have hz1:W1.heap.size=W0.heap.size+1:=by rw [hW1];simp
 have hBw:Below w.heap.size w W1:=hB0.trans (hB1.mono hB0.size)
 obtain⟨Bs,hBs⟩:∃z,W0.heap.size=z:=⟨_,rfl⟩
 have hB1':=hB1
 rw [hBs]at ks hz1 hz0 ⊢
 have kr:=kr0.below hB1
 have ka:=ka0.below hB1
 have kl:=kl0.below hB1
 have hT1:Tx W1:=(hT.b hB0).b hB1
 have hseq:∀W,Below W1.heap.size W1 W→SeqE (5 - 1) Tryz.prog 90 #[.pointer (some ⟨Bs,0,none⟩)] encT (TokC Bs) (fun _=>False) (TKs s) W:=fun W hW=>
  tokens_seq 4 (by omega) s hs Bs (by have:=hT.1;have:=H6.out;omega) W (ks.below hW) (hT1.b hW)
 have HSEQ:=Lib.hid hseq
 have HLEN:=Lib.hid hlen
 have HB:=Lib.hid hBw
 have HTX:=Lib.hid hT
 clear hseq hlen hBw hT hB0 hB1 hB1' hT1 kr0 ka0 kl0 hW1 hBs ks
 have hord:Br<W1.heap.size∧Br+1<W1.heap.size∧Br+1+1<W1.heap.size∧Br≤W1.heap.size∧Bs<W1.heap.size:=by omega
 have hwz:w.heap.size≤W1.heap.size:=by have:=H6.out;omega
 have HZ0:=Lib.hid (And.intro hz0 hz1)
 clear hz0 hz1
 go_wp2
 refine(wpIn_wide (n:=5)).1 (wpTE (L:=TKs s) (E:=encT) (C:=TokC Bs) (T0:=fun _=>False) (gf:=90) (lb:=#[.pointer (some ⟨Bs,0,none⟩)]) rfl (enters_of Tryz.func90 (by kernel_rfl) rfl) HSEQ.out (fun b hb=>by rcases hb with e|e<;>omega) (fun b hb=>hb.elim) ?hps ?hE
  (LgI w W1.heap.size Br (Br+1) (Br+1+1)) (fun _ _ _ _=>False) (LgI.abid hord.1 hord.2.1 hord.2.2.1 hwz) (fun _ _ _ _ _ _ h _ _=>h) ?start ?round ?fin ?stop)
 case hps=>
  rintro x T W vs ⟨oa,n,c,rfl,_⟩
  rfl
 case hE=>
  rintro x T W W' vs ⟨oa,n,c,rfl,hM,hg⟩ hf ht
  exact⟨oa,n,c,rfl,hM.frm hf (fun g hgg e=>ht (e▸hg g hgg)),hg⟩
 case start=>
  intro W hB hz
  exact⟨.slice none 0 0,none,0,0,ka.below hB,World.ownsRow_nil _ _ _ _,kl.below hB,kr.below hB,(fun g hg=>by cases hg),(fun b hb=>hb.elim),by omega,HB.out.trans (hB.mono HB.out.size),fun _=>rfl,fun q vs h=>by cases h⟩
 case stop=>rintro c pre T W h;exact h.elim
 case fin=>
  rintro prs T W hL ⟨v,oa,n,c,h1,h3,k1,k2,h2,hT,hzW,hB,hq,hz⟩ hlast hWz hWd
  rw [hL]at k1
  have hM:LxM W (.slice oa n c) (lstX (TKs s))∧∀g,(Value.slice oa n c).ownBlock=some g→T g:=by
   cases hpl:prs.getLast? with
   |none=>
    have hp0:prs=[]:=List.getLast?_eq_none_iff.1 hpl
    rw [hq hp0,←hL,hp0]
    exact⟨LxM.zero W,fun g h=>by cases h⟩
   |some qv=>
    obtain⟨q,vs⟩:=qv
    obtain⟨oa2,n2,c2,e2,hM2,hg2⟩:=hlast q vs hpl
    have e3:=hz q vs hpl
    rw [e2]at e3
    have e4:Value.slice oa2 n2 c2=.slice oa n c:=by
     have e5:aggL q.2 (.slice oa2 n2 c2)=aggL q.2 (.slice oa n c):=by injection e3 with e6;injection e6 with _ e7;injection e7
     unfold aggL at e5
     injection e5 with e6
     injection e6 with e7
     injection e7 with _ e8
     injection e8
    rw [e4]at hM2 hg2
    have e5:lstX (TKs s)=q.2:=by
     rw [←hL]
     unfold lstX
     rw [List.getLast?_map,hpl]
     rfl
    rw [e5]
    exact⟨hM2,hg2⟩
  have hpl:prs.length=(TKs s).length:=by rw [←hL,List.length_map]
  have hpc:(prs.map fun p=>p.1.1)=(TKs s).map Prod.fst:=by rw [←hL,List.map_map];rfl
  rw [hpl,hpc]at h3
  rw [HX.out]at k1 hM
  have H3:=Lib.hid h3
  have HD:=Lib.hid hWd
  have HMM:=Lib.hid hM
  have HTT:=Lib.hid hT
  clear h2 h3 hM hT hlast hz hq hL hpl hpc
  dsimp only
  have c0:=h1.cell 0
  have l0:=k1.cell 0
  have l1:=k1.cell 1
  have l2:=k1.cell 2
  have r0:=k2.cell 0
  have r1:=k2.cell 1
  have r2:=k2.cell 2
  have rf0:=k2.frozen 0
  have rf1:=k2.frozen 1
  have rf2:=k2.frozen 2
  go_wp2
  go_region
  all_goals
   go_wp2
   obtain⟨hM,hMg⟩:=HMM.out
   have kd:=(((k2.set 0 (.int .i64 (X.await:Int))).set 1 (.slice oa n c)).set 2 (.bool X.body)).drew
   have hF:Frm (fun b=>b=Br) W (((W.setCell ⟨Br,0,none⟩ (.int .i64 (X.await:Int))).setCell ⟨Br,1,none⟩ (.slice oa n c)).setCell ⟨Br,2,none⟩ (.bool X.body)).drew:=
    (Frm.setCell (p:=fun b=>b=Br) (Frm.setCell (p:=fun b=>b=Br) (Frm.setCell (p:=fun b=>b=Br) (Frm.refl _ W) 0 (.inl rfl) _) 1 (.inl rfl) _) 2 (.inl rfl) _).drew
   obtain⟨W3,hW3⟩:∃Y,(((W.setCell ⟨Br,0,none⟩ (.int .i64 (X.await:Int))).setCell ⟨Br,1,none⟩ (.slice oa n c)).setCell ⟨Br,2,none⟩ (.bool X.body)).drew=Y:=⟨_,rfl⟩
   rw [hW3]at kd hF ⊢
   clear hW3
   have hD3:W3.heap[W1.heap.size]?=some (.deferred (some [])):=(hF.block _ (by omega) (by omega)).trans HD.out
   have kd2:Blk (W3.putObj W1.heap.size (.deferred none)) Br #[.int .i64 (X.await:Int),.slice oa n c,.bool X.body] 62:=(World.putObj_heap_other (by omega)).trans kd
   have m0:=kd2.cell 0
   have m1:=kd2.cell 1
   have m2:=kd2.cell 2
   have hFp:Frm (fun b=>b=W1.heap.size) W3 (W3.putObj W1.heap.size (.deferred none)):=frm_put W3 _ rfl
   have hB3:Below w.heap.size w W3:=hB.trans (hF.below (by omega) (fun b hb=>by have:=H6.out;omega))
   refine⟨by simp,.inl ⟨_,_,rfl,run_takeDeferred hD3,?_⟩⟩
   refine⟨.tuple #[v,.agg #[.int .i64 (X.await:Int),.slice oa n c,.bool X.body]],?_,⟨v,oa,n,c,rfl,?_,?_,?_⟩⟩
   ·simp [results,Tryz.f39,go_sem,m0,m1,m2]
   ·have h4:=own_frm hF H3.out (fun g hg e=>by have:=own_ge H3.out g hg;omega)
    exact own_lower (own_frm hFp h4 (fun g hg e=>by have:=own_ge H3.out g hg;omega)) (by omega)
   ·exact(hM.frm hF (fun g hg e=>by have:=HTT.out g (hMg g hg);omega)).frm hFp (fun g hg e=>by have:=HTT.out g (hMg g hg);omega)
   ·exact hB3.trans (belowK_b (w:=w) (Nat.le_refl _) W3 W1.heap.size _ _ (by omega) hD3 rfl rfl)
 case round=>
  rintro pre x vs rest T W hLx ⟨v,oa,n,c,h1,h3,k1,k2,h2,hT,hzW,hB,hq,hz⟩ hEx hTb hWz hrec hdef t1 t2
  obtain⟨oa2,n2,c2,rfl,hM,hMg⟩:=hEx
  obtain⟨tk,xl⟩:=x
  simp only [aggT,aggL]
  have hlpre:pre.length+1≤900:=by
   have:=HLEN.out
   rw [hLx,List.length_append,List.length_cons,List.length_map]at this
   omega
  gi_wp2
  obtain⟨W2,hW2⟩:∃Y,(W.alloc (.cells #[.int .i64 (tk.kind:Int),.int .i64 (tk.frm:Int),.int .i64 (tk.en:Int),.bool tk.op] 67)).alloc (.cells #[.int .i64 (xl.await:Int),.slice oa2 n2 c2,.bool xl.body] 62)=Y:=⟨_,rfl⟩
  have hB2:Below W.heap.size W W2:=by rw [←hW2];exact below_a2' W _ _
  have kT:Blk W2 W.heap.size #[.int .i64 (tk.kind:Int),.int .i64 (tk.frm:Int),.int .i64 (tk.en:Int),.bool tk.op] 67:=by rw [←hW2];exact(Blk.new W _ _).alloc _
  have kX:Blk W2 (W.heap.size+1) #[.int .i64 (xl.await:Int),.slice oa2 n2 c2,.bool xl.body] 62:=by rw [←hW2];exact blk_a2 W _ _ _
  have z2:W2.heap.size=W.heap.size+2:=by rw [←hW2];simp
  rw [hW2]
  clear hW2
  refine⟨hB2.block _ (by omega),(hB2.block _ (by omega)).trans hdef,⟨hB2.size,fun b hb _=>hB2.block b hb⟩,fun r=>?_⟩
  obtain⟨W3,hW3⟩:∃Y,W2.putObj (W1.heap.size+1) (.loop r)=Y:=⟨_,rfl⟩
  have z3:W3.heap.size=W.heap.size+2:=by rw [←hW3,←z2];simp
  have hF3:Frm (fun b=>b=W1.heap.size+1) W W3:=by
   rw [←hW3]
   exact(Frm.of_below hB2).trans (frm_put (p:=fun b=>b=W1.heap.size+1) W2 _ rfl) (fun _ _ h=>h)
  have kT3:Blk W3 W.heap.size #[.int .i64 (tk.kind:Int),.int .i64 (tk.frm:Int),.int .i64 (tk.en:Int),.bool tk.op] 67:=by
   rw [←hW3]
   exact(World.putObj_heap_other (by omega)).trans kT
  have kX3:Blk W3 (W.heap.size+1) #[.int .i64 (xl.await:Int),.slice oa2 n2 c2,.bool xl.body] 62:=by
   rw [←hW3]
   exact(World.putObj_heap_other (by omega)).trans kX
  rw [hW3]
  clear hW3 kT kX hB2 z2 hrec hdef
  have hb3:=h1.frm hF3 (by omega)
  have hl3:=k1.frm hF3 (by omega)
  have hr3:=k2.frm hF3 (by omega)
  have ho3:=own_frm hF3 h3 (fun g hg e=>by have:=own_ge h3 g hg;omega)
  have hBW3:Below w.heap.size w W3:=hB.trans (hF3.below (by omega) (fun b hb=>by omega))
  have hwl:w.heap.size≤W3.heap.size:=hBW3.size
  have hvlt:∀g,v.ownBlock=some g→g<W.heap.size:=own_lt h3
  have hvge:∀g,v.ownBlock=some g→W1.heap.size+2≤g:=own_ge h3
  obtain⟨zp,hzp⟩:∃zp,pre.length=zp:=⟨_,rfl⟩
  rw [hzp]at ho3 hlpre
  have H2:=Lib.hid h2
  have HO3:=Lib.hid ho3
  have HVL:=Lib.hid hvlt
  have HVG:=Lib.hid hvge
  have HZP:=Lib.hid hzp
  have HR3:=Lib.hid hr3
  have HB3:=Lib.hid hb3
  have HL3:=Lib.hid hl3
  have HKX:=Lib.hid kX3
  have kq:=Blk.new W3 #[.int .i64 (tk.kind:Int),.int .i64 (tk.frm:Int),.int .i64 (tk.en:Int),.bool tk.op] 67
  rw [z3]at kq
  have HKQ:=Lib.hid kq
  clear kq
  have hneA:¬Br+1=W.heap.size:=by omega
  have e0:=hb3.cell 0
  have ef:=hb3.frozen 0
  have u0:=kT3.cell 0
  have u1:=kT3.cell 1
  have u2:=kT3.cell 2
  have u3:=kT3.cell 3
  clear h1 h2 h3 hLx ho3 hvlt hvge k1 k2 hr3 hzp hq hz hMg hM
  have h11:1≤5 - 1 - 1:=by omega
  gi_wp2_with (gi_at_builtin;refine wplIn_apg rfl _ _ 59 67 4 32 _ rfl Tryz.underlying59 infoTk rfl (by omega) (by omega) (W1.heap.size+2) v zp (cellsT (pre.map fun p=>p.1.1)) rfl (HO3.out.alloc _) _ 1 (cellT tk) rfl (src_t (x:=tk) HKQ.out) rfl (cellT_one _) (by omega) (by rw [World.size_alloc];omega) (zp+1) rfl ?_;intro oa8 c8 W8 hown8 hgr8 hg8;have b8:=(HB3.out.alloc (.cells #[.int .i64 (tk.kind:Int),.int .i64 (tk.frm:Int),.int .i64 (tk.en:Int),.bool tk.op] 67)).grown hgr8 (fun e=>by have:=HVG.out _ e.symm;omega);have l8:=(HL3.out.alloc (.cells #[.int .i64 (tk.kind:Int),.int .i64 (tk.frm:Int),.int .i64 (tk.en:Int),.bool tk.op] 67)).grown hgr8 (fun e=>by have:=HVG.out _ e.symm;omega);have x8:=(HKX.out.alloc (.cells #[.int .i64 (tk.kind:Int),.int .i64 (tk.frm:Int),.int .i64 (tk.en:Int),.bool tk.op] 67)).grown hgr8 (fun e=>by have:=HVL.out _ e.symm;omega);have ef8:=b8.frozen 0;have e8:=b8.cell 0;have p0:=l8.cell 0;have p1:=l8.cell 1;have p2:=l8.cell 2;have pf0:=l8.frozen 0;have pf1:=l8.frozen 1;have pf2:=l8.frozen 2;have s0:=x8.cell 0;have s1:=x8.cell 1;have s2:=x8.cell 2)
  have hF8:Frm (fun b=>v.ownBlock=some b) W3 W8:=((Frm.refl (fun b=>v.ownBlock=some b) W3).alloc _).grown hgr8 (fun k hk=> .inl hk)
  have hFs:Frm (fun b=>b=Br+1∨b=Br+1+1) W8 ((((W8.setCell ⟨Br+1,0,none⟩ (.slice oa8 (zp+1) c8)).setCell ⟨Br+1+1,0,none⟩ (.int .i64 (xl.await:Int))).setCell ⟨Br+1+1,1,none⟩ (.slice oa2 n2 c2)).setCell ⟨Br+1+1,2,none⟩ (.bool xl.body)):=
   Frm.setCell (p:=fun b=>b=Br+1∨b=Br+1+1) (Frm.setCell (p:=fun b=>b=Br+1∨b=Br+1+1) (Frm.setCell (p:=fun b=>b=Br+1∨b=Br+1+1) (Frm.setCell (p:=fun b=>b=Br+1∨b=Br+1+1) (Frm.refl _ W8) 0 (.inl (.inl rfl)) _) 0 (.inl (.inr rfl)) _) 1 (.inl (.inr rfl)) _) 2 (.inl (.inr rfl)) _
  have k9:=(((b8.set 0 (.slice oa8 (zp+1) c8)).other 0 (.int .i64 (xl.await:Int)) (b':=Br+1+1) (by omega)).other 1 (.slice oa2 n2 c2) (b':=Br+1+1) (by omega)).other 2 (.bool xl.body) (b':=Br+1+1) (by omega)
  have l9:=(((l8.other 0 (.slice oa8 (zp+1) c8) (b':=Br+1) (by omega)).set 0 (.int .i64 (xl.await:Int))).set 1 (.slice oa2 n2 c2)).set 2 (.bool xl.body)
  obtain⟨Wf,hWf⟩:∃Y,(((W8.setCell ⟨Br+1,0,none⟩ (.slice oa8 (zp+1) c8)).setCell ⟨Br+1+1,0,none⟩ (.int .i64 (xl.await:Int))).setCell ⟨Br+1+1,1,none⟩ (.slice oa2 n2 c2)).setCell ⟨Br+1+1,2,none⟩ (.bool xl.body)=Y:=⟨_,rfl⟩
  rw [hWf]at hFs k9 l9 ⊢
  clear hWf
  have hF9:Frm (fun b=>v.ownBlock=some b∨b=Br+1∨b=Br+1+1) W3 Wf:=(hF8.mono (q:=fun b=>v.ownBlock=some b∨b=Br+1∨b=Br+1+1) (fun _ _ h=> .inl h)).trans hFs (fun _ _ h=> .inr h)
  have hno:∀b,b<W1.heap.size+2→b≠Br+1→b≠Br+1+1→¬(v.ownBlock=some b∨b=Br+1∨b=Br+1+1):=fun b hb hn hn2 hh=>by
   rcases hh with e|e|e
   ·have:=HVG.out b e;omega
   ·exact hn e
   ·exact hn2 e
  have hs9:=hF9.size
  have hzz:=HZ0.out
  have ho9:=own_frm hFs hown8 (fun g hg e=>by
   have:=own_ge hown8 g hg
   omega)
  refine⟨hF9.block _ (by omega) (hno _ (by omega) (by omega) (by omega)),hF9.block _ (by omega) (hno _ (by omega) (by omega) (by omega)),KpT.of_frm hF9 (fun b _ hb=>⟨fun ht=>?_,fun hc=>?_⟩),⟨.slice oa8 (zp+1) c8,oa2,n2,c2,k9,?_,?_,HR3.out.frm hF9 (hno _ (by omega) (by omega) (by omega)),fun g hg ht=>?_,hT,by omega,?_,fun h=>by simp at h,fun q vs h=>?_⟩⟩
  ·rcases hb with e|e|e
   ·exact H2.out b e ht
   ·have:=hT b ht;omega
   ·have:=hT b ht;omega
  ·rcases hb with e|e|e
   ·have:=HVG.out b e
    rcases hc with q|q<;>omega
   ·rcases hc with q|q<;>omega
   ·rcases hc with q|q<;>omega
  ·rw [List.length_append,HZP.out,List.map_append,cellsT_append]
   simpa [cellsT]using ho9
  ·rw [List.map_append]
   show Blk Wf _ #[.int .i64 ((lstX (pre.map Prod.fst++ [(tk,xl)])).await:Int),_,.bool (lstX (pre.map Prod.fst++ [(tk,xl)])).body] _
   rw [lstX_snoc]
   exact l9
  ·rcases hg8 with e|e
   ·exact H2.out g (e.symm.trans hg) ht
   ·rw [e,World.size_alloc]at hg
    injection hg with hg
    have:=hTb g ht
    omega
  ·exact hBW3.trans (hF9.below hwl (fun b hb=>by
    have:=H6.out
    rcases hb with e|e|e
    ·have:=HVG.out b e;omega
    ·omega
    ·omega))
  ·rw [List.getLast?_append]at h
   simp at h
   obtain⟨h1,h2⟩:=h
   subst h1 h2
   rfl
end
end Go.Proofs.YtkolpaonccmgiaaGreatDoor

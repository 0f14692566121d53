/- The row of all stacks of the document's own parts  -/
import Derived.Test.YtdjcidackkogjaaGreatDoorPtG
import Derived.Test.YtdjcidackkogjaaGreatDoorQp
import Derived.Deep.CutBlock
namespace Go.Proofs.YtdjcidackkogjaaGreatDoor
set_option linter.unusedSectionVars false
set_option linter.unusedVariables false
open Lib(hid)
set_option maxHeartbeats 8000000
set_option maxRecDepth 100000
open Go.RowKit
theorem PT{f:FuncId}{fn:Func}(hf:Tryz.prog.funcs[f]?=some fn)(hname:(fn.name== "runtime.NumGoroutine")=false)(hb:fn.body.isSome=true)(args:Array Value)(w:World):(callFunc f args).run Tryz.prog w=.ok (.enter f args) w:=by
 have h1:fn.name≠ "runtime.NumGoroutine":=by simpa using hname
 obtain⟨c,hc⟩:=Option.isSome_iff_exists.1 hb;simp[callFunc,hf,h1,hc]
theorem um{ops:Array Oper}{o:Oper}{a:Act}{w:World}{K:Act→World→Prop}{Q:Exit→Act→World→Prop}{E:Prop}(hgd:o.guard=none){f:FuncId}{fn:Func}(hf:Tryz.prog.funcs[f]?=some fn)(hname:(fn.name== "runtime.NumGoroutine")=false)(hb:fn.body.isSome=true)(args:List Operand)(rF:Array TypeId)
 (ho:o.op=.call {callee:=.value (.func f),args:=args.toArray,argTypes:=rF})(vs:List Value)(hv:args.map a.eval=vs)(R:Value→World→Prop)
 (hc:Calls Tryz.prog f vs.toArray w λe w'=>∃v,e=.returned v∧R v w')(h:∀v w',R v w'→K (a.put o.dst v) w'):
  if Region.wanted o (yielded ops a.tmps)=true then Oper.wp Tryz.prog o a w K Q else E:=by
 have hw:Region.wanted o (yielded ops a.tmps)=true:=by simp[Region.wanted,hgd]
 rw[if_pos hw];have e1:a.eval (.func f)=.func (.func f) #[] #[]:=rfl;unfold Oper.wp execOp;simp only[ho,resolve,List.map_toArray,hv,e1,Deferred.ofValue,invoke,Sem.run_bind,Sem.run_pure,Result.andThen_ok,Array.empty_append,Array.append_empty,PT hf hname hb];rw[Oper.upon_enter];refine hc.mono ?_;rintro e w' ⟨v,rfl,hr⟩;exact h v w' hr
theorem zgV:(Tryz.prog.info? 126).map (λi=>(i.zero,i.size,i.bytes))=some (some (.agg #[.string ⟨#[]⟩,.slice none 0 0,.bool false]),3,48):=by kernel_rfl
structure RV where
 S:ByteArray
 g:Nat
 n:Nat
 cap:Nat
def YM(r:RV)(fr:Bool):List Value:=[.string r.S,.slice (some ⟨r.g,0,none⟩) r.n r.cap,.bool fr]
def Vq(s:ByteArray)(rv:Nat→RV)(c:Nat):List Value:=(List.range c).flatMap λi=>YM (rv i) (zL s i).fresh
theorem rG(s:ByteArray)(rv:Nat→RV)(c:Nat):Vq s rv (c+1)=Vq s rv c++YM (rv c) (zL s c).fresh:=by
 unfold Vq;rw[List.range_succ,List.flatMap_append];simp
theorem MO(s:ByteArray)(rv:Nat→RV):∀c,(Vq s rv c).length=c*3
 |0=>rfl
 |c+1=>by
  rw[rG,List.length_append,MO s rv c];simp[YM];omega
theorem zgW{s:ByteArray}{rv PU:Nat→RV}{c:Nat}(h:∀i,i<c→rv i=PU i):Vq s rv c=Vq s PU c:=by
 induction c with
 |zero=>rfl
 |succ c ih=>rw[rG,rG,ih (λi hi=>h i (by omega)),h c (by omega)]
theorem IJ{s:ByteArray}{rv:Nat→RV}:∀{c i:Nat},i<c→∀d v,(YM (rv i) (zL s i).fresh)[d]?=some v→(Vq s rv c)[i*3+d]?=some v
 |0,i,h,_,_,_=>by omega
 |c+1,i,h,d,v,hv=>by
  have hd:d<3:=(List.getElem?_eq_some_iff.1 hv).1;rw[rG];by_cases e:i=c
  ·subst e
   rw[List.getElem?_append_right (by rw[MO];omega),MO,show i*3+d-i*3=d by omega];exact hv
  ·rw[List.getElem?_append_left (by rw[MO];omega)]
   exact IJ (by omega) d v hv
structure Z5(w:World)(base ab qL c:Nat)(s:ByteArray)(rv:Nat→RV):Prop where
 own:w.ownsRow base 126 3 (.slice (some ⟨ab,0,none⟩) c qL) c (Vq s rv c)
 rows:∀i,i<c→Rv w (zL s i).st (rv i).S (rv i).g (rv i).n (rv i).cap∧base≤(rv i).g∧(rv i).g≠ab
theorem Z5.lt{w:World}{base ab qL c:Nat}{s:ByteArray}{rv:Nat→RV}(h:Z5 w base ab qL c s rv):ab<w.heap.size:=ji h.own ab rfl
theorem Z5.ge{w:World}{base ab qL c:Nat}{s:ByteArray}{rv:Nat→RV}(h:Z5 w base ab qL c s rv):base≤ab:=yH h.own ab rfl
theorem Z5.below{w w':World}{base ab qL c:Nat}{s:ByteArray}{rv:Nat→RV}(h:Z5 w base ab qL c s rv)(hb:Below w.heap.size w w'):Z5 w' base ab qL c s rv:=
 ⟨vM h.own hb,λi hi=>⟨(h.rows i hi).1.below hb,(h.rows i hi).2⟩⟩
theorem Z5.cells{w:World}{base ab qL c:Nat}{s:ByteArray}{rv:Nat→RV}(h:Z5 w base ab qL c s rv){i:Nat}(hi:i<c):
  w.cell? ⟨ab,i*3,none⟩=some (.string (rv i).S)∧w.cell? ⟨ab,i*3+1,none⟩=some (.slice (some ⟨(rv i).g,0,none⟩) (rv i).n (rv i).cap)∧w.cell? ⟨ab,i*3+2,none⟩=some (.bool (zL s i).fresh):=by
 have hc:∀d v,(YM (rv i) (zL s i).fresh)[d]?=some v→w.cell? ⟨ab,i*3+d,none⟩=some v:=λd v hv=>by
  have:=h.own.cells (g:=ab) rfl _ v (IJ hi d v hv)
  rwa [Addr.add_lit,Nat.zero_add]at this
 have h0:=hc 0 _ rfl;rw[Nat.add_zero]at h0;exact⟨h0,hc 1 _ rfl,hc 2 _ rfl⟩
theorem Z5.next{w w2 X w':World}{base ab qL c g2 c2:Nat}{s:ByteArray}{rv:Nat→RV}(h:Z5 w base ab qL c s rv)(hb:Below w.heap.size w w2)(hX:Below w2.heap.size w2 X)(r:RV)(hR:Rv w2 (zL s c).st r.S r.g r.n r.cap)(hr:base≤r.g)(hra:r.g≠ab)(hgr:X.grownBy w' (some ab))
 (hown:w'.ownsRow base 126 3 (.slice (some ⟨g2,0,none⟩) (c+1) c2) (c+1) (Vq s rv c++YM r (zL s c).fresh))(hg:g2=ab∨w2.heap.size≤g2):
  Z5 w' base g2 c2 (c+1) s (λi=>if i=c then r else rv i):=by
 have hF:∀{b:Nat},b<w2.heap.size→b≠ab→w'.heap[b]?=w2.heap[b]?:=λ{b} h1 h2=>(hgr.block b (Nat.lt_of_lt_of_le h1 hX.size) (by simpa using h2)).trans (hX.block b h1);have hFr:zg (λk=>k=ab) w2 w':=(zg.of_below hX (p:=λk=>k=ab)).grown hgr (λk hk=> .inl (by simpa using hk.symm));have hab:=h.lt;refine⟨?_,λi hi=>?_⟩
 ·rw[rG,zgW (PU:=rv) (λi hi=>if_neg (by omega))]
  simp only[if_true];exact hown
 ·by_cases e:i=c
  ·subst e
   simp only[if_true];refine⟨hR.zf hFr hra,hr,?_⟩;rcases hg with rfl|hg
   ·exact hra
   ·have:=hR.lt;omega
  ·simp only[if_neg e]
   obtain⟨h1,h2,h3⟩:=h.rows i (by omega);have h4:=h1.below hb;refine⟨h4.zf hFr h3,h2,?_⟩;rcases hg with rfl|hg
   ·exact h3
   ·have:=h4.lt;omega
theorem zgX{ops:Array Oper}{o:Oper}{a:Act}{w:World}{K:Act→World→Prop}{Q:Exit→Act→World→Prop}{E:Prop}(hgd:o.guard=none)(s x:Operand)
 (ho:o.op=.call {callee:=.builtin .append,args:=#[s,x],argTypes:=#[149,149]})
 (base:Nat)(v0:Value)(n0:Nat)(yF:List Value)(hs:a.eval s=v0)(hown:w.ownsRow base 126 3 v0 n0 yF)(b:Nat)(r:RV)(fr:Bool)
 (hx:a.eval x=.slice (some ⟨b,0,none⟩) 1 1)(hb:zh w b (YM r fr).toArray 126)(hl:n0≤1000000)(hbase:base≤w.heap.size)
 (h:∀g' c' w',w'.ownsRow base 126 3 (.slice (some ⟨g',0,none⟩) (n0+1) c') (n0+1) (yF++YM r fr)→w.grownBy w' v0.ownBlock→(v0.ownBlock=some g'∨g'=w.heap.size)→K (a.put o.dst (.slice (some ⟨g',0,none⟩) (n0+1) c')) w'):
  if Region.wanted o (yielded ops a.tmps)=true then Oper.wp Tryz.prog o a w K Q else E:=by
 have hw:Region.wanted o (yielded ops a.tmps)=true:=by simp[Region.wanted,hgd]
 rw[if_pos hw];obtain⟨i,hi,hz,hsize,hby⟩:=info_parts zgV;have hnews:∀j u,(YM r fr)[j]?=some u→w.cell? ((⟨b,0,none⟩:Addr).add j)=some u:=by
  intro j u hj;rw[Addr.add_lit,hb.cell,Nat.zero_add];simpa using hj
 obtain⟨v',w',hr',h2,h3,h4,h5⟩:=run_append_own_at (P:=Tryz.prog) w base 149 o.type 126 i _ 3 48 Tryz.underlying149 hi hz hsize hby rfl (by omega) _ n0 yF hown ⟨b,0,none⟩ 1 1 (YM r fr) rfl hnews
  (by intro u hu;simp[YM]at hu;rcases hu with rfl|rfl|rfl<;>rfl) (by unfold maxLen;omega) (by omega) hbase
 unfold Oper.wp execOp;simp only[ho,resolve,invoke,builtin,Sem.run_bind,Sem.run_pure,Result.andThen_ok,List.map_toArray,List.map_cons,List.map_nil,hs,hx,hr'];rcases h2.2 with⟨hv,hn⟩|⟨g',c',cur,hv,h6⟩
 ·omega
 ·subst hv
  refine h g' c' w' h2 h3 ?_;rcases h5 with h5|h5
  ·exact .inl h5.symm
  ·exact .inr (by simpa[Value.ownBlock]using h5)
def ZG(s:ByteArray)(f:Nat):List zJ:=(xY s f).map (prt s)
theorem PV(s:ByteArray)(f:Nat):(ZG s f).length=idx s f:=by unfold ZG idx;simp
theorem PW(s:ByteArray)(f:Nat):ZG s (f+1)=ZG s f++if born s f=true then [prt s f]else []:=by
 unfold ZG;rw[PX,List.map_append];congr 1;split<;>rfl
theorem qH(s:ByteArray)(f:Nat):(prt s f).zf=f:=by
 unfold prt;split
 ·rw[(IK _ _ _ _).1,(rD _ _ _).1]
 ·exact(rD _ _ _).1
theorem Y6{s:ByteArray}{f:Nat}(hb:born s f=true)(hf:f<s.size):prt s f=if cnt (md s (eK s f s.size) f)=12 then⟨12,f,f+1+xX s (f+1),Zh s f,false⟩else⟨cnt (md s (eK s f s.size) f),f,if eK s f s.size=s.size then s.size else eK s f s.size+1,Zh s f,decide (eK s f s.size=s.size)⟩:=by
 unfold prt;by_cases h:eK s f s.size=s.size
 ·have hp:zI s s.size f=true:=by
   have:=JP (s:=s) (f:=f) (k:=s.size) (j:=s.size) hf;exact this (by omega)
  rw[if_pos h,wI hp,h];unfold Zg;simp only[if_true,decide_true];split<;>simp[*]
 ·rw[if_neg h]
  unfold xE;rw[if_neg h];unfold Zg;simp only[if_neg h,decide_eq_false h];split<;>simp[*]
theorem lZ{s:ByteArray}{f:Nat}(hb:born s f=true)(hf:f<s.size):f+1≤eK s f s.size:=by
 apply Classical.byContradiction;intro g;have h1:eK s f s.size=f:=by unfold eK at g ⊢;omega
 have h2:=l7 (s:=s) (f:=f) (k:=s.size) (by omega) (by omega);rw[h1]at h2;unfold born at hb;rw[hb]at h2;cases h2
def ZH(s:ByteArray)(f k:Nat):Int:=match xg s f with
 | []=> -1
 |x::_=>if idx s x.2<k then(idx s x.2:Nat)else -1
theorem zgY(s:ByteArray)(f:Nat):ZH s f 0= -1:=by unfold ZH;split<;>simp
theorem IL{s:ByteArray}{f:Nat}(hb:born s f=true){m g:Nat}{R:List Fr}(h:xg s f=(m,g)::R):born s g=true∧g<f:=by
 have h1:=Y5 hb;have hp:zI s (f+1) g=true:=lW (A:=[(md s (f+1) f,f)]) (R:=R) (m:=m) (by rw[h1,h];rfl);refine⟨wE hp,?_⟩;have h2:=Zr s (f+1);rw[h1,h,List.pairwise_cons]at h2;exact h2.1 (m,g) (by simp)
theorem zgZ{s:ByteArray}{f:Nat}(hb:born s f=true):ZH s f (idx s f)=Zh s f:=by
 unfold ZH Zh
 cases h:xg s f with
 |nil=>rfl
 |cons x R=>
  obtain⟨hg,hlt⟩:=IL (m:=x.1) (g:=x.2) (R:=R) hb h;simp only;rw[if_pos (TN hg hlt)]
theorem zg0{s:ByteArray}{f:Nat}(hb:born s f=true){m g:Nat}{R:List Fr}(h:xg s f=(m,g)::R):(zL s (f+1)).st.reverse[R.length+1]?=some (m,g):=by
 rw[PQ,Y5 hb,h];simp
theorem zg1{s:ByteArray}{f k:Nat}{m g:Nat}{R:List Fr}(h:xg s f=(m,g)::R):ZH s f (k+1)=if idx s g=k then((k:Nat):Int)else ZH s f k:=by
 unfold ZH;rw[h];simp only;by_cases e:idx s g=k
 ·subst e
  simp
 ·rw[if_neg e]
  by_cases h2:idx s g<k
  ·rw[if_pos h2,if_pos (by omega)]
  ·rw[if_neg h2,if_neg (by omega)]
theorem IM{s:ByteArray}{f k:Nat}(h:xg s f=[]):ZH s f k= -1:=by unfold ZH;rw[h]
def zg2(s:ByteArray)(w:World)(v3 v4:Value)(wr:World):Prop:=
 ∃i ab qL rv,i≤s.size∧v4=.int .i64 (i:Nat)∧v3=.slice (some ⟨ab,0,none⟩) (i+1) qL∧Z5 wr w.heap.size ab qL (i+1) s rv∧Below w.heap.size w wr
theorem IP{ops:Array Oper}{rest:List Oper}{o:Oper}{a:Act}{w:World}{Q:Exit→Act→World→Prop}(hgd:o.guard=none)(s x:Operand)
 (ho:o.op=.call {callee:=.builtin .append,args:=#[s,x],argTypes:=#[139,139]})
 (base:Nat)(v0:Value)(n0:Nat)(yF:List Value)(hs:a.eval s=v0)(hown:w.ownsRow base 142 5 v0 n0 yF)(b:Nat)(p:zJ)
 (hx:a.eval x=.slice (some ⟨b,0,none⟩) 1 1)(hb:zh w b (vV p).toArray 142)(hl:n0≤1000000)(hbase:base≤w.heap.size)
 (h:∀g' c' w',w'.ownsRow base 142 5 (.slice (some ⟨g',0,none⟩) (n0+1) c') (n0+1) (yF++vV p)→w.grownBy w' v0.ownBlock→wpList Tryz.prog ops Q rest (a.put o.dst (.slice (some ⟨g',0,none⟩) (n0+1) c')) w'):wpList Tryz.prog ops Q (o::rest) a w:=by
 refine wpList_plain hgd λ_ hK=>?_;obtain⟨i,hi,hz,hsize,hby⟩:=info_parts iW;have hnews:∀j u,(vV p)[j]?=some u→w.cell? ((⟨b,0,none⟩:Addr).add j)=some u:=by
  intro j u hj;rw[Addr.add_lit,hb.cell,Nat.zero_add];simpa using hj
 obtain⟨v',w',hr',h2,h3,h4,h5⟩:=run_append_own_at (P:=Tryz.prog) w base 139 o.type 142 i _ 5 40 Tryz.underlying139 hi hz hsize hby rfl (by omega) v0 n0 yF hown ⟨b,0,none⟩ 1 1 (vV p) rfl hnews
  (by intro u hu;simp[vV]at hu;rcases hu with rfl|rfl|rfl|rfl|rfl<;>rfl) (by unfold maxLen;omega) (by omega) hbase
 unfold Oper.wp execOp;simp only[ho,resolve,invoke,builtin,Sem.run_bind,Sem.run_pure,Result.andThen_ok,List.map_toArray,List.map_cons,List.map_nil,hs,hx,hr'];rcases h2.2 with⟨hv,hn⟩|⟨g',c',cur,hv,h6⟩
 ·omega
 ·subst hv
  exact hK _ _ (h g' c' w' h2 h3)
theorem IQ(s:ByteArray):Zl s s.size=0:=by have:=Ti s s.size;omega
theorem zg3(s:ByteArray):xX s s.size=0:=by
 unfold xX;rw[IQ,if_neg (by omega),if_neg (by omega)]
theorem zg4(s:ByteArray)(k N:Nat)(w:World)(hs:s.size≤1000000)(hk:k≤s.size)(hN:Hid (xX s k=N)):
  Calls Tryz.prog 92 #[.string s,.int .i64 (k:Int)] w λe w'=>e=.returned (.int .i64 (N:Int))∧w'=w:=by
 rw[←hN.out];by_cases h:k<s.size
 ·exact zgi s k w hs h
 ·obtain rfl:k=s.size:=by omega
  rw[zg3];have hd2:decide (s.size<s.size)=false:=by simp
  have hn:=λw=>iQ s s.size w hs (Nat.le_refl _);rw[IQ]at hn;have HN:=hid hn;clear hn hN h;go_enter Tryz.func92,Tryz.ntmps92
  go_wp2_with fail
  refine(HN.out _).mono ?_;rintro e w' ⟨rfl,rfl⟩;go_wp2;go_ret;exact⟨rfl,rfl⟩
def Xx(w:World)(pb:Nat)(m f t:Nat)(up:Int)(op:Bool):Prop:=zh w pb #[.int .i64 (m:Int),.int .i64 (f:Int),.int .i64 (t:Int),.int .i64 up,.bool op] 142
def zg5(s:ByteArray)(w:World)(pb f on:Nat)(v9:Value)(wr:World):Prop:=
 ∃k,v9=.int .i64 (k:Nat)∧k≤on∧Xx wr pb 0 f s.size (ZH s f k) true∧zg (λb=>b=pb) w wr
def zg6(s:ByteArray)(w:World)(pb f:Nat)(up:Int)(v10:Value)(wr:World):Prop:=
 ∃k m,v10=.int .i64 (k:Nat)∧f+1≤k∧k≤s.size+1∧(∀j,f<j→j<k→zI s j f=true)∧m=(if k=f+1 then 0 else cnt (md s (k-1) f))∧Xx wr pb m f s.size up true∧zg (λb=>b=pb) w wr
def zg7(s:ByteArray)(w:World)(v5 v6:Value)(wr:World):Prop:=
 ∃f,f≤s.size∧v6=.int .i64 (f:Nat)∧X4 wr w.heap.size v5 (ZG s f)∧Below w.heap.size w wr
section
variable(w:World)
theorem zcX(s:ByteArray)(hs:s.size≤60000):
  Calls Tryz.prog 82 #[.string s] w λe w'=>(∃v,e=.returned v∧X4 w' w.heap.size v (PL s))∧Below w.heap.size w w':=by
 go_enter Tryz.func82,Tryz.ntmps82
 go_wp2_with fail
 refine(Sz _).mono ?_;rintro e w1 ⟨S1,g1,n1,cap1,rfl,hR1,hb1,hg1⟩;go_wp2
 go_loopw [3,4] (λv3 v4 wr=>zg2 s w v3 v4 wr) (λ_ v _=>s.size-(intOf v).toNat)
 case atStart=>
  have hR2:=hR1.below ((Below.refl w1.heap.size w1).alloc (Nat.le_refl _) (.cells #[.string S1,.slice (some ⟨g1,0,none⟩) n1 cap1,.bool true] 126));have hs1:=hb1.size;have hlt:=hR1.lt;refine⟨0,w1.heap.size,1,λ_=>⟨S1,g1,n1,cap1⟩,Nat.zero_le _,rfl,rfl,⟨⟨rfl,.inr ⟨_,1,_,rfl,hs1,zh.new w1 _ _,Nat.le_refl _,by unfold maxLen;omega,rfl,rfl⟩⟩,λi hi=>?_⟩,hb1.alloc hs1 _⟩;obtain rfl:i=0:=by omega
  exact⟨hR2,by show w.heap.size≤g1;omega,by show g1≠_;omega⟩
 case round=>
  obtain⟨i,ab,qL,rv,hi,rfl,rfl,hA,hB⟩:=hrel;clear hR1 hb1 hg1;by_cases hlt:(i:Int)<s.size
  ·have hlt':i<s.size:=by omega
   obtain⟨d0,d1,d2⟩:=hA.cells (i:=i) (by omega);obtain⟨hRi,hgi,hni⟩:=hA.rows i (by omega);have hI:=ku s i;have hlen:=V6 s i;have hsucc:=Y7 s i;obtain⟨r,hr⟩:∃r,rv i=r:=⟨_,rfl⟩;rw[hr]at d0 d1 hRi hgi hni;obtain⟨S,g,n,cap⟩:=r;simp only at d0 d1 hRi hgi hni;have hby:(s[i].toNat:Int)=(by8 s i:Nat):=by unfold by8;rw[yx hlt']
   have hstep:=λW (h:Below wr.heap.size wr W)=>SI W (by8 s i) i S g n cap (zL s i) hI (hRi.below h) (by omega);rw[←hsucc]at hstep;obtain⟨fr,hfr⟩:∃fr,(zL s i).fresh=fr:=⟨_,rfl⟩;rw[hfr]at d2 hstep;obtain⟨b,hb⟩:∃b,by8 s i=b:=⟨_,rfl⟩;rw[hb]at hby hstep;obtain⟨c,hc⟩:∃c,i+1=c:=⟨_,rfl⟩;rw[hc]at hA hstep ⊢;have hstep2:=λW (h:Below wr.heap.size wr W)=>(hstep W h).mono (R':=λe w'=>∃v,e=.returned v∧∃S2 g2 n2 cap2,v=.agg #[.string S2,.slice (some ⟨g2,0,none⟩) n2 cap2,.bool (zL s c).fresh]∧Rv w' (zL s c).st S2 g2 n2 cap2∧Below W.heap.size W w'∧(g2=g∨W.heap.size≤g2)) (by
    rintro e w' ⟨S2,g2,n2,cap2,rfl,h1,h2,h3⟩;exact⟨_,rfl,S2,g2,n2,cap2,rfl,h1,h2,h3⟩)
   have HST:=hid hstep2;have HA:=hid hA;have q0:(0:Int)≤(i:Int):=by omega
   have q1:(i:Int)<(c:Int):=by omega
   have hcl:c≤1000000:=by omega
   have hbs:=hB.size;have hal:=hA.lt;have zmD:=hA.ge;obtain⟨fc,hfc⟩:∃fc,(zL s c).fresh=fc:=⟨_,rfl⟩;have HFC:=hid hfc;rw[hfc]at HST;have e1:IntKind.i64.wrap ((i:Int)+1)=(c:Int):=by rw[IntWalk.i64_in _ (by omega)];omega
   have jk:=hid hc;clear hstep hstep2 hA hI hsucc hb hr hfr hRi hc hfc;go_wp2
   go_region_law (first
    |(refine um (by rfl) Tryz.func73 (by kernel_rfl) (by kernel_rfl) _ _ (by rfl) [.agg #[.string S,.slice (some ⟨g,0,none⟩) n cap,.bool fr],.int .u8 (b:Int),.int .i64 (i:Int)] (by rfl) _ (HST.out _ (Below.refl _ _).drew) ?_;intro v w2 hh;obtain⟨S2,g2,n2,cap2,hv,hR2,hb2,hg2⟩:=hh;subst hv;have hA2:=(HA.out.below (Below.refl _ _).drew).below hb2;have hB2:=hB.drew.trans (hb2.mono hbs))
    |(refine zgX (by rfl) _ _ (by rfl) w.heap.size (.slice (some ⟨ab,0,none⟩) c qL) c (Vq s rv c) (by rfl) (hA2.below ((Below.refl _ _).alloc (Nat.le_refl _) _)).own w2.heap.size ⟨S2,g2,n2,cap2⟩ fc (by rfl) (zh.new w2 _ _) hcl (by have:=hB2.size;rw[World.size_alloc];omega) ?_;intro g3 c3 w3 hown hgr hg3))
   all_goals
    go_wp2
    go_roundw
    case rel=>
     have hg3':g3=ab∨w2.heap.size≤g3:=by
      rcases hg3 with h|h
      ·exact .inl (by simpa[Value.ownBlock]using h.symm)
      ·exact .inr (by rw[h,World.size_alloc];omega)
     have zg8:w.heap.size≤g2:=by
      rcases hg2 with h|h
      ·rw[h];exact hgi
      ·exact Nat.le_trans hbs h
     have zg9:g2≠ab:=by
      rcases hg2 with h|h
      ·rw[h];exact hni
      ·have:wr.drew.heap.size=wr.heap.size:=rfl
       omega
     have hN:=hA2.next (w2:=w2) (X:=w2.alloc (.cells (YM ⟨S2,g2,n2,cap2⟩ fc).toArray 126)) (Below.refl _ _) ((Below.refl _ _).alloc (Nat.le_refl _) _) ⟨S2,g2,n2,cap2⟩ hR2 zg8 zg9 hgr (by rw[HFC.out];exact hown) hg3';refine⟨c,g3,c3,_,by have:=jk.out;omega,rfl,rfl,hN,?_⟩;exact((hB2.alloc hB2.size _).grown hgr (by have:=hB2.size;rw[World.size_alloc];omega) (λk hk=>by
      have:ab=k:=by simpa[Value.ownBlock]using hk
      omega))
    case measure=>have:=jk.out;simp[intOf];omega
  ·obtain rfl:i=s.size:=by omega
   obtain⟨W1,rfl⟩:∃W1,W1=wr:=⟨wr,rfl⟩;obtain⟨c,hc⟩:∃c,s.size+1=c:=⟨_,rfl⟩;rw[hc]at hA ⊢;have HA:=hid hA;have HB:=hid hB;have jk:=hid hc;clear hA hB hc hlt;go_wp2
   go_loopw [5,6] (λv5 v6 wr=>zg7 s W1 v5 v6 wr) (λ_ v _=>s.size-(intOf v).toNat)
   case atStart=>exact⟨0,Nat.zero_le _,rfl,⟨rfl,.inl ⟨rfl,rfl⟩⟩,Below.refl _ _⟩
   case round=>
    obtain⟨f,hf,rfl,hP,hB⟩:=hrel;obtain⟨oa,oc,rfl⟩:=Zt hP;by_cases hlt:(f:Int)<s.size
    ·have hlt':f<s.size:=by omega
     obtain⟨f1,hf1⟩:∃f1,f+1=f1:=⟨_,rfl⟩;have PY:f1<c:=by have:=jk.out;omega
     have hAr:=HA.out.below (hB.mono (Nat.le_refl _));obtain⟨d0,d1,d2⟩:=hAr.cells PY;obtain⟨Xy,hgf,hnf⟩:=hAr.rows f1 PY;obtain⟨r,hr⟩:∃r,rv f1=r:=⟨_,rfl⟩;rw[hr]at d0 d1 Xy hgf hnf;obtain⟨S,g,n,cap⟩:=r;simp only at d0 d1 Xy hgf hnf;have hlen:=V6 s f1;obtain⟨fr,hfr⟩:∃fr,(zL s f1).fresh=fr:=⟨_,rfl⟩;rw[hfr]at d2;have IU:=hid (λx=>zgL s x f);have HAT:=hid (λW r (h:Below wr.heap.size wr W) (hr:Yk s f1 f=r)=>IG W (zL s f1).st S g n cap fr f r (Xy.below h) (by omega) (hid (by rw[←hr];exact IU.out f1)));have e1:IntKind.i64.wrap ((f:Int)+1)=(f1:Int):=by rw[IntWalk.i64_in _ (by omega)];omega
     have q0:(0:Int)≤(f1:Int):=by omega
     have q1:(f1:Int)<(c:Int):=by omega
     obtain⟨on,hon⟩:∃on,(ZG s f).length=on:=⟨_,rfl⟩;have Jg:=hid hon;rw[hon]at hP ⊢;have HP:=hid hP;have HR:=hid Xy;have HRV:=hid hr;have uY:=hid hf1;have hmono:=hB.size;by_cases hb:born s f=true
     ·have hpr:zI s f1 f=true:=by rw[←hf1];exact hb
      have hat:Yk s f1 f=(xg s f).length+1:=by unfold Yk;rw[if_pos hpr]
      obtain⟨z,hz⟩:∃z,Yk s f1 f=z:=⟨_,rfl⟩;have hzp:z=(xg s f).length+1:=by omega
      have hzb:z≤100000:=by
       have h1:=Y5 (show zI s (f+1) f=true from hb);have h2:=MI s (f+1);rw[h1]at h2;simp at h2;omega
      have t0:((z:Int)==0)=false:=beq_eq_false_iff_ne.2 (by omega);have HZ:=hid hz;have Yl:=hid hzp;have qg:=hid hb;have uM:=hid hpr;clear hP Xy hr hf1 hon hb hat hz hzp hpr hfr
      go_wp2_with fail
      refine(HAT.out _ z (Below.refl _ _) HZ.out).mono ?_;rintro e w2 ⟨rfl,hb2⟩;go_wp2;obtain⟨W2,hW2⟩:∃W2,W2=w2.alloc (.cells #[.int .i64 0,.int .i64 (f:Int),.int .i64 (s.size:Int),.int .i64 (-1),.bool true] 142):=⟨_,rfl⟩;have hp2:Xx W2 w2.heap.size 0 f s.size (ZH s f 0) true:=by rw[hW2,zgY];exact zh.new _ _ _
      have MP:Below wr.heap.size wr W2:=by rw[hW2];exact hb2.alloc hb2.size _
      rw[←hW2];have PZ:wr.heap.size≤w2.heap.size:=hb2.size;obtain⟨pb,hpb⟩:∃pb,w2.heap.size=pb:=⟨_,rfl⟩;rw[hpb]at hp2 PZ ⊢;obtain⟨V,hV⟩:∃V,V=wr:=⟨_,rfl⟩;rw[←hV]at MP PZ HP HR hB hmono;have zmE:V.heap.size≤pb:=PZ;have zmF:on≤60000:=by
       have h1:=Jg.out;have h2:=ML s f;rw[PV]at h1;unfold idx at h1;omega
      have rH:Z5 V w.heap.size ab qL c s rv:=by rw[hV];exact hAr
      have IV:=HP.out;clear hW2 hpb hV hb2 HAT d0 d1 d2 hAr;have hkeep:∀X,zg (λb=>b=pb) W2 X→zg (λb=>b=pb) V X:=λX h=>(zg.of_below MP (p:=λb=>b=pb)).trans h (λ_ _ h=>h);have IW:∀X,zg (λb=>b=pb) V X→∀i,i<c→X.cell? ⟨ab,i*3,none⟩=some (.string (rv i).S)∧X.cell? ⟨ab,i*3+1,none⟩=some (.slice (some ⟨(rv i).g,0,none⟩) (rv i).n (rv i).cap)∧X.cell? ⟨ab,i*3+2,none⟩=some (.bool (zL s i).fresh)∧Rv X (zL s i).st (rv i).S (rv i).g (rv i).n (rv i).cap:=by
       intro X hX i hi;have hl:=rH.lt;obtain⟨h0,h1,h2⟩:=rH.cells hi;obtain⟨h3,_,_⟩:=rH.rows i hi;have hl3:=h3.lt;have hne:¬(ab=pb):=by omega
       exact⟨(hX.cell hl hne).trans h0,(hX.cell hl hne).trans h1,(hX.cell hl hne).trans h2,h3.zf hX (by omega)⟩
      have IX:∀X,zg (λb=>b=pb) V X→X.ownsRow W1.heap.size 142 5 (.slice oa on oc) on (xn (ZG s f)):=by
       intro X hX;have h1:V.ownsRow W1.heap.size 142 5 (.slice oa on oc) on (xn (ZG s f)):=by
        have:=IV;unfold X4 at this;rw[Jg.out]at this;exact this
       exact zQ hX h1 (λk hk e=>by
        have:=ji h1 k hk;have e2:k=pb:=e;omega)
      have P5:=hid hkeep;have IY:=hid IW;have P6:=hid IX;have zha:=hid MP;have HAV:=hid rH;clear hkeep IW IX MP rH IV HP
      go_loopw [9] (λv9 wr=>zg5 s W2 pb f on v9 wr) (λv _=>on-(intOf v).toNat)
      case atStart=>exact⟨0,rfl,Nat.zero_le _,hp2,zg.refl _ _⟩
      case round=>
       obtain⟨k,rfl,hk,hpk,Ym⟩:=hrel;clear hp2;by_cases hlt3:(k:Int)<(on:Int)
       ·have hkn:k<on:=by omega
        have q5:(0:Int)≤(k:Int):=by omega
        have p3:wr.cell? ⟨pb,3,none⟩=some (.int .i64 (ZH s f k)):=hpk.cell 3;have pf3:=zh.frozen hpk 3
        cases hbl:xg s f with
        |nil=>
         have hz1:z=1:=by have:=Yl.out;rw[hbl]at this;exact this
         subst hz1;have MQ:=hid (show ZH s f (k+1)=ZH s f k by rw[IM hbl,IM hbl]);clear hbl;go_wp2
         go_quiet (fail)
         go_wp2
         go_roundw
         case rel=>exact⟨k+1,by go_num,by omega,by rw[MQ.out];exact hpk.drewN _,Ym.drewN _⟩
         case measure=>simp[intOf];omega
        |cons x R=>
         obtain⟨m2,g2⟩:=x;have hzz:z=R.length+2:=by have:=Yl.out;rw[hbl]at this;exact this
         obtain⟨x0,x1,x2,x3⟩:=IY.out wr (P5.out wr Ym) f1 PY;rw[HRV.out]at x1 x3;simp only at x1 x3;have hba:=zg0 qg.out hbl;rw[uY.out]at hba;have x4:=x3.p.cell hba;simp only at x4;have hRn:R.length+1<n:=by
          have h1:=(List.getElem?_eq_some_iff.1 hba).1;have h2:=x3.n;simp at h1;omega
         obtain⟨fk,hfk⟩:∃fk,(xY s f)[k]?=some fk:=⟨_,List.getElem?_eq_getElem (by have:=Jg.out;rw[PV]at this;unfold idx at this;omega)⟩;obtain⟨hik,zhb,hfb⟩:=DY hfk;have IZ:(ZG s f)[k]?=some (prt s fk):=by unfold ZG;rw[List.getElem?_map,hfk];rfl
         have hpx:=P6.out wr (P5.out wr Ym);obtain⟨ob,xM,hov,_,_,_,_⟩:=VT hpx (by omega);obtain⟨rfl,rfl⟩:oa=some ⟨ob,0,none⟩∧oc=xM:=by simpa using hov
         clear hov;have x5:wr.cell? ⟨ob,k*5+1,none⟩=some (.int .i64 (fk:Int)):=by
          have:=hpx.cells (g:=ob) rfl (k*5+1) _ (Md IZ 1 _ rfl);rw[Addr.add_lit,Nat.zero_add,qH]at this;exact this
         have hup:=zg1 (s:=s) (f:=f) (k:=k) hbl;obtain⟨hgb,hgl⟩:=IL qg.out hbl;have hiff:fk=g2↔idx s g2=k:=by
          constructor
          ·rintro rfl;exact hik
          ·intro h
           have:=JS s g2 hgb hgl;rw[h,hfk]at this;simpa using this
         obtain⟨rr,hrr⟩:∃rr,R.length+1=rr:=⟨_,rfl⟩;rw[hrr]at x4 hRn;have e2:IntKind.i64.wrap ((z:Int)-1)=(rr:Int):=by rw[IntWalk.i64_in _ (by omega)];omega
         have t5:decide (1<z)=true:=by simp;omega
         have t6:(1:Int)<(z:Int):=by omega
         have q6:(rr:Int)<(n:Int):=by omega
         have q7:(0:Int)≤(rr:Int):=by omega
         have MQ:=hid hup;have I4:=hid hiff;clear hbl hzz x0 x2 x3 hba hfk hik zhb hfb IZ hpx hup hgb hgl hiff hrr;by_cases heq:fk=g2
         ·subst heq
          go_wp2
          go_quiet (fail)
          go_wp2
          go_roundw
          case rel=>
           refine⟨k+1,by go_num,by omega,?_,(Ym.drewN _).put _ _⟩;rw[MQ.out,if_pos (by simpa using I4.out)];have:=(hpk.drewN nq).set 3 (.int .i64 ((k:Nat):Int));simpa[Xx]using this
          case measure=>simp[intOf];omega
         ·have t7:((fk:Int)==(g2:Int))=false:=beq_eq_false_iff_ne.2 (by omega)
          have jQ:=hid heq;clear heq;go_wp2
          go_quiet (fail)
          go_wp2
          go_roundw
          case rel=>
           refine⟨k+1,by go_num,by omega,?_,Ym.drewN _⟩;rw[MQ.out,if_neg (λh=>jQ.out (I4.out.2 h))];exact hpk.drewN _
          case measure=>simp[intOf];omega
       ·obtain rfl:on=k:=by omega
        have hup:ZH s f on=Zh s f:=by
         have:=Jg.out;rw[PV]at this;rw[←this,zgZ qg.out]
        rw[hup]at hpk;have P7:=hid (P5.out wr Ym);obtain⟨U,rfl⟩:∃U,U=wr:=⟨wr,rfl⟩;clear hup Ym hlt3;obtain⟨up,P8⟩:∃up,Zh s f=up:=⟨_,rfl⟩;rw[P8]at hpk;have zhc:=hid P8;clear P8
        go_upto_block 6 with fail
        go_cut [10]from 80 to 104 (λv10 wx=>Xx wx pb (cnt (md s (eK s f s.size) f)) f (if eK s f s.size=s.size then s.size else eK s f s.size+1) up (decide (eK s f s.size=s.size))∧zg (λb=>b=pb) U wx)
        case first=>
         go_wp2
         go_loopw [10] (λv10 wr=>zg6 s U pb f up v10 wr) (λv _=>s.size+2-(intOf v).toNat)
         case atStart=>exact⟨f1,0,rfl,by have:=uY.out;omega,by have:=uY.out;omega,λj h1 h2=>by have:=uY.out;omega,by rw[if_pos uY.out.symm],hpk,zg.refl _ _⟩
         case round=>
          clear hpk;obtain⟨k,m,rfl,hk1,hk2,hall,hm,hpk,Ym⟩:=hrel;by_cases hlt4:(k:Int)≤s.size
          ·have hks:k≤s.size:=by omega
           have hkc:k<c:=by have:=jk.out;omega
           obtain⟨x0,x1,x2,x3⟩:=IY.out wr (P7.out.trans Ym (λ_ _ h=>h)) k hkc;have q5:(0:Int)≤(k:Int):=by omega
           have q6:(k:Int)<(c:Int):=by omega
           have hlk:=V6 s k;obtain⟨rk,hrk⟩:∃rk,rv k=rk:=⟨_,rfl⟩;rw[hrk]at x0 x1 x3;obtain⟨Sk,gk2,nk,zhd⟩:=rk;simp only at x0 x1 x3;obtain⟨P9,oh⟩:∃P9,(zL s k).fresh=P9:=⟨_,rfl⟩;rw[oh]at x2;have I5:=hid (λr (hr:Yk s k f=r)=>IG wr (zL s k).st Sk gk2 nk zhd P9 f r x3 (by omega) (hid (by rw[←hr];exact IU.out k)));have Xz:=hid hall;have HM:=hid hm;have HX3:=hid x3
           cases hpr:zI s k f with
           |false=>
            have hz0:Yk s k f=0:=IC.2 hpr;have HZ0:=hid hz0;have I7:=hid hpr;clear hall hm x3 hz0 hpr hrk oh
            go_wp2_with fail
            refine(I5.out 0 HZ0.out).mono ?_;rintro e w5 ⟨rfl,hb5⟩;have Jh:Xx w5 pb m f s.size up true:=zh.below hpk hb5;have y2:w5.cell? ⟨pb,2,none⟩=some (.int .i64 (s.size:Int)):=Jh.cell 2;have y4:w5.cell? ⟨pb,4,none⟩=some (.bool true):=Jh.cell 4;have mV:=zh.frozen Jh 2;have yf4:=zh.frozen Jh 4;have oq:=(Ym.trans (zg.of_below hb5 (p:=λ_=>False)) (λ_ _ h=>h.elim));go_wp2;go_meet
            case rel=>
             have hp0:zI s (f+1) f=true:=qg.out;have Kv:k≠f+1:=by rintro rfl;rw[I7.out]at hp0;cases hp0
             have he:eK s f s.size=k-1:=rJ (by omega) (by omega) (λj h1 h2=>Xz.out j h1 (by omega)) (λ_=>by rw[show k-1+1=k by omega];exact I7.out);have hm2:m=cnt (md s (k-1) f):=by rw[HM.out,if_neg Kv]
             rw[he,if_neg (by omega),show k-1+1=k by omega,show decide (k-1=s.size)=false by simp;omega,←hm2];refine⟨?_,(oq.put _ _).put _ _⟩;have:=(zh.set Jh 2 (.int .i64 ((k:Nat):Int))).set 4 (.bool false);simpa[Xx]using this
           |true=>
            have Yx:Yk s k f=z:=by unfold Yk;rw[if_pos hpr];exact Yl.out.symm
            have HZK:=hid Yx;have hsa:=IE hpr;rw[←Yl.out]at hsa;have hzl:z<(zL s k).st.length:=by have:=(List.getElem?_eq_some_iff.1 hsa).1;simpa using this
            have hSl:=x3.size;have hzS:z<Sk.size:=by omega
            have hby:bt Sk z=yI (md s k f):=by rw[x3.s];exact mF hsa
            obtain⟨cb,hcb⟩:∃cb,cb=(yI (md s k f)).toNat:=⟨_,rfl⟩;have JZ:(Sk[z].toNat:Int)=(cb:Int):=by rw[hcb,←hby,yx hzS]
            have zmG:(z:Int)<Sk.size:=by omega
            have q7:(0:Int)≤(z:Int):=by omega
            have YL:=hid (λW=>zgR W (md s k f) cb (MR s k f) (hid hcb));obtain⟨mk,hmk⟩:∃mk,cnt (md s k f)=mk:=⟨_,rfl⟩;rw[hmk]at YL;have MS:=hid hmk;have HPT:=hid hpr;have I8:∀W5,Below wr.heap.size wr W5→W5.cell? ⟨ab,k*3,none⟩=some (.string Sk)∧Xx W5 pb m f s.size up true:=by
             intro W5 h5;have hl:=HAV.out.lt;have:=zha.out.size;refine⟨(h5.cell (p:=⟨ab,k*3,none⟩) ?_).trans x0,zh.below hpk h5⟩;have h1:=P7.out.size;have h2:=Ym.size;show ab<wr.heap.size;omega
            have Vr:=hid I8;clear hall hm x3 Yx hsa hzl hSl hby hcb hmk hpr I8 hrk oh
            go_wp2_with fail
            refine(I5.out z HZK.out).mono ?_;rintro e w5 ⟨rfl,hb5⟩;obtain⟨y0,Jh⟩:=Vr.out w5 hb5;have p0:w5.cell? ⟨pb,0,none⟩=some (.int .i64 (m:Int)):=Jh.cell 0;have pf0:=zh.frozen Jh 0;have oq:=(Ym.trans (zg.of_below hb5 (p:=λ_=>False)) (λ_ _ h=>h.elim));clear x0 x1 x2
            go_wp2_with fail
            refine(YL.out _).mono ?_;rintro e w6 ⟨rfl,rfl⟩;go_wp2
            go_roundw
            case rel=>
             refine⟨k+1,mk,by go_num,by omega,by omega,λj h1 h2=>?_,?_,?_,oq.put _ _⟩
             ·by_cases e:j=k
              ·rw[e];exact HPT.out
              ·exact Xz.out j h1 (by omega)
             ·rw[if_neg (by omega),Nat.add_sub_cancel,MS.out]
             ·have:=zh.set Jh 0 (.int .i64 ((mk:Nat):Int))
              simpa[Xx]using this
            case measure=>simp[intOf];omega
          ·have hke:k=s.size+1:=by omega
           have XA:=hid hke;have Xz:=hid hall;have HM:=hid hm;clear hall hm hke;go_wp2;go_meet
           case rel=>
            have hke:=XA.out;have he:eK s f s.size=s.size:=rJ (by omega) (Nat.le_refl _) (λj h1 h2=>Xz.out j h1 (by omega)) (λh=>absurd h (Nat.lt_irrefl _));have hm2:m=cnt (md s s.size f):=by
             have:=HM.out;rw[if_neg (by omega)]at this;rw[this,show k-1=s.size by omega]
            rw[he,if_pos rfl,←hm2,decide_eq_true rfl];exact⟨hpk,Ym⟩
        case rest=>
         obtain⟨hpk2,hFc⟩:=hcut;clear hpk;have MV:=Y6 qg.out hlt';rw[zhc.out]at MV;obtain⟨M,hM⟩:∃M,cnt (md s (eK s f s.size) f)=M:=⟨_,rfl⟩;obtain⟨t,ht⟩:∃t,(if eK s f s.size=s.size then s.size else eK s f s.size+1)=t:=⟨_,rfl⟩;obtain⟨op,hop⟩:∃op,decide (eK s f s.size=s.size)=op:=⟨_,rfl⟩;rw[hM,ht,hop]at MV;rw[hM,ht,hop]at hpk2;have I9:=P7.out.trans hFc (λ_ _ h=>h);have uA:=hid MV;have ae:=hid I9;clear MV hM ht hop hFc I9;have p0:wc.cell? ⟨pb,0,none⟩=some (.int .i64 (M:Int)):=hpk2.cell 0;by_cases ou:M=12
         ·subst ou
          obtain⟨N,hN⟩:∃N,xX s f1=N:=⟨_,rfl⟩;have hfs:f1≤s.size:=by have:=uY.out;omega
          have hNl:N≤60000:=by have:=MC s f1 hfs;omega
          obtain⟨t2,ht2⟩:∃t2,f1+N=t2:=⟨_,rfl⟩;have a2:IntKind.i64.wrap ((f1:Int)+(N:Int))=(t2:Int):=by rw[IntWalk.i64_in _ (by omega)];omega
          have HPA:=hid (λW=>zg4 s f1 N W (by omega) hfs (hid hN));have rM:prt s f=⟨12,f,t2,up,false⟩:=by rw[uA.out,if_pos rfl,uY.out,hN,ht2]
          replace uA:=hid rM;have p2:wc.cell? ⟨pb,2,none⟩=some (.int .i64 (t:Int)):=hpk2.cell 2;have p4:wc.cell? ⟨pb,4,none⟩=some (.bool op):=hpk2.cell 4;have pf2:=zh.frozen hpk2 2;have pf4:=zh.frozen hpk2 4;clear hN ht2 rM
          go_upto_region 28 with(go_at_call 92;refine(HPA.out _).mono ?_;rintro e w6 ⟨rfl,rfl⟩)
          obtain⟨Z,hZ⟩:∃Z,Z=(w6.setCell ⟨pb,2,none⟩ (.int .i64 (t2:Int))).setCell ⟨pb,4,none⟩ (.bool false):=⟨_,rfl⟩;have Yn:Xx Z pb 12 f t2 up false:=by
           have:=(zh.set hpk2 2 (.int .i64 ((t2:Nat):Int))).set 4 (.bool false);rw[hZ];simpa[Xx]using this
          have rO:zg (λb=>b=pb) V Z:=by rw[hZ];exact(ae.out.put _ _).put _ _
          rw[←hZ];clear hZ p2 p4 pf2 pf4;have z0:Z.cell? ⟨pb,0,none⟩=some (.int .i64 ((12:Nat):Int)):=Yn.cell 0;have z1:Z.cell? ⟨pb,1,none⟩=some (.int .i64 (f:Int)):=Yn.cell 1;have z2:Z.cell? ⟨pb,2,none⟩=some (.int .i64 (t2:Int)):=Yn.cell 2;have z3:Z.cell? ⟨pb,3,none⟩=some (.int .i64 up):=Yn.cell 3;have z4:Z.cell? ⟨pb,4,none⟩=some (.bool false):=Yn.cell 4;have hown0:=P6.out Z rO;have Ji:Below W1.heap.size W1 Z:=hB.trans (rO.below hB.size (λk h=>by
           have e:k=pb:=h;omega))
          have oz:=hid (λk (h:(Value.slice oa on oc).ownBlock=some k)=>yH hown0 k h);clear Yn p0 hpk2
          go_wp2_with (at_builtin;refine IP rfl _ _ rfl W1.heap.size (.slice oa on oc) on (xn (ZG s f)) rfl (zQ ((zg.refl (λ_=>False) Z).alloc _) hown0 (λ_ _ h=>h)) Z.heap.size ⟨12,f,t2,up,false⟩ rfl (zh.new Z _ _) (by omega) (by have:=Ji.size;rw[World.size_alloc];omega) ?_;intro g3 c3 w7 J9 Qa)
          go_roundw
          case rel=>
           refine⟨f1,by have:=uY.out;omega,rfl,?_,?_⟩
           ·rw[←uY.out,PW,if_pos qg.out,uA.out]
            unfold X4;rw[Pj,List.length_append,Jg.out];have e:xn [(⟨12,f,t2,up,false⟩:zJ)]=vV ⟨12,f,t2,up,false⟩:=by simp[xn]
            rw[e];exact J9
           ·exact(Ji.alloc Ji.size _).grown Qa (by have:=Ji.size;rw[World.size_alloc];omega) (λk hk=>oz.out k hk)
          case measure=>have:=uY.out;simp[intOf];omega
         ·have t12:((M:Int)==12)=false:=beq_eq_false_iff_ne.2 (by omega)
          have rM:prt s f=⟨M,f,t,up,op⟩:=by rw[uA.out,if_neg ou]
          replace uA:=hid rM;clear rM ou
          go_upto_region 28 with fail
          obtain⟨Z,rfl⟩:∃Z,Z=wc:=⟨wc,rfl⟩;have Yn:=hpk2;have rO:=ae.out;have z0:Z.cell? ⟨pb,0,none⟩=some (.int .i64 (M:Int)):=Yn.cell 0;have z1:Z.cell? ⟨pb,1,none⟩=some (.int .i64 (f:Int)):=Yn.cell 1;have z2:Z.cell? ⟨pb,2,none⟩=some (.int .i64 (t:Int)):=Yn.cell 2;have z3:Z.cell? ⟨pb,3,none⟩=some (.int .i64 up):=Yn.cell 3;have z4:Z.cell? ⟨pb,4,none⟩=some (.bool op):=Yn.cell 4;have hown0:=P6.out Z rO;have Ji:Below W1.heap.size W1 Z:=hB.trans (rO.below hB.size (λk h=>by
           have e:k=pb:=h;omega))
          have oz:=hid (λk (h:(Value.slice oa on oc).ownBlock=some k)=>yH hown0 k h);clear Yn p0 hpk2
          go_wp2_with (at_builtin;refine IP rfl _ _ rfl W1.heap.size (.slice oa on oc) on (xn (ZG s f)) rfl (zQ ((zg.refl (λ_=>False) Z).alloc _) hown0 (λ_ _ h=>h)) Z.heap.size ⟨M,f,t,up,op⟩ rfl (zh.new Z _ _) (by omega) (by have:=Ji.size;rw[World.size_alloc];omega) ?_;intro g3 c3 w7 J9 Qa)
          go_roundw
          case rel=>
           refine⟨f1,by have:=uY.out;omega,rfl,?_,?_⟩
           ·rw[←uY.out,PW,if_pos qg.out,uA.out]
            unfold X4;rw[Pj,List.length_append,Jg.out];have e:xn [(⟨M,f,t,up,op⟩:zJ)]=vV ⟨M,f,t,up,op⟩:=by simp[xn]
            rw[e];exact J9
           ·exact(Ji.alloc Ji.size _).grown Qa (by have:=Ji.size;rw[World.size_alloc];omega) (λk hk=>oz.out k hk)
          case measure=>have:=uY.out;simp[intOf];omega
     ·have hat:Yk s f1 f=0:=by rw[IC,←hf1];simpa[born]using hb
      have qg:=hid hb;have zhe:=hid hat
      clear hP Xy hr hf1 hon hb hat hfr
      go_wp2_with fail
      refine(HAT.out _ 0 (Below.refl _ _) zhe.out).mono ?_;rintro e w2 ⟨rfl,hb2⟩;go_wp2
      go_roundw
      case rel=>
       refine⟨f1,by have:=uY.out;omega,rfl,?_,hB.trans (hb2.mono hmono)⟩;rw[←uY.out,PW,if_neg qg.out,List.append_nil];have h1:=vM HP.out hb2;exact h1
      case measure=>have:=uY.out;simp[intOf];omega
    ·obtain rfl:f=s.size:=by omega
     have HP:=hid hP;clear hP;obtain⟨on,hon⟩:∃on,(ZG s s.size).length=on:=⟨_,rfl⟩;have Jg:=hid hon;rw[hon]at HP ⊢;clear hon;go_wp2;go_ret;refine⟨⟨_,rfl,?_⟩,HB.out.trans (hB.mono HB.out.size)⟩;have h1:=HP.out;have h2:W1.ownsRow W1.heap.size 142 5 (.slice none 0 0) 0 []:=⟨rfl,.inl ⟨rfl,rfl⟩⟩;unfold X4 at h1 ⊢;rw[show PL s=ZG s s.size from rfl];have:=Iz h1 (c:=w.heap.size) (λk hk=>Nat.le_trans HB.out.size (yH h1 k hk));exact this
end
def uz(p:zJ):Value:=.agg #[.int .i64 (p.mode:Int),.int .i64 (p.zf:Int),.int .i64 (p.to:Int),.int .i64 p.up,.bool p.op]
structure Xa(w:World)(oa:Option Addr)(n:Nat)(L:List zJ):Prop where
 len:n=L.length
 cells:∀i p,L[i]?=some p→∃ob,oa=some ⟨ob,0,none⟩∧ob<w.heap.size∧∀c u,(vV p)[c]?=some u→w.cell? ⟨ob,i*5+c,none⟩=some u
theorem Xa.below{w w':World}{oa:Option Addr}{n:Nat}{L:List zJ}(h:Xa w oa n L)(hb:Below w.heap.size w w'):Xa w' oa n L:=
 ⟨h.len,λi p hp=>by
  obtain⟨ob,h1,h2,h3⟩:=h.cells i p hp;exact⟨ob,h1,Nat.lt_of_lt_of_le h2 hb.size,λc u hu=>(hb.cell (p:=⟨ob,i*5+c,none⟩) h2).trans (h3 c u hu)⟩⟩
theorem Xa.zf{q:Nat→Prop}{w w':World}{oa:Option Addr}{n:Nat}{L:List zJ}(h:Xa w oa n L)(hb:zg q w w')(hq:∀b,b<w.heap.size→¬q b):Xa w' oa n L:=
 ⟨h.len,λi p hp=>by
  obtain⟨ob,h1,h2,h3⟩:=h.cells i p hp;exact⟨ob,h1,Nat.lt_of_lt_of_le h2 hb.size,λc u hu=>(hb.cell h2 (hq ob h2)).trans (h3 c u hu)⟩⟩
theorem X4.read{w:World}{base:Nat}{v:Value}{L:List zJ}(h:X4 w base v L):∃oa n oc,v=.slice oa n oc∧Xa w oa n L:=by
 have h':w.ownsRow base 142 5 v L.length (xn L):=h;obtain⟨oa,oc,rfl⟩:=Zt h';refine⟨oa,_,oc,rfl,rfl,λi p hp=>?_⟩;have hl:i<L.length:=(List.getElem?_eq_some_iff.1 hp).1;obtain⟨ob,xM,hov,_,_,_,hlt⟩:=VT h' (by omega);obtain⟨rfl,rfl⟩:oa=some ⟨ob,0,none⟩∧oc=xM:=by simpa using hov
 refine⟨ob,rfl,hlt,λc u hu=>?_⟩;have:=h'.cells (g:=ob) rfl (i*5+c) u (Md hp c u hu)
 rwa [Addr.add_lit,Nat.zero_add]at this
theorem Xa.at{w:World}{oa:Option Addr}{n:Nat}{L:List zJ}(h:Xa w oa n L){i:Nat}(hi:i<n):∃ob p,oa=some ⟨ob,0,none⟩∧L[i]?=some p∧ob<w.heap.size∧w.cell? ⟨ob,i*5,none⟩=some (.int .i64 (p.mode:Int))∧w.cell? ⟨ob,i*5+1,none⟩=some (.int .i64 (p.zf:Int))∧w.cell? ⟨ob,i*5+2,none⟩=some (.int .i64 (p.to:Int))∧w.cell? ⟨ob,i*5+3,none⟩=some (.int .i64 p.up)∧w.cell? ⟨ob,i*5+4,none⟩=some (.bool p.op):=by
 have hl:i<L.length:=by have:=h.len;omega
 obtain⟨ob,h1,h2,h3⟩:=h.cells i L[i] (List.getElem?_eq_getElem hl);have h0:=h3 0 _ rfl;rw[Nat.add_zero]at h0;exact⟨ob,L[i],h1,List.getElem?_eq_getElem hl,h2,h0,h3 1 _ rfl,h3 2 _ rfl,h3 3 _ rfl,h3 4 _ rfl⟩
theorem Zo{s:ByteArray}{f:Nat}(hf:f<s.size)(hb:born s f=true):(prt s f).to≤s.size∧(prt s f).mode≤14:=by
 have he:=Gz s (Nat.le_of_lt hf);have hm:=oC (MR s (eK s f s.size) f);rw[Y6 hb hf];split
 ·exact⟨MC s (f+1) (by omega),by show 12≤14;omega⟩
 ·refine⟨?_,hm⟩
  show(if eK s f s.size=s.size then s.size else eK s f s.size+1)≤s.size;split<;>omega
theorem fQ{s:ByteArray}{i:Nat}{p:zJ}(h:(PL s)[i]?=some p):∃f,(xY s s.size)[i]?=some f∧p=prt s f∧f<s.size∧born s f=true∧p.zf=f∧p.to≤s.size∧p.mode≤14:=by
 unfold PL at h;rw[List.getElem?_map]at h
 cases hf:(xY s s.size)[i]? with
 |none=>rw[hf]at h;cases h
 |some f=>
  rw[hf]at h;have e:prt s f=p:=by simpa using h
  obtain⟨_,h2,h3⟩:=DY hf;have:=Zo h2 h3;rw[←e];exact⟨f,rfl,rfl,h2,h3,qH s f,this.1,this.2⟩
theorem fP(s:ByteArray):(PL s).length≤s.size:=by unfold PL;rw[List.length_map];exact ML s _
end Go.Proofs.YtdjcidackkogjaaGreatDoor

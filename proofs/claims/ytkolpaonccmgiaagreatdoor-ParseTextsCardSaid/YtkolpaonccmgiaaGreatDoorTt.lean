/- Tokens, plainly: where blanks, lines, numbers, wor -/
import Derived.Test.YtkolpaonccmgiaaGreatDoorTkE
import Derived.Test.YtkolpaonccmgiaaGreatDoorLtR
namespace Go.Proofs.YtkolpaonccmgiaaGreatDoor
set_option linter.unusedSectionVars false
set_option linter.unusedVariables false
open _root_.Nat renaming le_refl->waa
open Go.RowKit
theorem Om{s:ByteArray}{a c:Nat}:0<yP s a c↔a<s.size/\cl s a=c:=by
 unfold yP;constructor
 ·intro h
  have hle:=V5 (λi=>decide (cl s (a+i)=c)) (s.size-a);have:=Jn (λi=>decide (cl s (a+i)=c)) (z:=s.size-a) (i:=0) h;exact⟨by omega,by simpa using this⟩
 ·rintro⟨h1,h2⟩
  rcases Nat.eq_zero_or_pos (vU (λi=>decide (cl s (a+i)=c)) (s.size-a))with h|h
  ·have:=QG (λi=>decide (cl s (a+i)=c)) (z:=s.size-a) (by omega)
   rw[h]at this;simp[h2]at this
  ·exact h
theorem znf{s:ByteArray}{a c:Nat}(h:0<yP s a c):yP s a c=yP s (a+1) c+1:=by
 obtain⟨h1,h2⟩:=Om.1 h;have hle:=WX s (a+1) c;have hin:∀i,i<yP s (a+1) c->cl s (a+1+i)=c:=λi hi=>by
  have:=Jn (λi=>decide (cl s (a+1+i)=c)) (z:=s.size-(a+1)) (i:=i) hi;simpa using this
 have hst:yP s (a+1) c<s.size-(a+1)->cl s (a+1+yP s (a+1) c)≠c:=λhi=>by
  have:=QG (λi=>decide (cl s (a+1+i)=c)) (z:=s.size-(a+1)) hi;have e:vU (λi=>decide (cl s (a+1+i)=c)) (s.size-(a+1))=yP s (a+1) c:=rfl;rw[e]at this;simpa using this
 generalize yP s (a+1) c=r at*;unfold yP;refine Xq _ (by omega) (λi hi=>?_) (λhi=>?_)
 ·rcases Nat.eq_zero_or_pos i with rfl|hp
  ·simpa using h2
  ·have:=hin (i-1) (by omega)
   rw[show a+1+(i-1)=a+i by omega]at this;simpa using this
 ·have:=hst (by omega)
  rw[show a+1+r=a+(r+1) by omega]at this;simpa using this
def b1(s:ByteArray)(a:Nat):Nat:=if a<s.size/\cl s a=1 then 1 else if a+1<s.size/\by8 s a=92/\by8 s (a+1)=10 then 2 else 0
theorem zdh{s:ByteArray}{a:Nat}:b1 s a=0↔xM s a=0:=by
 have h:=Om (s:=s) (a:=a) (c:=1);unfold b1 xM;by_cases g:a<s.size/\cl s a=1
 ·rw[if_pos g,if_pos (h.2 g)]
  have:=h.2 g;omega
 ·rw[if_neg g,if_neg (λe=>g (h.1 e))]
theorem Oo{s:ByteArray}{a:Nat}(h:b1 s a=0):qL s a=a:=TN (zdh.1 h)
theorem zng{s:ByteArray}{a:Nat}(ha:a<=s.size)(h:b1 s a≠0):qL s a=qL s (a+b1 s a):=by
 have hb:xM s a≠0:=λe=>h (zdh.2 e);have e:=TP ha hb;by_cases g:a<s.size/\cl s a=1
 ·have hp:=Om.2 g
  have hn:=znf hp;have e1:b1 s a=1:=by unfold b1;rw[if_pos g]
  have e2:xM s a=yP s (a+1) 1+1:=by unfold xM;rw[if_pos hp,hn]
  rw[e,e1,e2];rcases Nat.eq_zero_or_pos (yP s (a+1) 1)with h0|h0
  ·rw[h0]
  ·have e3:xM s (a+1)=yP s (a+1) 1:=by unfold xM;rw[if_pos h0]
   rw[TP (a:=a+1) (by omega) (by omega),e3];congr 1;omega
 ·have e1:b1 s a=xM s a:=by
   unfold b1 xM;rw[if_neg g,if_neg (λe=>g (Om.1 e))]
  rw[e1];exact e
theorem znh{s:ByteArray}{a:Nat}(ha:a<=s.size)(h:jb s a<s.size):je (jJ s a 0 (jb s a-a)) (by8 s (jb s a))=true:=by
 have hl:=TQ ha;have hs:vU (λi=>!je (jJ s a 0 i) (by8 s (a+i))) (s.size-a)<s.size-a:=by unfold jb at h;omega
 have:=QG (λi=>!je (jJ s a 0 i) (by8 s (a+i))) (z:=s.size-a) hs;have e:jb s a-a=vU (λi=>!je (jJ s a 0 i) (by8 s (a+i))) (s.size-a):=by unfold jb;omega
 have e2:jb s a=a+vU (λi=>!je (jJ s a 0 i) (by8 s (a+i))) (s.size-a):=rfl;rw[e];rw[e2];simpa using this
theorem zni{s:ByteArray}{a i:Nat}(h1:a<=i)(h2:i<jb s a):je (jJ s a 0 (i-a)) (by8 s i)=false:=by
 have:=Jn (λi=>!je (jJ s a 0 i) (by8 s (a+i))) (z:=s.size-a) (i:=i-a) (by unfold jb at h2;omega);rw[show a+(i-a)=i by omega]at this;simpa using this
structure DZ(s t:ByteArray)(n:Nat):Prop where
 a:n<=s.size
 b:n<=t.size
 e:∀i,i<n->by8 s i=by8 t i
section
variable{s t:ByteArray}{n:Nat}(h:DZ s t n)
include h
theorem DZ.symm:DZ t s n:=⟨h.b,h.a,λi hi=>(h.e i hi).symm⟩
theorem DZ.bt{i:Nat}(hi:i<n):bt s i=bt t i:=UInt8.toNat_inj.1 (h.e i hi)
theorem DZ.cl{i:Nat}(hi:i<n):cl s i=cl t i:=by unfold Go.Proofs.YtkolpaonccmgiaaGreatDoor.cl;rw[h.bt hi]
theorem DZ.ext{a b:Nat}(hb:b<=n):s.extract a b=t.extract a b:=by
 have h1:=h.a;have h2:=h.b;refine Ci ?_ (λi hi=>?_)
 ·rw[ByteArray.size_extract,ByteArray.size_extract];omega
 ·rw[ByteArray.size_extract]at hi
  rw[VC s a b i (by omega) (by omega),VC t a b i (by omega) (by omega)];exact h.bt (by omega)
end
def D5(s:ByteArray)(d:Dl):Nat->Nat->Nat×Bool
 |0,a=>(s.size,false)
 |k+1,a=>if a<s.size then(if Vw (s.extract a (zY s a)) d=true then(zY s a,true)else D5 s d k (zY s a))else(s.size,false)
def dA(s:ByteArray)(d:Dl)(a:Nat):Nat×Bool:=D5 s d (s.size-a) a
section
variable(s:ByteArray)(d:Dl)
theorem zdi:∀(k a j:Nat),s.size-a<=k->k<=j->D5 s d j a=D5 s d k a
 |0,a,0,_,_=>rfl
 |0,a,j+1,h,_=>by
  show(if a<s.size then _ else _)=_;rw[if_neg (by omega)];rfl
 |k+1,a,0,_,h=>by omega
 |k+1,a,j+1,h1,h2=>by
  unfold D5;by_cases h:a<s.size
  ·rw[if_pos h,if_pos h]
   have:=KL h;rw[zdi k (zY s a) j (by omega) (by omega)]
  ·rw[if_neg h,if_neg h]
theorem Ip{a:Nat}(h:a<s.size):dA s d a=if Vw (s.extract a (zY s a)) d=true then(zY s a,true)else dA s d (zY s a):=by
 have hg:=KL h;unfold dA;obtain⟨k,hk⟩:∃k,s.size-a=k+1:=⟨s.size-a-1,by omega⟩;rw[hk]
 conv=>lhs;unfold D5
 rw[if_pos h,zdi s d _ (zY s a) k (waa _) (by omega)]
theorem D6{a:Nat}(h:¬a<s.size):dA s d a=(s.size,false):=by
 unfold dA;rw[show s.size-a=0 by omega];rfl
theorem zdj:∀(k a:Nat),s.size-a<=k->a<=s.size->a<=(dA s d a).1/\(dA s d a).1<=s.size
 |0,a,hk,ha=>by rw[D6 s d (by omega)];exact⟨ha,waa _⟩
 |k+1,a,hk,ha=>by
  by_cases h:a<s.size
  ·have hg:=KL h
   rw[Ip s d h];split
   ·exact⟨by show a<=zY s a;omega,by show zY s a<=_;omega⟩
   ·have:=zdj k (zY s a) (by omega) (by omega)
    omega
  ·rw[D6 s d h];exact⟨ha,waa _⟩
theorem znj{a c:Nat}(hc:a+c<=s.size):vk (s.extract a s.size) c=vk s (a+c)-a:=by
 have hz:=uX (s:=s) (a:=a) (b:=s.size) (waa _);have hle:=rX (s:=s) hc;refine DU (by omega) (by omega) (λi g1 hi=>?_) (λhi=>?_)
 ·rw[QM (waa _) (by omega)]
  exact iI (a:=a+c) (by omega) (by omega)
 ·rw[QM (waa _) (by omega),show a+(vk s (a+c)-a)=vk s (a+c) by omega]
  exact o9 (by omega)
theorem znk{a c:Nat}(hc:a+c<s.size):zY (s.extract a s.size) c=zY s (a+c)-a:=by
 have hz:=uX (s:=s) (a:=a) (b:=s.size) (waa _);have hle:=rX (s:=s) (Nat.le_of_lt hc);unfold zY;rw[znj s (Nat.le_of_lt hc),hz];by_cases h:vk s (a+c)<s.size
 ·rw[if_pos h,if_pos (by omega)];omega
 ·rw[if_neg h,if_neg (by omega)]
theorem zdk(b:Nat):∀(k c:Nat),s.size-b-c<=k->b+c<=s.size->Zp d (qX (s.extract b s.size) k c) c=((dA s d (b+c)).1-b,(dA s d (b+c)).2)
 |0,c,hk,hc=>by
  rw[D6 s d (by omega)];show(c,false)=(s.size-b,false);rw[show c=s.size-b by omega]
 |k+1,c,hk,hc=>by
  have hz:=uX (s:=s) (a:=b) (b:=s.size) (waa _);unfold qX;by_cases h:b+c<s.size
  ·have hg:=KL h
   rw[if_pos (by omega),znk s h,Ip s d h];have hx:(s.extract b s.size).extract c (zY s (b+c)-b)=s.extract (b+c) (zY s (b+c)):=by
    rw[ByteArray.extract_extract];congr 1;omega
   rw[hx];show(if Vw _ d=true then _ else Zp d _ _)=_;have hz2:c+(s.extract (b+c) (zY s (b+c))).size=zY s (b+c)-b:=by rw[ByteArray.size_extract];omega
   rw[hz2];by_cases hd:Vw (s.extract (b+c) (zY s (b+c))) d=true
   ·rw[if_pos hd,if_pos hd]
   ·rw[if_neg hd,if_neg hd]
    have:=zdk b k (zY s (b+c)-b) (by omega) (by omega);rw[show b+(zY s (b+c)-b)=zY s (b+c) by omega]at this;exact this
  ·rw[if_neg (by omega),D6 s d h]
   show(c,false)=(s.size-b,false);rw[show c=s.size-b by omega]
theorem znl{a:Nat}(ha:a<=s.size)(ds:List Dl):Z9 (s.extract a s.size) (d::ds)=((dA s d a).1-a,(dA s d a).2):=by
 have hz:=uX (s:=s) (a:=a) (b:=s.size) (waa _);have:=zdk s d a (s.extract a s.size).size 0 (by omega) (by omega);exact this
end
open Go.Proofs.Tryz
open Lib(hid)
set_option maxHeartbeats 8000000
theorem zc0(s:ByteArray):∀(k a j:Nat) (x:Lx),s.size-a<=k->k<=j->Yj s j a x=Yj s k a x
 |0,a,0,_,_,_=>rfl
 |0,a,j+1,x,h,_=>by
  show(if a<s.size then _ else _)=_;rw[if_neg (by omega)];rfl
 |k+1,a,0,_,_,h=>by omega
 |k+1,a,j+1,x,h1,h2=>by
  unfold Yj;by_cases h:a<s.size
  ·rw[if_pos h,if_pos h]
   have:=(Rj x h).2;rw[zc0 s k _ j _ (by omega) (by omega)]
  ·rw[if_neg h,if_neg h]
theorem zc3{s:ByteArray}{a:Nat}(x:Lx)(h:a<s.size):Yj s (s.size-a) a x=(xB s a x,qY s a x)::Yj s (s.size-(xB s a x).en) (xB s a x).en (qY s a x):=by
 have hg:=(Rj x h).2;obtain⟨k,hk⟩:∃k,s.size-a=k+1:=⟨s.size-a-1,by omega⟩;rw[hk]
 conv=>lhs;unfold Yj
 rw[if_pos h,zc0 s _ _ _ _ (Nat.le_refl _) (by omega)]
theorem zc4{s:ByteArray}{a:Nat}(x:Lx)(h:¬a<s.size):Yj s (s.size-a) a x=[]:=by
 rw[show s.size-a=0 by omega];rfl
theorem zm7(x:Lx)(k:Nat)(op:Bool)(text:ByteArray){a e:Nat}(hp:x.pend.length<=a)(he:a<e)(ha:x.await<=1000):(jw x k op text).pend.length<=e/\(jw x k op text).await<=1000:=by
 have h17:(if vI text=4\/vI text=5 then vI text else 0)<=1000:=by
  generalize vI text=o;split<;>omega
 have hx:x.pend.length<=e:=by omega
 unfold jw;split
 ·split
  ·exact⟨hx,ha⟩
  ·refine⟨?_,ha⟩
   show x.pend.tail.length<=_;rw[List.length_tail];omega
 split
 ·exact⟨hx,ha⟩
 split
 ·exact⟨hx,Nat.zero_le _⟩
 split
 ·exact⟨hx,h17⟩
 split
 ·refine⟨?_,Nat.zero_le _⟩
  show(x.pend++ [_]).length<=_;rw[List.length_append];show x.pend.length+1<=e;omega
 ·exact⟨hx,Nat.zero_le _⟩
theorem zc5{s:ByteArray}{a:Nat}(x:Lx)(h:a<s.size)(hp:x.pend.length<=a)(ha:x.await<=1000):(qY s a x).pend.length<=(xB s a x).en/\(qY s a x).await<=1000:=
 zm7 x _ _ _ hp (Rj x h).2.1 ha
def Ib(q:Tk×Lx)(T:Nat->Prop)(W:World)(vs:Array Value):Prop:=
 ∃oa n c,vs=#[xw q.1,zM q.2 (.slice oa n c)]/\ug W (.slice oa n c) q.2/\∀g,(Value.slice oa n c).ownBlock=some g->T g
def Ic(s:ByteArray)(Bs Bt Bx:Nat)(J:List ((Tk×Lx)×Array Value)->(Nat->Prop)->World->Prop)(wr:World):Prop:=
 ∃(t:Tk) (x:Lx) (oa:Option Addr) (n c:Nat) (pre:List ((Tk×Lx)×Array Value)) (T:Nat->Prop),t.en<=s.size/\x.pend.length<=t.en/\x.await<=1000/\
  vY s=pre.map Prod.fst++Yj s (s.size-t.en) t.en x/\zf wr Bs #[.string s] 9/\zf wr Bt #[.int .i64 (t.kind:Int),.int .i64 (t.zh:Int),.int .i64 (t.en:Int),.bool t.op] 67/\
  zf wr Bx #[.int .i64 (x.await:Int),.slice oa n c,.bool x.body] 62/\ug wr (.slice oa n c) x/\T Bt/\T Bx/\(∀g,(Value.slice oa n c).ownBlock=some g->T g/\g≠Bt/\g≠Bx/\Bs<g)/\(∀b,T b->Bs<b/\b<wr.heap.size)/\Tx wr/\J pre T wr/\
  (∀q vs,pre.getLast?=some (q,vs)->q.2=x/\vs=#[xw q.1,zM x (.slice oa n c)])
def Ie(Bs:Nat)(b:Nat):Prop:=b=Bs\/b=0
theorem ug.kpt{W W':World}{pv:Value}{x:Lx}(h:ug W pv x)(hs:W.heap.size<=W'.heap.size)(hb:∀g,pv.ownBlock=some g->W'.heap[g]?=W.heap[g]?):ug W' pv x:=by
 refine⟨?_,λe=>?_,λg hg=>⟨(h.pos g hg).1,by have:=(h.pos g hg).2;omega⟩,h.cap⟩
 ·rcases h.src with q|⟨b,off,c,h1,h2,h3⟩
  ·exact .inl q
  ·exact .inr ⟨b,off,c,h1,by omega,λj u hj=>(World.cell?_of_block (hb b (by rw[h1];rfl))).trans (h3 j u hj)⟩
 ·have ho:=h.own e
  refine⟨ho.1,?_⟩;rcases ho.2 with h0|⟨g,cap,cur,hv,hb2,hg,h5⟩
  ·exact .inl h0
  ·refine .inr ⟨g,cap,cur,hv,hb2,?_,h5⟩
   rw[hb g (by rw[hv];rfl)];exact hg
def zm8(s:ByteArray):Option Value->Nat
 |some (.int _ i)=>s.size-i.toNat
 |_=>0
open Go.RowKit Go.Shelf
attribute [local go_sem] Oper.semAt_some
theorem zc6:(prog.info? 67).map (λi=>(i.zero,i.size,i.bytes))=some (some (.agg #[.int .i64 0,.int .i64 0,.int .i64 0,.bool false]),4,32):=by kernel_rfl
theorem zm9{F:Fence}{fn:Nat}{ops:Array Oper}{rest:List Oper}{o:Oper}{a:Act}{w:World}{Q:Exit->Act->World->Prop}(hgd:o.guard=none)(s x:Operand)(t e:TypeId)(k bytes:Nat)(z:Value)
 (ho:o.op=.call {callee:=.builtin .append,args:=#[s,x],argTypes:=#[t,t]})
 (hu:prog.underlying t=some (.slice e))(hinfo:(prog.info? e).map (λi=>(i.zero,i.size,i.bytes))=some (some z,k,bytes))(X9:z.cells.size=k)(hk:0<k)(hby:bytes<=1000)
 (base:Nat)(v0:Value)(n0:Nat)(yI:List Value)(hs:a.eval s=v0)(hown:w.ownsRow base e k v0 n0 yI)(v1:Value)(m:Nat)(news:List Value)(hx:a.eval x=v1)(hsrc:Src w v1 m news)(hlen:news.length=m*k)(h1:∀u∈news,u.oneCell'=true)(hl:n0+m<=1000000)(hbase:base<=w.heap.size)(nn:Nat)(hnn:n0+m=nn)
 (h:∀oa c w',w'.ownsRow base e k (.slice oa nn c) nn (yI++news)->w.grownBy w' v0.ownBlock->((Value.slice oa nn c).ownBlock=v0.ownBlock\/(Value.slice oa nn c).ownBlock=some w.heap.size)->wpListIn F fn prog ops Q rest (a.put o.dst (.slice oa nn c)) w'):wpListIn F fn prog ops Q (o::rest) a w:=by
 refine wpListIn_plain hgd λK hK'=>?_;obtain⟨oa,c,w',hrun,h2,h3,h4⟩:=OA w t e o.type k bytes z hu hinfo X9 hk hby base v0 n0 yI hown v1 m news hsrc hlen h1 hl hbase nn hnn;unfold Oper.wpIn;refine⟨?_,?_⟩
 ·simp[Oper.about,ho,resolve,Target.leads,Sem.run_pure]
 ·rw[Oper.semAt_plain F _ _ (by rw[ho];intro c hc';cases hc')]
  simp[execOp,ho,resolve,invoke,builtin,hs,hx,hrun,Result.andThen];exact hK' _ _ (h oa c w' h2 h3 h4)
def QA(t:Tk):List Value:=[.int .i64 (t.kind:Int),.int .i64 (t.zh:Int),.int .i64 (t.en:Int),.bool t.op]
def YX(l:List Tk):List Value:=l.flatMap QA
theorem zc7(l k:List Tk):YX (l++k)=YX l++YX k:=by unfold YX;rw[List.flatMap_append]
theorem zc8(x:Tk):∀u∈QA x,u.oneCell'=true:=by
 intro u hu;simp[QA]at hu;rcases hu with rfl|rfl|rfl|rfl<;>rfl
theorem zc9{W:World}{b:Nat}{x:Tk}(h:zf W b #[.int .i64 (x.kind:Int),.int .i64 (x.zh:Int),.int .i64 (x.en:Int),.bool x.op] 67):Src W (.slice (some ⟨b,0,none⟩) 1 1) 1 (QA x):=by
 refine .inr ⟨_,0,1,rfl,h.lt,λj u hj=>?_⟩;rw[Nat.zero_add,h.cell j];simpa[QA]using hj
def Yk(l:List (Tk×Lx)):Lx:=match l.getLast? with
 |some q=>q.2
 |none=>Lx.zero
theorem zda(l:List (Tk×Lx))(q:Tk×Lx):Yk (l++ [q])=q.2:=by unfold Yk;rw[List.getLast?_append];rfl
theorem NH(s:ByteArray):∀(k a:Nat) (x:Lx),(Yj s k a x).length<=k
 |0,a,x=>Nat.zero_le _
 |k+1,a,x=>by
  unfold Yj;split
  ·have:=NH s k (xB s a x).en (qY s a x)
   rw[List.length_cons];omega
  ·exact Nat.zero_le _
def Oi(w:World)(z Br Ba Bl:Nat)(kH:List ((Tk×Lx)×Array Value))(T:Nat->Prop)(W:World):Prop:=
 ∃v oa n c,zf W Ba #[v] 59/\W.ownsRow (z+2) 67 4 v kH.length (YX (kH.map λp=>p.1.1))/\zf W Bl #[.int .i64 ((Yk (kH.map Prod.fst)).await:Int),.slice oa n c,.bool (Yk (kH.map Prod.fst)).body] 62/\
  zf W Br #[.int .i64 0,.slice none 0 0,.bool false] 62/\(∀g,v.ownBlock=some g->¬T g)/\(∀b,T b->z+2<=b)/\z+2<=W.heap.size/\Below w.heap.size w W/\(kH=[]->Value.slice oa n c=.slice none 0 0)/\∀q vs,kH.getLast?=some (q,vs)->vs=#[xw q.1,zM q.2 (.slice oa n c)]
theorem Oi.Ze{w:World}{z Br Ba Bl:Nat}(hr:Br<z)(hb:Ba<z)(hl:Bl<z)(hw:w.heap.size<=z):Yx (z+1) (Oi w z Br Ba Bl):=by
 rintro pre T W W' T' ⟨v,oa,n,c,h1,h3,k1,k2,h2,hT,Xy,hB,hq,hz⟩ hf hT';have no:∀b,b<z->¬(T b\/b=z+1):=λb hb hh=>by rcases hh with g|g;have:=hT b g;omega;omega
 refine⟨v,oa,n,c,h1.zh hf (no _ hb),xq hf h3 (λg hg hh=>?_),k1.zh hf (no _ hl),k2.zh hf (no _ hr),λg hg hh=>?_,λb hb=>?_,?_,?_,hq,hz⟩
 ·rcases hh with e|e
  ·exact h2 g hg e
  ·have:=xx h3 g hg;omega
 ·rcases hT' g hh with e|e
  ·exact h2 g hg e
  ·have:=kK h3 g hg;omega
 ·rcases hT' b hb with e|e
  ·exact hT b e
  ·omega
 ·have:=hf.size;omega
 ·exact hB.trans ((hf.below (n:=w.heap.size) hB.size (λb hh=>by rcases hh with e|e;have:=hT b e;omega;omega)))
def DY(W:World)(v:Value)(l:List Tk):Prop:=
 (v=.slice none 0 0/\l=[])\/∃b off c,v=.slice (some ⟨b,off,none⟩) l.length c/\b<W.heap.size/\∀j t,l[j]?=some t->W.cell? ⟨b,off+j*4,none⟩=some (.int .i64 (t.kind:Int))/\W.cell? ⟨b,off+j*4+1,none⟩=some (.int .i64 (t.zh:Int))/\W.cell? ⟨b,off+j*4+2,none⟩=some (.int .i64 (t.en:Int))/\W.cell? ⟨b,off+j*4+3,none⟩=some (.bool t.op)
theorem zdb:∀(l:List Tk) (j k:Nat) (t:Tk),l[j]?=some t->k<4->(YX l)[j*4+k]?=(QA t)[k]?
 | [],j,k,t,h,_=>by cases h
 |a::l,0,k,t,h,hk=>by
  cases h;show(QA a++YX l)[0*4+k]?=_;rw[List.getElem?_append_left (by show 0*4+k<4;omega),Nat.zero_mul,Nat.zero_add]
 |a::l,j+1,k,t,h,hk=>by
  show(QA a++YX l)[(j+1)*4+k]?=_;rw[List.getElem?_append_right (by show 4<=_;omega),show(j+1)*4+k-(QA a).length=j*4+k from by show(j+1)*4+k-4=_;omega];exact zdb l j k t h hk
theorem DY.Y2{W:World}{base:Nat}{v:Value}{l:List Tk}(h:W.ownsRow base 67 4 v l.length (YX l)):DY W v l:=by
 rcases Src.Y2 h with⟨h1,h2,_⟩|⟨b,off,c,h1,h2,h3⟩
 ·exact .inl ⟨h1,List.eq_nil_of_length_eq_zero h2⟩
 ·refine .inr ⟨b,off,c,h1,h2,λj t hj=>?_⟩
  have g:=λk hk=>zdb l j k t hj hk;refine⟨h3 (j*4) _ (g 0 (by omega)),?_,?_,?_⟩
  ·exact h3 (j*4+1) _ (g 1 (by omega))
  ·exact h3 (j*4+2) _ (g 2 (by omega))
  ·exact h3 (j*4+3) _ (g 3 (by omega))
theorem DY.below{W W':World}{v:Value}{l:List Tk}(h:DY W v l)(hb:Below W.heap.size W W'):DY W' v l:=by
 rcases h with h|⟨b,off,c,h1,h2,h3⟩
 ·exact .inl h
 ·have e:∀o,W'.cell? ⟨b,o,none⟩=W.cell? ⟨b,o,none⟩:=λo=>hb.cell (p:=⟨b,o,none⟩) h2
  exact .inr ⟨b,off,c,h1,Nat.lt_of_lt_of_le h2 hb.size,λj t hj=>by rw[e,e,e,e];exact h3 j t hj⟩
theorem zdc(s:ByteArray)(w:World)(hlim:s.size<=281474976710656):
  Calls prog 92 #[.string s] w λe w'=>e=.returned (.string s)/\Below w.heap.size w w':=by
 go_enter func92,ntmps92
 go_wp2_with (go_at_call 111;refine(Tryz.stringslite_Clone s _ hlim).mono ?_;rintro e w1 ⟨rfl,hb⟩)
 go_ret;exact⟨rfl,hb⟩
section
variable(w:World)(s:ByteArray)(t:Tk)(hs:s.size<=1000000)(h1:t.zh<=t.en)(h2:t.en<=s.size)
include hs h1 h2
theorem zna:Calls prog 65 #[.string s,xw t] w λe w'=>e=.returned (.bool true)/\Below w.heap.size w w':=by
 unfold xw;have q0:(0:Int)<=(t.zh:Int):=by omega
 have q1:(t.zh:Int)<=(t.en:Int):=by omega
 have q2:(t.en:Int)<=(s.size:Int):=by omega
 have kb:=zf.new w #[.int .i64 (t.kind:Int),.int .i64 (t.zh:Int),.int .i64 (t.en:Int),.bool t.op] 67;have a1:=kb.cell 1;have a2:=kb.cell 2;go_enter func65,ntmps65;go_wp2;go_ret;exact⟨rfl,(Below.refl _ w).alloc (Nat.le_refl _) _⟩
theorem zcG:Calls prog 66 #[.string s,xw t] w λe w'=>e=.returned (.string (s.extract t.zh t.en))/\Below w.heap.size w w':=by
 have hst:=λW=>zna W s t hs h1 h2;have hcl:=λW=>zdc (s.extract t.zh t.en) W (by rw[ByteArray.size_extract];omega);unfold xw at*;have HST:=hid hst;have XK:=hid hcl;have q0:(0:Int)<=(t.zh:Int):=by omega
 have q1:(t.zh:Int)<=(t.en:Int):=by omega
 have q2:(t.en:Int)<=(s.size:Int):=by omega
 have kb:=zf.new w #[.int .i64 (t.kind:Int),.int .i64 (t.zh:Int),.int .i64 (t.en:Int),.bool t.op] 67;have hB0:Below w.heap.size w (w.alloc (.cells #[.int .i64 (t.kind:Int),.int .i64 (t.zh:Int),.int .i64 (t.en:Int),.bool t.op] 67)):=(Below.refl _ w).alloc (Nat.le_refl _) _;have HB0:=hid hB0;have HKB:=hid kb;clear hst hcl hB0;go_enter func66,ntmps66
 go_wp2_with fail
 refine(HST.out _).mono ?_;rintro e w1 ⟨rfl,hb1⟩;have k1:=HKB.out.below hb1;have a1:=k1.cell 1;have a2:=k1.cell 2
 go_wp2_with fail
 refine(XK.out _).mono ?_;rintro e w2 ⟨rfl,hb2⟩;go_wp2;go_ret;have hz:=HB0.out.size;exact⟨rfl,(HB0.out.trans (hb1.mono hz)).trans (hb2.mono (Nat.le_trans hz hb1.size))⟩
end
def QB(s:ByteArray)(a i:Nat)(tabs:Bool):Nat:=if tabs=true then vU (λj=>decide (by8 s (a+j)=9)) (i-a)else 0
theorem znz(s:ByteArray)(a i:Nat)(tabs:Bool):QB s a i tabs<=i-a:=by
 unfold QB;split
 ·exact V5 _ _
 ·exact Nat.zero_le _
theorem znA(x:ByteArray)(k:Nat):(⟨(x.data.toList.drop k).toArray⟩:ByteArray)=x.extract k x.size:=by
 rw[Lib.extract_eq];congr 2;exact(List.take_of_length_le (by rw[List.length_drop,Lib.size_eq];exact Nat.le_refl _)).symm
theorem znB{l x:ByteArray}(h:(⟨(Lib.trimSuffix l.data.toList [10]).toArray⟩:ByteArray)=x)(tabs:Bool):TR l tabs=x.extract (QB x 0 x.size tabs) x.size:=by
 unfold TR QB
 cases tabs with
 |false=>
  rw[if_neg (by decide),if_neg (by decide),h,ByteArray.extract_zero_size]
 |true=>
  rw[if_pos rfl,if_pos rfl];have hl:Lib.trimSuffix l.data.toList [10]=x.data.toList:=by rw[←h]
  rw[hl,←znA];congr 2;have hle:=V5 (λj=>decide (by8 x (0+j)=9)) (x.size-0);have hsz:=Lib.size_eq x;refine Lib.trimLeftB_drop _ _ _ (by omega) (λj b hj hb=>?_) (λb hb=>?_)
  ·have:=Jn (λj=>decide (by8 x (0+j)=9)) (z:=x.size-0) hj
   have hjl:j<x.data.toList.length:=by omega
   have e:=rY hjl;rw[List.getElem?_eq_getElem hjl]at hb;injection hb with hb;rw[hb]at e;simp only[Nat.zero_add,decide_eq_true_eq]at this;exact UInt8.toNat_inj.1 (by rw[e,this];rfl)
  ·generalize hk:vU (λj=>decide (by8 x (0+j)=9)) (x.size-0)=k at hb hle
   obtain⟨hjl,hb'⟩:=List.getElem?_eq_some_iff.1 hb;have:=QG (λj=>decide (by8 x (0+j)=9)) (z:=x.size-0) (by omega);rw[hk]at this;have e:=rY hjl;rw[hb']at e;simp only[Nat.zero_add,decide_eq_false_iff_not]at this;intro eb;exact this (by rw[←e,eb];rfl)
theorem znC{s:ByteArray}{a i:Nat}(h1:a<=i)(h2:i<s.size)(h3:by8 s i=10):(⟨(Lib.trimSuffix (s.extract a (i+1)).data.toList [10]).toArray⟩:ByteArray)=s.extract a i:=by
 have hz:=uX (s:=s) (a:=a) (b:=i+1) (by omega);have e0:(s.extract a (i+1)).extract ((s.extract a (i+1)).size-1) (s.extract a (i+1)).size=(⟨#[10]⟩:ByteArray):=by
  refine Ci ?_ (λj hj=>?_)
  ·rw[ByteArray.size_extract,hz]
   show _=1;omega
  ·rw[ByteArray.size_extract,hz]at hj
   rw[hz];obtain rfl:j=0:=by omega
   rw[VC _ _ _ _ (by omega) (by omega),VC _ _ _ _ (by omega) (by omega)];rw[show a+(i+1-a-1+0)=i by omega];exact UInt8.toNat_inj.1 h3
 have:=Lib.trimSuffix_hit (s.extract a (i+1)) ⟨#[10]⟩ (by show 1<=_;omega) (by rw[Zv,decide_eq_true_iff];exact e0);rw[show(s.extract a (i+1)).size-(⟨#[10]⟩:ByteArray).size=i-a from by rw[hz];show i+1-a-1=i-a;omega]at this;refine this.trans ?_;rw[ByteArray.extract_extract];congr 1;omega
theorem znD{s:ByteArray}{a:Nat}(h1:a<=s.size)(h3:a<s.size->by8 s (s.size-1)≠10):(⟨(Lib.trimSuffix (s.extract a s.size).data.toList [10]).toArray⟩:ByteArray)=s.extract a s.size:=by
 have hz:=uX (s:=s) (a:=a) (b:=s.size) (Nat.le_refl _);refine Lib.trimSuffix_miss (s.extract a s.size) ⟨#[10]⟩ ?_;rw[Bool.and_eq_false_iff];by_cases g:a<s.size
 ·right
  rw[Zv,decide_eq_false_iff_not];intro e;have hb:by8 ((s.extract a s.size).extract ((s.extract a s.size).size-(⟨#[10]⟩:ByteArray).size) (s.extract a s.size).size) 0=10:=by rw[e];rfl
  rw[show(⟨#[10]⟩:ByteArray).size=1 from rfl,hz,QM (by omega) (by omega),QM (Nat.le_refl _) (by omega),show a+(s.size-a-1+0)=s.size-1 by omega]at hb;exact h3 g hb
 ·left
  rw[decide_eq_false_iff_not];show ¬1<=_;omega
theorem znE{s:ByteArray}{a i:Nat}(h1:a<=i)(h2:i<=s.size)(tabs:Bool):QB (s.extract a i) 0 (s.extract a i).size tabs=QB s a i tabs:=by
 have hz:=uX (s:=s) (a:=a) (b:=i) h2;unfold QB
 cases tabs with
 |false=>simp only[Bool.false_eq_true,if_false]
 |true=>
  simp only[if_true];rw[hz,Nat.sub_zero];have hle:=V5 (λj=>decide (by8 s (a+j)=9)) (i-a);refine Xq _ hle (λj hj=>?_) (λhj=>?_)
  ·have:=Jn (λj=>decide (by8 s (a+j)=9)) (z:=i-a) hj
   rw[Nat.zero_add,QM h2 (by omega)];exact this
  ·have:=QG (λj=>decide (by8 s (a+j)=9)) (z:=i-a) hj
   rw[Nat.zero_add,QM h2 (by omega)];exact this
theorem znu{s:ByteArray}{a i:Nat}(h1:a<=i)(h2:i<=s.size)(hi:vk s a=i)(h0:a<s.size)(d:Dl):Vw (s.extract a (zY s a)) d=decide (s.extract (a+QB s a i d.tabs) i=d.word):=by
 have hx:(⟨(Lib.trimSuffix (s.extract a (zY s a)).data.toList [10]).toArray⟩:ByteArray)=s.extract a i:=by
  unfold zY;rw[hi];by_cases g:i<s.size
  ·rw[if_pos g]
   exact znC h1 g (by have:=o9 (s:=s) (a:=a) (by omega);rwa [hi]at this)
  ·rw[if_neg g]
   obtain rfl:i=s.size:=by omega
   exact znD h1 (λg=>iI (a:=a) (by omega) (by omega))
 unfold Vw;rw[znB hx,znE h1 h2];have hz:=uX (s:=s) (a:=a) (b:=i) h2;have ht:=znz s a i d.tabs;rw[hz,ByteArray.extract_extract];congr 2;congr 1;omega
theorem znF{s:ByteArray}{a:Nat}(h:yS s a≠0):vI (s.extract a (a+(txt (yS s a)).size))=yS s a:=by
 rw[(CB h).2,UY (nS h)]
structure Ku(W:World)(oa:Option Addr)(n:Nat)(l:List Tk):Prop where
 len:n=l.length
 cells:∀(j:Nat) t,l[j]?=some t->∃b off,oa=some ⟨b,off,none⟩/\b<W.heap.size/\W.cell? ⟨b,off+j*4,none⟩=some (.int .i64 (t.kind:Int))/\W.cell? ⟨b,off+j*4+1,none⟩=some (.int .i64 (t.zh:Int))/\W.cell? ⟨b,off+j*4+2,none⟩=some (.int .i64 (t.en:Int))/\W.cell? ⟨b,off+j*4+3,none⟩=some (.bool t.op)
theorem Ku.below{W W':World}{oa:Option Addr}{n:Nat}{l:List Tk}(h:Ku W oa n l)(hb:Below W.heap.size W W'):Ku W' oa n l:=
 ⟨h.len,λj d hj=>by
  obtain⟨b,off,h1,h2,h3,h4,h5,h6⟩:=h.cells j d hj;have e:∀o,W'.cell? ⟨b,o,none⟩=W.cell? ⟨b,o,none⟩:=λo=>hb.cell (p:=⟨b,o,none⟩) h2;exact⟨b,off,h1,Nat.lt_of_lt_of_le h2 hb.size,(e _).trans h3,(e _).trans h4,(e _).trans h5,(e _).trans h6⟩⟩
theorem Ku.Y2{W:World}{base:Nat}{v:Value}{l:List Tk}{n:Nat}(hn:n=l.length)(h:W.ownsRow base 67 4 v n (YX l)):∃oa c,v=.slice oa n c/\Ku W oa n l:=by
 subst hn;rcases DY.Y2 h with⟨h1,h2⟩|⟨b,off,c,h1,h2,h3⟩
 ·subst h2
  exact⟨none,0,h1,rfl,λj t hj=>by cases hj⟩
 ·refine⟨_,c,h1,rfl,λj t hj=>?_⟩
  obtain⟨g0,g1,g2,g3⟩:=h3 j t hj;exact⟨b,off,rfl,h2,g0,g1,g2,g3⟩
open _root_.And renaming intro->wah
set_option maxRecDepth 100000
theorem znb(n:Nat)(hn:1<=n)(s:ByteArray)(hs:s.size<=900)(Bs:Nat)(h1s:1<=Bs)(W:World)(hb:zf W Bs #[.string s] 9)(hT:Tx W):
  TT n prog 90 #[.pointer (some ⟨Bs,0,none⟩)] Ib (Ie Bs) (λ_=>False) (vY s) W:=by
 intro l J Jx hJ hJx hY hJ0;have HY:=hid hY;have HJ:=hid hJ;have hro:Fence.wide.round=none:=rfl;have hfn:Fence.wide.fn 90:=trivial;have hfx:Fence.wide.fn 91:=trivial;have hlt:=hb.lt;obtain⟨W2,hW2⟩:∃X,(W.alloc (.cells #[.int .i64 0,.int .i64 0,.int .i64 0,.bool false] 67)).alloc (.cells #[.int .i64 0,.slice none 0 0,.bool false] 62)=X:=⟨_,rfl⟩;have hB2:Below W.heap.size W W2:=by rw[←hW2];exact KN W _ _
 have KP:zf W2 W.heap.size #[.int .i64 0,.int .i64 0,.int .i64 0,.bool false] 67:=by rw[←hW2];exact(zf.new W _ _).alloc _
 have Ig:zf W2 (W.heap.size+1) #[.int .i64 0,.slice none 0 0,.bool false] 62:=by rw[←hW2];exact kJ W _ _ _
 have hst:Ic s Bs W.heap.size (W.heap.size+1) J W2:=by
  refine⟨⟨0,0,0,false⟩,Lx.zero,none,0,0,[],(λb=>b=W.heap.size\/b=W.heap.size+1),Nat.zero_le _,Nat.zero_le _,Nat.zero_le _,rfl,hb.below hB2,KP,Ig,ug.zero _,.inl rfl,.inr rfl,λg h=>(by cases h),λb h=>?_,hT.b hB2,HJ.out.below hJ0 hB2 (λb h=> .inr (by omega)),λq vs h=>(by cases h)⟩;have:=Ig.lt;omega
 have HST:=hid hst;have hkw:W.heap.size≠Bs/\W.heap.size+1≠Bs/\Bs≠W.heap.size/\Bs≠W.heap.size+1:=by omega
 obtain⟨Bt,hBt⟩:∃z,W.heap.size=z:=⟨_,rfl⟩;have HW2:=hid hW2;rw[hBt]at HST hkw;have QK:=hid hBt;clear hY hJ hJ0 hst hb hW2 hB2 KP Ig hT hlt hBt;refine callsIn_of_wp func90 rfl hfn ?_ hro;simp only[ntmps90,List.size_toArray,List.length_cons,List.length_nil,Nat.reduceAdd,Nat.reduceSub,Array.replicate_succ,Array.replicate_zero,List.push_toArray,List.append_toArray,List.nil_append,List.cons_append]
 gi_wp2
 rw[HW2.out,QK.out]
 gi_loopw [] (λwr=>Ic s Bs Bt (Bt+1) J wr) (λwr=>zm8 s (wr.cell? ⟨Bt,2,none⟩))
 case atStart=>exact HST.out
 case round=>
  obtain⟨t,x,oa,m,c,pre,T,h1,h2,h3,hL,kb,kt,kx,hM,TY,hTx,Vz,jG,KT,hj,hlast⟩:=hrel;have kt0:=kt.cell 2;have ks0:=kb.cell 0;have hBb:Bs<Bt:=(jG Bt TY).1;have zo0:=(jG Bt TY).2;have hBx2:=(jG (Bt+1) hTx).2;by_cases hlt:t.en<s.size
  ·have hi:(t.en:Int)<(s.size:Int):=by omega
   have x0:=kx.cell 0;have x1:=kx.cell 1;have x2:=kx.cell 2;have hnx:=vH wr x oa m c s t.en hlt hs KT hM (by omega) h3;have hok:=Rj x hlt;have hnk:=zc5 x hlt h2 h3;have hlx:=zc3 x hlt;rw[hlx]at hL;generalize hq:xB s t.en x=t2 at hnx hok hnk hL hlx;generalize hy:qY s t.en x=y at hnx hnk hL hlx;clear hq hy hlx;unfold zM xw at hnx;have ZF:=hid ((callsIn_wide (n:=n-1)).2 hnx);have HH:=hid (wah hL (wah hok (wah hnk (wah Vz (wah jG (wah KT (wah hj hlast)))))));have HM:=hid hM;clear hnx hL hok hnk Vz jG KT hj hlast hM
   gi_wp2_with fail
   refine(ZF.out).mono ?_;rintro e w1 ⟨xC,n',c',rfl,hM1,hF1,hg1⟩;obtain⟨hL,hok,hnk,Vz,jG,KT,hj,hlast⟩:=HH.out;have yH:=kb.zh hF1 (λe=>by have:=(Vz _ e).2.2.2;omega);have KU:=kt.zh hF1 (λe=>by have:=(Vz _ e).2.1;omega);have Rn:=kx.zh hF1 (λe=>by have:=(Vz _ e).2.2.1;omega);have DN:∀g,(Value.slice xC n' c').ownBlock=some g->g≠Bt/\g≠Bt+1/\Bs<g:=λg hg=>by
    rcases hg1 g hg with q|q
    ·exact(Vz g q).2
    ·omega
   have hs1:=hF1.size;have zdd:Tx w1:=⟨by omega,λi hi=>(hF1.cell (a:=⟨0,i,none⟩) KT.1 (λe=>by have h:Bs<0:=(Vz 0 e).2.2.2;omega)).trans (KT.2 i hi)⟩;have hj1:J pre T w1:=HJ.out.same hj (hF1.mono (λi _ hh=>(Vz i hh).1));have WT:=hid (wah DN (wah zdd (wah hj1 hs1)));have zt:=hid hM1;have MO:=hid hg1;clear hL hok hnk Vz jG KT hj hlast DN zdd hj1 hs1 hM1 hg1 kb kx kt0 ks0 x0 x1 x2 ZF;have c0:=KU.cell 0;have c1:=KU.cell 1;have c2:=KU.cell 2;have c3:=KU.cell 3;have d0:=KU.frozen 0;have d1:=KU.frozen 1;have d2:=KU.frozen 2;have d3:=KU.frozen 3;have x0:=Rn.cell 0;have x1:=Rn.cell 1;have x2:=Rn.cell 2;have y0:=Rn.frozen 0;have y1:=Rn.frozen 1;have y2:=Rn.frozen 2;have et:=(((KU.set 0 (.int .i64 (t2.kind:Int))).set 1 (.int .i64 (t2.zh:Int))).set 2 (.int .i64 (t2.en:Int))).set 3 (.bool t2.op);have ft:=((et.other 0 (.int .i64 (y.await:Int)) (b':=Bt+1) (by omega)).other 1 (.slice xC n' c') (b':=Bt+1) (by omega)).other 2 (.bool y.body) (b':=Bt+1) (by omega);have ex:=(((Rn.other 0 (.int .i64 (t2.kind:Int)) (b':=Bt) (by omega)).other 1 (.int .i64 (t2.zh:Int)) (b':=Bt) (by omega)).other 2 (.int .i64 (t2.en:Int)) (b':=Bt) (by omega)).other 3 (.bool t2.op) (b':=Bt) (by omega);have fx:=((ex.set 0 (.int .i64 (y.await:Int))).set 1 (.slice xC n' c')).set 2 (.bool y.body);have hF3:zg (λb=>b=Bt\/b=Bt+1) w1 (((((((w1.setCell ⟨Bt,0,none⟩ (.int .i64 (t2.kind:Int))).setCell ⟨Bt,1,none⟩ (.int .i64 (t2.zh:Int))).setCell ⟨Bt,2,none⟩ (.int .i64 (t2.en:Int))).setCell ⟨Bt,3,none⟩ (.bool t2.op)).setCell ⟨Bt+1,0,none⟩ (.int .i64 (y.await:Int))).setCell ⟨Bt+1,1,none⟩ (.slice xC n' c')).setCell ⟨Bt+1,2,none⟩ (.bool y.body)):=
    (((((((zg.refl _ w1).setCell 0 (.inl (.inl rfl)) _).setCell 1 (.inl (.inl rfl)) _).setCell 2 (.inl (.inl rfl)) _).setCell 3 (.inl (.inl rfl)) _).setCell 0 (.inl (.inr rfl)) _).setCell 1 (.inl (.inr rfl)) _).setCell 2 (.inl (.inr rfl)) _
   have fb:=yH.zh hF3 (λe=>by omega);have zx:ug _ (.slice xC n' c') y:=zt.out.zh hF3 (λg hg hh=>by have:=WT.out.1 g hg;omega);have jh:=(hF1.mono (q:=T) (λi _ hh=>(HH.out.2.2.2.1 i hh).1)).trans hF3 (λi _ hh=>by rcases hh with e|e<;>(rw[e];first|exact TY|exact hTx));have hj3:=HJ.out pre T wr _ (λb=>T b\/(Value.slice xC n' c').ownBlock=some b) HH.out.2.2.2.2.2.2.1 jh (λb hb=>hb.elim .inl (λe=>by
    rcases MO.out b e with q|q
    ·exact .inl (HH.out.2.2.2.1 b q).1
    ·exact .inr q))
   have zde:=λb (hb:T b\/(Value.slice xC n' c').ownBlock=some b)=>(show b<_ from hb.elim (λh=>Nat.lt_of_lt_of_le (HH.out.2.2.2.2.1 b h).2 jh.size) (λe=>Nat.lt_of_lt_of_le (zt.out.pos b e).2 hF3.size));obtain⟨fn,tmps,assign,body,hy,hR2⟩:=HY.out pre (t2,y) #[.agg #[.int .i64 (t2.kind:Int),.int .i64 (t2.zh:Int),.int .i64 (t2.en:Int),.bool t2.op],.agg #[.int .i64 (y.await:Int),.slice xC n' c',.bool y.body]] _ (λb=>T b\/(Value.slice xC n' c').ownBlock=some b) _ HH.out.1 hj3 zde ⟨xC,n',c',rfl,zx,λg hg=> .inr hg⟩;have HR2:=hid hR2;clear hR2 zde jh;have znc:=hid kt;clear kt;have HF3:=hid hF3;have zn:=hid zx;have HJ3:=hid hj3;clear zx hj3 et ex hF3
   gi_wp2
   refine HR2.out.mono ?_;rintro e W' ⟨hk3,(⟨rfl,hJ3⟩|⟨rfl,hJx3⟩)⟩
   ·have Ih:zf W' Bt #[.int .i64 (t2.kind:Int),.int .i64 (t2.zh:Int),.int .i64 (t2.en:Int),.bool t2.op] 67:=(hk3.same Bt ft.lt (.inl (.inl TY))).trans ft
    have fx':zf W' (Bt+1) #[.int .i64 (y.await:Int),.slice xC n' c',.bool y.body] 62:=(hk3.same (Bt+1) fx.lt (.inl (.inl hTx))).trans fx;have fb':zf W' Bs #[.string s] 9:=(hk3.same Bs fb.lt (.inr (.inl rfl))).trans fb;have hM':ug W' (.slice xC n' c') y:=zn.out.kpt hk3.size (λg hg=>hk3.same g (zn.out.pos g hg).2 (.inl (.inr hg)));have hz3:=HF3.out.size;have zdf:Tx W':=⟨by have:=hk3.size;have:=WT.out.2.2.2;omega,λi hi=>(World.cell?_of_block (w':=W') (w:=w1) (a:=⟨0,i,none⟩) (show W'.heap[0]?=w1.heap[0]? from(hk3.same 0 (by have:=WT.out.2.1.1;omega) (.inr (.inr rfl))).trans (HF3.out.block 0 WT.out.2.1.1 (λe=>by omega)))).trans (WT.out.2.1.2 i hi)⟩;have hrel':Ic s Bs Bt (Bt+1) J W':=by
     refine⟨t2,y,xC,n',c',pre++ [((t2,y),#[.agg #[.int .i64 (t2.kind:Int),.int .i64 (t2.zh:Int),.int .i64 (t2.en:Int),.bool t2.op],.agg #[.int .i64 (y.await:Int),.slice xC n' c',.bool y.body]])],(λb=>T b\/(Value.slice xC n' c').ownBlock=some b),HH.out.2.1.2.2,HH.out.2.2.1.1,HH.out.2.2.1.2,?_,fb',Ih,fx',hM',.inl TY,.inl hTx,λg hg=>⟨.inr hg,WT.out.1 g hg⟩,λb hb=>?_,zdf,hJ3,λq vs h=>?_⟩
     ·rw[HH.out.1]
      simp
     ·rcases hb with h|h
      ·have:=HH.out.2.2.2.2.1 b h
       have:=hk3.size;have:=WT.out.2.2.2;omega
      ·have:=(WT.out.1 b h).2.2
       have:=(hM'.pos b h).2;omega
     ·rw[List.getLast?_append]at h
      simp at h;obtain⟨h1,h2⟩:=h;subst h1 h2;exact⟨rfl,rfl⟩
    have OY:=hid hrel';have c2':W'.cell? ⟨Bt,2,none⟩=some (.int .i64 (t2.en:Int)):=Ih.cell 2;have HC2:=hid c2';have HKT:=znc;clear hrel' zdf hM' Ih fx' fb' c2'
    gi_wp2
    go_roundw
    case rel=>exact OY.out
    case measure=>
     rw[HC2.out,show wr.cell? ⟨Bt,2,none⟩=some (.int .i64 (t.en:Int))from HKT.out.cell 2];show s.size-t2.en<s.size-t.en;have:=HH.out.2.1.2;omega
   ·gi_wp2
    refine bodyPost_ret (results_none rfl _ _ _) rfl ?_;exact⟨⟨_,rfl⟩,.inr ⟨_,_,hJx3⟩⟩
  ·have hi:¬(t.en:Int)<(s.size:Int):=by omega
   rw[zc4 x hlt,List.append_nil]at hL;have HL:=hid hL;have HH:=hid (wah Vz (wah hlast hM));clear hL Vz hlast hM
   gi_wp2
   go_end0
   refine⟨⟨_,rfl⟩,.inl ⟨pre,HL.out.symm,T,hj,λqt qx vs h=>?_⟩⟩;obtain⟨Vz,hlast,hM⟩:=HH.out;obtain⟨e1,e2⟩:=hlast (qt,qx) vs h;exact⟨oa,m,c,by rw[e1];exact e2,by rw[e1];exact hM,λg hg=>(Vz g hg).1⟩
attribute [local go_sem] Oper.semAt_some
section
variable(w:World)
theorem znd(t:ByteArray):Calls prog 63 #[.string t] w λe w'=>e=.returned (.func (.func 90) #[] #[.pointer (some ⟨w.heap.size,0,none⟩)])/\w'=w.alloc (.cells #[.string t] 9):=by
 go_enter func63,ntmps63;go_wp2;go_ret;exact⟨rfl,rfl⟩
theorem zi5(s:ByteArray)(hs:s.size<=900)(hT:Tx w):
  Calls prog 39 #[.string s] w λe w'=>∃v oa n c,e=.returned (.tuple #[v,zM (Yk (vY s)) (.slice oa n c)])/\w'.ownsRow w.heap.size 67 4 v (vY s).length (YX ((vY s).map Prod.fst))/\ug w' (.slice oa n c) (Yk (vY s))/\Below w.heap.size w w':=by
 have hlen:(vY s).length<=900:=Nat.le_trans (NH s s.size 0 Lx.zero) hs;obtain⟨X,hX⟩:∃X,Yk (vY s)=X:=⟨_,rfl⟩;rw[hX];have HX:=hid hX;clear hX;have jk:=hid (λW=>znd W s);refine(callsIn_wide (n:=5)).1 ?_;have hfn:Fence.wide.fn 39:=trivial;obtain⟨W0,hW0⟩:∃X,((w.alloc (.cells #[.int .i64 0,.slice none 0 0,.bool false] 62)).alloc (.cells #[.slice none 0 0] 59)).alloc (.cells #[.int .i64 0,.slice none 0 0,.bool false] 62)=X:=⟨_,rfl⟩;have Ii:zf W0 w.heap.size #[.int .i64 0,.slice none 0 0,.bool false] 62:=by rw[←hW0];exact((zf.new w _ _).alloc _).alloc _
 have Ij:zf W0 (w.heap.size+1) #[.slice none 0 0] 59:=by rw[←hW0];exact(kJ w _ _ _).alloc _
 have Ik:zf W0 (w.heap.size+1+1) #[.int .i64 0,.slice none 0 0,.bool false] 62:=by rw[←hW0];exact qZ w _ _ _ _
 have hB0:Below w.heap.size w W0:=by rw[←hW0];exact X5 w _ _ _
 have hz0:W0.heap.size=w.heap.size+3:=by rw[←hW0];simp
 refine callsIn_of_wp_marks func39 rfl hfn ?_ rfl;refine(wpIn_wide (n:=5)).2 ?_;simp only[ntmps39,List.size_toArray,List.length_cons,List.length_nil,Nat.reduceAdd,Nat.reduceSub,Array.replicate_succ,Array.replicate_zero,List.push_toArray,List.append_toArray,List.nil_append,List.cons_append]
 go_wp2_with fail
 clear hW0;obtain⟨Br,h6⟩:∃x,w.heap.size=x:=⟨_,rfl⟩;have H6:=hid h6;rw[h6]at Ii Ij Ik hz0 ⊢;clear h6;refine(jk.out _).mono ?_;rintro en W1 ⟨rfl,hW1⟩;have hB1:Below W0.heap.size W0 W1:=by rw[hW1];exact(Below.refl _ _).alloc (Nat.le_refl _) _
 have ks:zf W1 W0.heap.size #[.string s] 9:=by rw[hW1];exact zf.new W0 _ _
 have hz1:W1.heap.size=W0.heap.size+1:=by rw[hW1];simp
 have hBw:Below w.heap.size w W1:=hB0.trans (hB1.mono hB0.size);obtain⟨Bs,hBs⟩:∃z,W0.heap.size=z:=⟨_,rfl⟩;have zne:=hB1;rw[hBs]at ks hz1 hz0 ⊢;have kr:=Ii.below hB1;have ka:=Ij.below hB1;have kl:=Ik.below hB1;have hT1:Tx W1:=(hT.b hB0).b hB1;have hseq:∀W,Below W1.heap.size W1 W->TT (5-1) prog 90 #[.pointer (some ⟨Bs,0,none⟩)] Ib (Ie Bs) (λ_=>False) (vY s) W:=λW hW=>
  znb 4 (by omega) s hs Bs (by have:=hT.1;have:=H6.out;omega) W (ks.below hW) (hT1.b hW)
 have Jo:=hid hseq;have HLEN:=hid hlen;have HB:=hid hBw;have Vp:=hid hT;clear hseq hlen hBw hT hB0 hB1 zne hT1 Ii Ij Ik hW1 hBs ks;have hord:Br<W1.heap.size/\Br+1<W1.heap.size/\Br+1+1<W1.heap.size/\Br<=W1.heap.size/\Bs<W1.heap.size:=by omega
 have hwz:w.heap.size<=W1.heap.size:=by have:=H6.out;omega
 have HZ0:=hid (wah hz0 hz1);clear hz0 hz1;go_wp2;refine(wpIn_wide (n:=5)).1 (zcR (L:=vY s) (E:=Ib) (C:=Ie Bs) (T0:=λ_=>False) (gf:=90) (lb:=#[.pointer (some ⟨Bs,0,none⟩)]) rfl (enters_of func90 (by kernel_rfl) rfl) Jo.out (λb hb=>by rcases hb with e|e<;>omega) (λb hb=>hb.elim) ?hps ?hE
  (Oi w W1.heap.size Br (Br+1) (Br+1+1)) (λ_ _ _ _=>False) (Oi.Ze hord.1 hord.2.1 hord.2.2.1 hwz) (λ_ _ _ _ _ _ h _ _=>h) ?start ?round ?fin ?stop)
 case hps=>
  rintro x T W vs ⟨oa,n,c,rfl,_⟩;rfl
 case hE=>
  rintro x T W W' vs ⟨oa,n,c,rfl,hM,hg⟩ hf ht;exact⟨oa,n,c,rfl,hM.zh hf (λg hgg e=>ht (e▸hg g hgg)),hg⟩
 case start=>
  intro W hB hz;exact⟨.slice none 0 0,none,0,0,ka.below hB,World.ownsRow_nil _ _ _ _,kl.below hB,kr.below hB,(λg hg=>by cases hg),(λb hb=>hb.elim),by omega,HB.out.trans (hB.mono HB.out.size),λ_=>rfl,λq vs h=>by cases h⟩
 case stop=>rintro c pre T W h;exact h.elim
 case fin=>
  rintro kH T W hL ⟨v,oa,n,c,h1,h3,k1,k2,h2,hT,Xy,hB,hq,hz⟩ hlast Vd hWd;rw[hL]at k1;have hM:ug W (.slice oa n c) (Yk (vY s))/\∀g,(Value.slice oa n c).ownBlock=some g->T g:=by
   cases hpl:kH.getLast? with
   |none=>
    have hp0:kH=[]:=List.getLast?_eq_none_iff.1 hpl;rw[hq hp0,←hL,hp0];exact⟨ug.zero W,λg h=>by cases h⟩
   |some qv=>
    obtain⟨q,vs⟩:=qv;obtain⟨xU,n2,c2,e2,hM2,hg2⟩:=hlast q vs hpl;have e3:=hz q vs hpl;rw[e2]at e3;have e4:Value.slice xU n2 c2=.slice oa n c:=by
     have e5:zM q.2 (.slice xU n2 c2)=zM q.2 (.slice oa n c):=by injection e3 with e6;injection e6 with _ e7;injection e7
     unfold zM at e5;injection e5 with e6;injection e6 with e7;injection e7 with _ e8;injection e8
    rw[e4]at hM2 hg2;have e5:Yk (vY s)=q.2:=by
     rw[←hL];unfold Yk;rw[List.getLast?_map,hpl];rfl
    rw[e5];exact⟨hM2,hg2⟩
  have hpl:kH.length=(vY s).length:=by rw[←hL,List.length_map]
  have hpc:(kH.map λp=>p.1.1)=(vY s).map Prod.fst:=by rw[←hL,List.map_map];rfl
  rw[hpl,hpc]at h3;rw[HX.out]at k1 hM;have H3:=hid h3;have HD:=hid hWd;have HMM:=hid hM;have RN:=hid hT;clear h2 h3 hM hT hlast hz hq hL hpl hpc;dsimp only;have c0:=h1.cell 0;have l0:=k1.cell 0;have l1:=k1.cell 1;have l2:=k1.cell 2;have r0:=k2.cell 0;have r1:=k2.cell 1;have r2:=k2.cell 2;have YE:=k2.frozen 0;have YF:=k2.frozen 1;have YG:=k2.frozen 2;go_wp2
  go_region
  all_goals
   go_wp2;obtain⟨hM,Oj⟩:=HMM.out;have kd:=(((k2.set 0 (.int .i64 (X.await:Int))).set 1 (.slice oa n c)).set 2 (.bool X.body)).drew;have hF:zg (λb=>b=Br) W (((W.setCell ⟨Br,0,none⟩ (.int .i64 (X.await:Int))).setCell ⟨Br,1,none⟩ (.slice oa n c)).setCell ⟨Br,2,none⟩ (.bool X.body)).drew:=
    (zg.setCell (p:=λb=>b=Br) (zg.setCell (p:=λb=>b=Br) (zg.setCell (p:=λb=>b=Br) (zg.refl _ W) 0 (.inl rfl) _) 1 (.inl rfl) _) 2 (.inl rfl) _).drew
   obtain⟨W3,hW3⟩:∃Y,(((W.setCell ⟨Br,0,none⟩ (.int .i64 (X.await:Int))).setCell ⟨Br,1,none⟩ (.slice oa n c)).setCell ⟨Br,2,none⟩ (.bool X.body)).drew=Y:=⟨_,rfl⟩;rw[hW3]at kd hF ⊢;clear hW3;have hD3:W3.heap[W1.heap.size]?=some (.deferred (some [])):=(hF.block _ (by omega) (by omega)).trans HD.out;have Il:zf (W3.putObj W1.heap.size (.deferred none)) Br #[.int .i64 (X.await:Int),.slice oa n c,.bool X.body] 62:=(World.putObj_heap_other (by omega)).trans kd;have m0:=Il.cell 0;have m1:=Il.cell 1;have m2:=Il.cell 2;have hFp:zg (λb=>b=W1.heap.size) W3 (W3.putObj W1.heap.size (.deferred none)):=jA W3 _ rfl;have hB3:Below w.heap.size w W3:=hB.trans (hF.below (by omega) (λb hb=>by have:=H6.out;omega));refine⟨by simp,.inl ⟨_,_,rfl,run_takeDeferred hD3,?_⟩⟩;refine⟨.tuple #[v,.agg #[.int .i64 (X.await:Int),.slice oa n c,.bool X.body]],?_,⟨v,oa,n,c,rfl,?_,?_,?_⟩⟩
   ·simp[results,Tryz.f39,go_sem,m0,m1,m2]
   ·have h4:=xq hF H3.out (λg hg e=>by have:=xx H3.out g hg;omega)
    exact dh (xq hFp h4 (λg hg e=>by have:=xx H3.out g hg;omega)) (by omega)
   ·exact(hM.zh hF (λg hg e=>by have:=RN.out g (Oj g hg);omega)).zh hFp (λg hg e=>by have:=RN.out g (Oj g hg);omega)
   ·exact hB3.trans (belowK_b (w:=w) (Nat.le_refl _) W3 W1.heap.size _ _ (by omega) hD3 rfl rfl)
 case round=>
  rintro pre x vs rest T W hLx ⟨v,oa,n,c,h1,h3,k1,k2,h2,hT,Xy,hB,hq,hz⟩ Rh jG Vd hrec hdef t1 t2;obtain⟨xU,n2,c2,rfl,hM,Oj⟩:=Rh;obtain⟨tk,xl⟩:=x;simp only[xw,zM];have Ei:pre.length+1<=900:=by
   have:=HLEN.out;rw[hLx,List.length_append,List.length_cons,List.length_map]at this;omega
  gi_wp2
  obtain⟨W2,hW2⟩:∃Y,(W.alloc (.cells #[.int .i64 (tk.kind:Int),.int .i64 (tk.zh:Int),.int .i64 (tk.en:Int),.bool tk.op] 67)).alloc (.cells #[.int .i64 (xl.await:Int),.slice xU n2 c2,.bool xl.body] 62)=Y:=⟨_,rfl⟩;have hB2:Below W.heap.size W W2:=by rw[←hW2];exact KN W _ _
  have kT:zf W2 W.heap.size #[.int .i64 (tk.kind:Int),.int .i64 (tk.zh:Int),.int .i64 (tk.en:Int),.bool tk.op] 67:=by rw[←hW2];exact(zf.new W _ _).alloc _
  have kX:zf W2 (W.heap.size+1) #[.int .i64 (xl.await:Int),.slice xU n2 c2,.bool xl.body] 62:=by rw[←hW2];exact kJ W _ _ _
  have z2:W2.heap.size=W.heap.size+2:=by rw[←hW2];simp
  rw[hW2];clear hW2;refine⟨hB2.block _ (by omega),(hB2.block _ (by omega)).trans hdef,⟨hB2.size,λb hb _=>hB2.block b hb⟩,λr=>?_⟩;obtain⟨W3,hW3⟩:∃Y,W2.putObj (W1.heap.size+1) (.loop r)=Y:=⟨_,rfl⟩;have z3:W3.heap.size=W.heap.size+2:=by rw[←hW3,←z2];simp
  have hF3:zg (λb=>b=W1.heap.size+1) W W3:=by
   rw[←hW3];exact(zg.of_below hB2).trans (jA (p:=λb=>b=W1.heap.size+1) W2 _ rfl) (λ_ _ h=>h)
  have Ol:zf W3 W.heap.size #[.int .i64 (tk.kind:Int),.int .i64 (tk.zh:Int),.int .i64 (tk.en:Int),.bool tk.op] 67:=by
   rw[←hW3];exact(World.putObj_heap_other (by omega)).trans kT
  have mO:zf W3 (W.heap.size+1) #[.int .i64 (xl.await:Int),.slice xU n2 c2,.bool xl.body] 62:=by
   rw[←hW3];exact(World.putObj_heap_other (by omega)).trans kX
  rw[hW3];clear hW3 kT kX hB2 z2 hrec hdef;have hb3:=h1.zh hF3 (by omega);have hl3:=k1.zh hF3 (by omega);have hr3:=k2.zh hF3 (by omega);have ho3:=xq hF3 h3 (λg hg e=>by have:=xx h3 g hg;omega);have JB:Below w.heap.size w W3:=hB.trans (hF3.below (by omega) (λb hb=>by omega));have hwl:w.heap.size<=W3.heap.size:=JB.size;have bZ:∀g,v.ownBlock=some g->g<W.heap.size:=kK h3;have zdg:∀g,v.ownBlock=some g->W1.heap.size+2<=g:=xx h3;obtain⟨zp,hzp⟩:∃zp,pre.length=zp:=⟨_,rfl⟩;rw[hzp]at ho3 Ei;have H2:=hid h2;have NF:=hid ho3;have dY:=hid bZ;have Kq:=hid zdg;have Qs:=hid hzp;have HR3:=hid hr3;have HB3:=hid hb3;have HL3:=hid hl3;have HKX:=hid mO;have kq:=zf.new W3 #[.int .i64 (tk.kind:Int),.int .i64 (tk.zh:Int),.int .i64 (tk.en:Int),.bool tk.op] 67;rw[z3]at kq;have Ky:=hid kq;clear kq;have zo1:¬Br+1=W.heap.size:=by omega
  have e0:=hb3.cell 0;have ef:=hb3.frozen 0;have u0:=Ol.cell 0;have u1:=Ol.cell 1;have u2:=Ol.cell 2;have u3:=Ol.cell 3;clear h1 h2 h3 hLx ho3 bZ zdg k1 k2 hr3 hzp hq hz Oj hM;have h11:1<=5-1-1:=by omega
  gi_wp2_with (gi_at_builtin;refine zm9 rfl _ _ 59 67 4 32 _ rfl underlying59 zc6 rfl (by omega) (by omega) (W1.heap.size+2) v zp (YX (pre.map λp=>p.1.1)) rfl (NF.out.alloc _) _ 1 (QA tk) rfl (zc9 (x:=tk) Ky.out) rfl (zc8 _) (by omega) (by rw[World.size_alloc];omega) (zp+1) rfl ?_;intro VL c8 W8 JY Zz LH;have b8:=(HB3.out.alloc (.cells #[.int .i64 (tk.kind:Int),.int .i64 (tk.zh:Int),.int .i64 (tk.en:Int),.bool tk.op] 67)).grown Zz (λe=>by have:=Kq.out _ e.symm;omega);have l8:=(HL3.out.alloc (.cells #[.int .i64 (tk.kind:Int),.int .i64 (tk.zh:Int),.int .i64 (tk.en:Int),.bool tk.op] 67)).grown Zz (λe=>by have:=Kq.out _ e.symm;omega);have x8:=(HKX.out.alloc (.cells #[.int .i64 (tk.kind:Int),.int .i64 (tk.zh:Int),.int .i64 (tk.en:Int),.bool tk.op] 67)).grown Zz (λe=>by have:=dY.out _ e.symm;omega);have ef8:=b8.frozen 0;have e8:=b8.cell 0;have p0:=l8.cell 0;have p1:=l8.cell 1;have p2:=l8.cell 2;have pf0:=l8.frozen 0;have pf1:=l8.frozen 1;have pf2:=l8.frozen 2;have s0:=x8.cell 0;have s1:=x8.cell 1;have s2:=x8.cell 2)
  have PR:zg (λb=>v.ownBlock=some b) W3 W8:=((zg.refl (λb=>v.ownBlock=some b) W3).alloc _).grown Zz (λk hk=> .inl hk);have Io:zg (λb=>b=Br+1\/b=Br+1+1) W8 ((((W8.setCell ⟨Br+1,0,none⟩ (.slice VL (zp+1) c8)).setCell ⟨Br+1+1,0,none⟩ (.int .i64 (xl.await:Int))).setCell ⟨Br+1+1,1,none⟩ (.slice xU n2 c2)).setCell ⟨Br+1+1,2,none⟩ (.bool xl.body)):=
   zg.setCell (p:=λb=>b=Br+1\/b=Br+1+1) (zg.setCell (p:=λb=>b=Br+1\/b=Br+1+1) (zg.setCell (p:=λb=>b=Br+1\/b=Br+1+1) (zg.setCell (p:=λb=>b=Br+1\/b=Br+1+1) (zg.refl _ W8) 0 (.inl (.inl rfl)) _) 0 (.inl (.inr rfl)) _) 1 (.inl (.inr rfl)) _) 2 (.inl (.inr rfl)) _
  have k9:=(((b8.set 0 (.slice VL (zp+1) c8)).other 0 (.int .i64 (xl.await:Int)) (b':=Br+1+1) (by omega)).other 1 (.slice xU n2 c2) (b':=Br+1+1) (by omega)).other 2 (.bool xl.body) (b':=Br+1+1) (by omega);have l9:=(((l8.other 0 (.slice VL (zp+1) c8) (b':=Br+1) (by omega)).set 0 (.int .i64 (xl.await:Int))).set 1 (.slice xU n2 c2)).set 2 (.bool xl.body);obtain⟨Wf,hWf⟩:∃Y,(((W8.setCell ⟨Br+1,0,none⟩ (.slice VL (zp+1) c8)).setCell ⟨Br+1+1,0,none⟩ (.int .i64 (xl.await:Int))).setCell ⟨Br+1+1,1,none⟩ (.slice xU n2 c2)).setCell ⟨Br+1+1,2,none⟩ (.bool xl.body)=Y:=⟨_,rfl⟩;rw[hWf]at Io k9 l9 ⊢;clear hWf;have Zj:zg (λb=>v.ownBlock=some b\/b=Br+1\/b=Br+1+1) W3 Wf:=(PR.mono (q:=λb=>v.ownBlock=some b\/b=Br+1\/b=Br+1+1) (λ_ _ h=> .inl h)).trans Io (λ_ _ h=> .inr h);have hno:∀b,b<W1.heap.size+2->b≠Br+1->b≠Br+1+1->¬(v.ownBlock=some b\/b=Br+1\/b=Br+1+1):=λb hb hn hn2 hh=>by
   rcases hh with e|e|e
   ·have:=Kq.out b e;omega
   ·exact hn e
   ·exact hn2 e
  have hs9:=Zj.size;have hzz:=HZ0.out;have Ej:=xq Io JY (λg hg e=>by
   have:=xx JY g hg;omega)
  refine⟨Zj.block _ (by omega) (hno _ (by omega) (by omega) (by omega)),Zj.block _ (by omega) (hno _ (by omega) (by omega) (by omega)),zO.RQ Zj (λb _ hb=>⟨λht=>?_,λhc=>?_⟩),⟨.slice VL (zp+1) c8,xU,n2,c2,k9,?_,?_,HR3.out.zh Zj (hno _ (by omega) (by omega) (by omega)),λg hg ht=>?_,hT,by omega,?_,λh=>by simp at h,λq vs h=>?_⟩⟩
  ·rcases hb with e|e|e
   ·exact H2.out b e ht
   ·have:=hT b ht;omega
   ·have:=hT b ht;omega
  ·rcases hb with e|e|e
   ·have:=Kq.out b e
    rcases hc with q|q<;>omega
   ·rcases hc with q|q<;>omega
   ·rcases hc with q|q<;>omega
  ·rw[List.length_append,Qs.out,List.map_append,zc7]
   simpa[YX]using Ej
  ·rw[List.map_append]
   show zf Wf _ #[.int .i64 ((Yk (pre.map Prod.fst++ [(tk,xl)])).await:Int),_,.bool (Yk (pre.map Prod.fst++ [(tk,xl)])).body] _;rw[zda];exact l9
  ·rcases LH with e|e
   ·exact H2.out g (e.symm.trans hg) ht
   ·rw[e,World.size_alloc]at hg
    injection hg with hg;have:=jG g ht;omega
  ·exact JB.trans (Zj.below hwl (λb hb=>by
    have:=H6.out;rcases hb with e|e|e
    ·have:=Kq.out b e;omega
    ·omega
    ·omega))
  ·rw[List.getLast?_append]at h
   simp at h;obtain⟨h1,h2⟩:=h;subst h1 h2;rfl
end
structure Tz where
 kind:Int
 zh:Int
 en:Int
 op:Bool
structure Lf where
 kind:Int
 text:ByteArray
 zh:Int
 en:Int
def Tk.z(t:Tk):Tz:=⟨t.kind,t.zh,t.en,t.op⟩
def D8(t:Tz):Value:=.agg #[.int .i64 t.kind,.int .i64 t.zh,.int .i64 t.en,.bool t.op]
def KW(s:ByteArray)(t:Tz):Bool:=decide (0<=t.zh)&&(decide (t.zh<=t.en)&& decide (t.en<=(s.size:Int)))
def J4(s:ByteArray)(t:Tz):ByteArray:=if KW s t=true then s.extract t.zh.toNat t.en.toNat else⟨#[]⟩
def WW(k:Int):Bool:=decide (k=2)||(decide (k=4)||(decide (k=5)||decide (k=6)))
def Kt(s:ByteArray)(t:Tz):List Lf:=if WW t.kind=true/\KW s t=true then [⟨t.kind,J4 s t,t.zh,t.en⟩]else []
def uJ(s:ByteArray)(l:List Tz):List Lf:=l.flatMap (Kt s)
theorem zn8(s:ByteArray)(l:List Tz)(t:Tz):uJ s (l++ [t])=uJ s l++Kt s t:=by
 unfold uJ;rw[List.flatMap_append];simp
theorem zn9(s:ByteArray)(t:Tz):(Kt s t).length<=1:=by
 unfold Kt;split
 ·exact Nat.le_refl _
 ·exact Nat.zero_le _
theorem PV(s:ByteArray):∀l:List Tz,(uJ s l).length<=l.length
 | []=>Nat.zero_le _
 |t::l=>by
  have h1:=zn9 s t;have h2:=PV s l;have e:uJ s (t::l)=Kt s t++uJ s l:=by unfold uJ;rw[List.flatMap_cons]
  rw[e,List.length_append,List.length_cons];omega
theorem zdC(s:ByteArray){l:List Tz}{j:Nat}{t:Tz}(h:l[j]?=some t):uJ s (l.take (j+1))=uJ s (l.take j)++Kt s t:=by
 rw[List.take_add_one,h];exact zn8 s _ t
structure Dj(W:World)(oa:Option Addr)(n:Nat)(l:List Tz):Prop where
 len:n=l.length
 cells:∀(j:Nat) t,l[j]?=some t->∃b off,oa=some ⟨b,off,none⟩/\b<W.heap.size/\W.cell? ⟨b,off+j*4,none⟩=some (.int .i64 t.kind)/\W.cell? ⟨b,off+j*4+1,none⟩=some (.int .i64 t.zh)/\W.cell? ⟨b,off+j*4+2,none⟩=some (.int .i64 t.en)/\W.cell? ⟨b,off+j*4+3,none⟩=some (.bool t.op)
theorem Dj.below{W W':World}{oa:Option Addr}{n:Nat}{l:List Tz}(h:Dj W oa n l)(hb:Below W.heap.size W W'):Dj W' oa n l:=
 ⟨h.len,λj d hj=>by
  obtain⟨b,off,h1,h2,h3,h4,h5,h6⟩:=h.cells j d hj;have e:∀o,W'.cell? ⟨b,o,none⟩=W.cell? ⟨b,o,none⟩:=λo=>hb.cell (p:=⟨b,o,none⟩) h2;exact⟨b,off,h1,Nat.lt_of_lt_of_le h2 hb.size,(e _).trans h3,(e _).trans h4,(e _).trans h5,(e _).trans h6⟩⟩
theorem Ku.z{W:World}{oa:Option Addr}{n:Nat}{l:List Tk}(h:Ku W oa n l):Dj W oa n (l.map Tk.z):=
 ⟨by rw[List.length_map];exact h.len,λj t hj=>by
  rw[List.getElem?_map]at hj;obtain⟨u,hu1,hu2⟩:=Option.map_eq_some_iff.1 hj;subst hu2;exact h.cells j u hu1⟩
def QD(x:Lf):List Value:=[.int .i64 x.kind,.string x.text,.int .i64 x.zh,.int .i64 x.en]
def ZH(l:List Lf):List Value:=l.flatMap QD
theorem zdF(l k:List Lf):ZH (l++k)=ZH l++ZH k:=by unfold ZH;rw[List.flatMap_append]
theorem zdD(x:Lf):∀u∈QD x,u.oneCell'=true:=by
 intro u hu;simp[QD]at hu;rcases hu with rfl|rfl|rfl|rfl<;>rfl
theorem zdH:∀(l:List Lf) (j k:Nat) (t:Lf),l[j]?=some t->k<4->(ZH l)[j*4+k]?=(QD t)[k]?
 | [],j,k,t,h,_=>by cases h
 |a::l,0,k,t,h,hk=>by
  cases h;show(QD a++ZH l)[0*4+k]?=_;rw[List.getElem?_append_left (by show 0*4+k<4;omega),Nat.zero_mul,Nat.zero_add]
 |a::l,j+1,k,t,h,hk=>by
  show(QD a++ZH l)[(j+1)*4+k]?=_;rw[List.getElem?_append_right (by show 4<=_;omega),show(j+1)*4+k-(QD a).length=j*4+k from by show(j+1)*4+k-4=_;omega];exact zdH l j k t h hk
structure J3(W:World)(oa:Option Addr)(n:Nat)(l:List Lf):Prop where
 len:n=l.length
 cells:∀(j:Nat) t,l[j]?=some t->∃b off,oa=some ⟨b,off,none⟩/\b<W.heap.size/\W.cell? ⟨b,off+j*4,none⟩=some (.int .i64 t.kind)/\W.cell? ⟨b,off+j*4+1,none⟩=some (.string t.text)/\W.cell? ⟨b,off+j*4+2,none⟩=some (.int .i64 t.zh)/\W.cell? ⟨b,off+j*4+3,none⟩=some (.int .i64 t.en)
theorem J3.below{W W':World}{oa:Option Addr}{n:Nat}{l:List Lf}(h:J3 W oa n l)(hb:Below W.heap.size W W'):J3 W' oa n l:=
 ⟨h.len,λj d hj=>by
  obtain⟨b,off,h1,h2,h3,h4,h5,h6⟩:=h.cells j d hj;have e:∀o,W'.cell? ⟨b,o,none⟩=W.cell? ⟨b,o,none⟩:=λo=>hb.cell (p:=⟨b,o,none⟩) h2;exact⟨b,off,h1,Nat.lt_of_lt_of_le h2 hb.size,(e _).trans h3,(e _).trans h4,(e _).trans h5,(e _).trans h6⟩⟩
theorem J3.Y2{W:World}{base:Nat}{v:Value}{l:List Lf}{n:Nat}(hn:n=l.length)(h:W.ownsRow base 37 4 v n (ZH l)):∃oa c,v=.slice oa n c/\J3 W oa n l:=by
 subst hn;rcases Src.Y2 h with⟨h1,h2,_⟩|⟨b,off,c,h1,h2,h3⟩
 ·have:=List.eq_nil_of_length_eq_zero h2
  subst this;exact⟨none,0,h1,rfl,λj t hj=>by cases hj⟩
 ·refine⟨_,c,h1,rfl,λj t hj=>?_⟩
  have g:=λk hk=>zdH l j k t hj hk;refine⟨b,off,rfl,h2,h3 (j*4) _ (g 0 (by omega)),?_,?_,?_⟩
  ·exact h3 (j*4+1) _ (g 1 (by omega))
  ·exact h3 (j*4+2) _ (g 2 (by omega))
  ·exact h3 (j*4+3) _ (g 3 (by omega))
section
variable(w:World)
theorem zdB(s:ByteArray)(t:Tz):Calls prog 65 #[.string s,D8 t] w λe w'=>e=.returned (.bool (KW s t))/\Below w.heap.size w w':=by
 obtain⟨tk,tf,te,top⟩:=t;unfold D8 KW;dsimp only;have kb:=zf.new w #[.int .i64 tk,.int .i64 tf,.int .i64 te,.bool top] 67;have a1:=kb.cell 1;have a2:=kb.cell 2;have hB:=(Below.refl _ w).alloc (Nat.le_refl _) (.cells #[.int .i64 tk,.int .i64 tf,.int .i64 te,.bool top] 67);by_cases h1:0<=tf
 ·by_cases h2:tf<=te
  ·by_cases h3:te<=(s.size:Int)
   ·go_enter func65,ntmps65
    go_wp2;go_ret;exact⟨by simp[h1,h2,h3],hB⟩
   ·go_enter func65,ntmps65
    go_wp2;go_ret;exact⟨by simp;omega,hB⟩
  ·go_enter func65,ntmps65
   go_wp2;go_ret;exact⟨by simp;omega,hB⟩
 ·go_enter func65,ntmps65
  go_wp2;go_ret;exact⟨by simp;omega,hB⟩
theorem zn4(s:ByteArray)(t:Tz)(hs:s.size<=1000000):Calls prog 66 #[.string s,D8 t] w λe w'=>e=.returned (.string (J4 s t))/\Below w.heap.size w w':=by
 have hst:=λW=>zdB W s t
 cases hin:KW s t with
 |true=>
  have hcl:=λW=>zdc (s.extract t.zh.toNat t.en.toNat) W (by rw[ByteArray.size_extract];omega);rw[hin]at hst;have htx:J4 s t=s.extract t.zh.toNat t.en.toNat:=by unfold J4;rw[if_pos hin]
  rw[htx];unfold KW at hin;simp only[Bool.and_eq_true,decide_eq_true_eq]at hin;obtain⟨q0,q1,q2⟩:=hin;clear htx;obtain⟨tk,tf,te,top⟩:=t;unfold D8 at*;dsimp only at*;obtain⟨a,rfl⟩:=Int.eq_ofNat_of_zero_le q0;obtain⟨b,rfl⟩:=Int.eq_ofNat_of_zero_le (show 0<=te by omega);rw[Int.toNat_natCast,Int.toNat_natCast]at*;have HST:=hid hst;have XK:=hid hcl;have kb:=zf.new w #[.int .i64 tk,.int .i64 (a:Int),.int .i64 (b:Int),.bool top] 67;have hB0:Below w.heap.size w (w.alloc (.cells #[.int .i64 tk,.int .i64 (a:Int),.int .i64 (b:Int),.bool top] 67)):=(Below.refl _ w).alloc (Nat.le_refl _) _;have HB0:=hid hB0;have HKB:=hid kb;clear hst hcl hB0;go_enter func66,ntmps66
  go_wp2_with fail
  refine(HST.out _).mono ?_;rintro e w1 ⟨rfl,hb1⟩;have k1:=HKB.out.below hb1;have a1:=k1.cell 1;have a2:=k1.cell 2
  go_wp2_with fail
  refine(XK.out _).mono ?_;rintro e w2 ⟨rfl,hb2⟩;go_wp2;go_ret;have hz:=HB0.out.size;exact⟨rfl,(HB0.out.trans (hb1.mono hz)).trans (hb2.mono (Nat.le_trans hz hb1.size))⟩
 |false=>
  rw[hin]at hst;have htx:J4 s t=⟨#[]⟩:=by unfold J4;rw[if_neg (by rw[hin];simp)]
  rw[htx];clear htx hin;obtain⟨tk,tf,te,top⟩:=t;unfold D8 at*;have HST:=hid hst;have hB0:Below w.heap.size w (w.alloc (.cells #[.int .i64 tk,.int .i64 tf,.int .i64 te,.bool top] 67)):=(Below.refl _ w).alloc (Nat.le_refl _) _;have HB0:=hid hB0;clear hst hB0;go_enter func66,ntmps66
  go_wp2_with fail
  refine(HST.out _).mono ?_;rintro e w1 ⟨rfl,hb1⟩;go_wp2;go_ret;exact⟨rfl,HB0.out.trans (hb1.mono HB0.out.size)⟩
theorem zn5(k:Int):Calls prog 64 #[.int .i64 k] w λe w'=>e=.returned (.bool (WW k))/\w'=w:=by
 unfold WW;by_cases h4:k=4
 ·subst h4
  go_enter func64,ntmps64;go_wp2;go_ret;exact⟨rfl,rfl⟩
 by_cases h5:k=5
 ·subst h5
  go_enter func64,ntmps64;go_wp2;go_ret;exact⟨rfl,rfl⟩
 by_cases h6:k=6
 ·subst h6
  go_enter func64,ntmps64;go_wp2;go_ret;exact⟨rfl,rfl⟩
 by_cases h2:k=2
 ·subst h2
  go_enter func64,ntmps64;go_wp2;go_ret;exact⟨rfl,rfl⟩
 ·go_enter func64,ntmps64
  go_wp2;go_ret;exact⟨by simp[h2,h4,h5,h6],rfl⟩
end
theorem zdz:(prog.info? 37).map (λi=>(i.zero,i.size,i.bytes))=some (some (.agg #[.int .i64 0,.string ⟨#[]⟩,.int .i64 0,.int .i64 0]),4,40):=by kernel_rfl
theorem zdA{W:World}{b:Nat}{x:Lf}(h:zf W b #[.int .i64 x.kind,.string x.text,.int .i64 x.zh,.int .i64 x.en] 37):Src W (.slice (some ⟨b,0,none⟩) 1 1) 1 (QD x):=by
 refine .inr ⟨_,0,1,rfl,h.lt,λj u hj=>?_⟩;rw[Nat.zero_add,h.cell j];simpa[QD]using hj
theorem zn2(a c d a' c' d':Int)(b b':ByteArray)(w:World):(Op.equalIn 10000 37 (.agg #[.int .i64 a,.string b,.int .i64 c,.int .i64 d]) (.agg #[.int .i64 a',.string b',.int .i64 c',.int .i64 d'])).run prog w=.ok (a==a' &&(decide (b=b')&&(c==c' && d==d'))) w:=by
 have u3:=underlying3;have a3:=isAgg3;have z3:=sizeOf3;have u4:=underlying9;have a4:=isAgg9;have z4:=sizeOf9;have hS:prog.underlying 37=some (.struct (prog.fieldsOf 37)):=by kernel_rfl
 rw[show(10000:Nat)=9999+1 from rfl,run_equalIn_agg w 9999 37 _ _ hS (by kernel_rfl)];simp only[Program.fieldsOf,underlying37]
 go_simp
 rw[←Zv b b'];by_cases h1:a=a'<;>by_cases h2:b.toList=b'.toList<;>by_cases h3:c=c'<;>by_cases h4:d=d'<;>simp[h1,h2,h3,h4]
theorem zn3(a c d a' c' d':Int)(b b':ByteArray)(w:World):(binOp .neq 37 (.agg #[.int .i64 a,.string b,.int .i64 c,.int .i64 d]) (.agg #[.int .i64 a',.string b',.int .i64 c',.int .i64 d'])).run prog w=.ok (.bool (!(a==a' &&(decide (b=b')&&(c==c' && d==d'))))) w:=by
 rw[run_neq_struct,zn2];simp[Result.andThen]
theorem zkc(a c d:Int)(b:ByteArray)(w:World):(binOp .neq 37 (.agg #[.int .i64 a,.string b,.int .i64 c,.int .i64 d]) (.agg #[.int .i64 a,.string b,.int .i64 c,.int .i64 d])).run prog w=.ok (.bool false) w:=by
 rw[zn3];simp
def LvI(s:ByteArray)(l:List Tz)(w:World)(v4 v9:Value)(wr:World):Prop:=
 ∃i:Nat,i<=l.length/\v9=.int .i64 (i:Int)/\wr.ownsRow w.heap.size 37 4 v4 (uJ s (l.take i)).length (ZH (uJ s (l.take i)))/\Below w.heap.size w wr
section
variable(w:World)(s:ByteArray)(l:List Tz)(oa:Option Addr)(n c:Nat)(hR:Dj w oa n l)(hs:s.size<=1000000)(hn:n<=900000)
include hR hs hn
theorem zi6:Calls prog 40 #[.string s,.slice oa n c] w λe w'=>∃v,e=.returned v/\w'.ownsRow w.heap.size 37 4 v (uJ s l).length (ZH (uJ s l))/\Below w.heap.size w w':=by
 have hlen:=hR.len;have HR:=hid hR;have HLEN:=hid hlen;have Vp:=hid (λW t=>zn4 W s t hs);have HST:=hid (λW t=>zdB W s t);clear hR hlen;go_enter func40,ntmps40;go_wp2
 go_loopw [4,9] (λv4 v9 wr=>LvI s l w v4 v9 wr) (λ_ v _=>n-(intOf v).toNat)
 case atStart=>exact⟨0,Nat.zero_le _,rfl,World.ownsRow_nil _ _ _ _,Below.refl _ _⟩
 case round=>
  obtain⟨i,hi,rfl,hown,hBw⟩:=hrel;obtain⟨ov,cv,rfl⟩:=KX hown;have HO:=hid hown;have yg:=hid hBw;have hL:=PV s (l.take i);rw[List.length_take]at hL;by_cases hlt:i<n
  ·have q1:(i:Int)<(n:Int):=by omega
   have q0:(0:Int)<=(i:Int):=by omega
   have hxa:l[i]?=some (l[i]'(by have:=HLEN.out;omega)):=List.getElem?_eq_getElem _;generalize l[i]'(by have:=HLEN.out;omega)=x at hxa;have hstep:=zdC s hxa;obtain⟨g1,o1,rfl,h1,c0,c1,c2,c3⟩:=(HR.out.below hBw).cells i x hxa;have Tj:=hid (λW=>Vp.out W x);have IJ:=hid (λW=>HST.out W x);have hF:Kt s x=if WW x.kind=true/\KW s x=true then [⟨x.kind,J4 s x,x.zh,x.en⟩]else []:=rfl
   rw[hF]at hstep;obtain⟨tk,tf,te,top⟩:=x;unfold D8 at Tj IJ;dsimp only at*;generalize J4 s ⟨tk,tf,te,top⟩=TX at*;obtain⟨z,hz⟩:∃z,(uJ s (l.take i)).length=z:=⟨_,rfl⟩;rw[hz]at HO hL ⊢;have HZ:=hid hz;have YY:=hid hstep;have sZ:i+1<=l.length:=by have:=HLEN.out;omega
   have D9:=hid sZ;have hol:=kK HO.out;have hog:=xx HO.out;have GI:=hid hol;have Ru:=hid hog;have kb:=zf.new wr #[.int .i64 tk,.int .i64 tf,.int .i64 te,.bool top] 67;have hal:=(Below.refl wr.heap.size wr).alloc (Nat.le_refl _) (.cells #[.int .i64 tk,.int .i64 tf,.int .i64 te,.bool top] 67);have Ov:=hid hal;clear hown hxa hF hstep sZ hz hol hog hal
   go_wp2_with fail
   obtain⟨W1,hW1⟩:∃X,wr.alloc (.cells #[.int .i64 tk,.int .i64 tf,.int .i64 te,.bool top] 67)=X:=⟨_,rfl⟩;have hz1:W1.heap.size=wr.heap.size+1:=by rw[←hW1,World.size_alloc]
   rw[hW1]at kb Ov ⊢;have ho1:=uh HO.out Ov.out;have hB1:=yg.out.trans (Ov.out.mono yg.out.size);have QO:=hid ho1;have HB1:=hid hB1;clear hW1 ho1 hB1 Ov HO HR;obtain⟨Bt,hBt⟩:∃z,wr.heap.size=z:=⟨_,rfl⟩;have QK:=hid hBt;rw[hBt]at kb hz1 ⊢;clear hBt;have xn:=kb;refine(zn5 W1 tk).mono ?_;rintro e wl ⟨rfl,rfl⟩;obtain⟨K,hK⟩:∃K,WW tk=K:=⟨_,rfl⟩;obtain⟨I,hI⟩:∃I,KW s ⟨tk,tf,te,top⟩=I:=⟨_,rfl⟩;rw[hK]at YY ⊢;rw[hI]at YY IJ;clear hK hI;have a0:=kb.cell 0;have a1:=kb.cell 1;have a2:=kb.cell 2;have a3:=kb.cell 3;have HKB:=hid kb;have same:(K && I)=false->wl.ownsRow w.heap.size 37 4 (.slice ov z cv) (uJ s (l.take (i+1))).length (ZH (uJ s (l.take (i+1)))):=λh=>by
    have e:¬(K=true/\I=true):=λq=>by rw[q.1,q.2]at h;cases h
    rw[YY.out,if_neg e,List.append_nil,HZ.out];exact QO.out
   have SAME:=hid same;clear same xn kb
   cases K with
   |false=>
    go_wp2
    go_roundw
    case rel=>exact⟨i+1,D9.out,by go_num,SAME.out rfl,HB1.out⟩
    case measure=>simp[intOf];omega
   |true=>
    go_wp2_with fail
    refine(IJ.out _).mono ?_;rintro e w3 ⟨rfl,hb3⟩
    cases I with
    |false=>
     have HB3:=hid hb3;clear hb3;go_wp2
     go_roundw
     case rel=>exact⟨i+1,D9.out,by go_num,uh (SAME.out rfl) HB3.out,HB1.out.trans (HB3.out.mono HB1.out.size)⟩
     case measure=>simp[intOf];omega
    |true=>
     have Yr:=HKB.out.below hb3;have ho3:=uh QO.out hb3;have NF:=hid ho3;have HB3:=hid (HB1.out.trans (hb3.mono HB1.out.size));have zn6:=hid (λW=>(Tj.out W).mono (λe w' (h:e=.returned (.string TX)/\Below W.heap.size W w')=>(⟨_,h.1,rfl,h.2⟩:∃v,e=.returned v/\(v=.string TX/\Below W.heap.size W w'))));have hz3:Bt+1<=w3.heap.size:=by have:=hb3.size;omega
     clear a0 a1 a2 a3 ho3 hb3 HKB;have a1:=Yr.cell 1;have a0:=Yr.cell 0;have a2:=Yr.cell 2;have a3:=Yr.cell 3
     go_upto_region 5 with fail
     have e0:w3.drew.cell? ⟨Bt,0,none⟩=some (.int .i64 tk)/\w3.drew.cell? ⟨Bt,1,none⟩=some (.int .i64 tf)/\w3.drew.cell? ⟨Bt,2,none⟩=some (.int .i64 te)/\w3.drew.cell? ⟨Bt,3,none⟩=some (.bool top):=⟨a0,a1,a2,a3⟩;clear a0 a1 a2 a3
     go_region_held_law (λw'=>w'.cell? ⟨Bt,0,none⟩=some (.int .i64 tk)/\w'.cell? ⟨Bt,1,none⟩=some (.int .i64 tf)/\w'.cell? ⟨Bt,2,none⟩=some (.int .i64 te)/\w'.cell? ⟨Bt,3,none⟩=some (.bool top)) (first|exact e0|exact s4|exact s4a _|exact s9) (first
      |(refine GL (by rfl) func66 (by kernel_rfl) (by kernel_rfl) _ _ (by rfl) [.string s,.agg #[.int .i64 tk,.int .i64 tf,.int .i64 te,.bool top]] (by rfl) _ (zn6.out _) ?_;intro v w4 hh;obtain⟨hv4,hb4⟩:=hh;subst hv4;have X7:=Yr.drew.below hb4;have s4:w4.cell? ⟨Bt,0,none⟩=some (.int .i64 tk)/\w4.cell? ⟨Bt,1,none⟩=some (.int .i64 tf)/\w4.cell? ⟨Bt,2,none⟩=some (.int .i64 te)/\w4.cell? ⟨Bt,3,none⟩=some (.bool top):=⟨X7.cell 0,X7.cell 1,X7.cell 2,X7.cell 3⟩;have s4a:∀o,(w4.alloc o).cell? ⟨Bt,0,none⟩=some (.int .i64 tk)/\(w4.alloc o).cell? ⟨Bt,1,none⟩=some (.int .i64 tf)/\(w4.alloc o).cell? ⟨Bt,2,none⟩=some (.int .i64 te)/\(w4.alloc o).cell? ⟨Bt,3,none⟩=some (.bool top):=λo=>⟨(X7.alloc o).cell 0,(X7.alloc o).cell 1,(X7.alloc o).cell 2,(X7.alloc o).cell 3⟩;have Iy:=uh (MN NF.out) hb4)
      |(refine QE (by rfl) _ _ 22 37 4 40 _ (by rfl) underlying22 zdz rfl (by omega) (by omega) w.heap.size (.slice ov z cv) z (ZH (uJ s (l.take i))) (by rfl) (uh Iy ((Below.refl _ _).alloc (Nat.le_refl _) _)) _ 1 (QD ⟨tk,TX,tf,te⟩) (by rfl) (zdA (x:=⟨tk,TX,tf,te⟩) (zf.new w4 _ _)) rfl (zdD _) (by omega) (by rw[World.size_alloc];have:=HB3.out.size;have:=hb4.size;have e:w3.drew.heap.size=w3.heap.size:=rfl;omega) (z+1) rfl ?_;intro Ya c9 w9 YW KO DW;have ZG:=(X7.alloc (.cells #[.int .i64 tk,.string TX,.int .i64 tf,.int .i64 te] 37)).grown KO (λe=>by have:=QK.out;have:=GI.out _ e.symm;omega);have s9:w9.cell? ⟨Bt,0,none⟩=some (.int .i64 tk)/\w9.cell? ⟨Bt,1,none⟩=some (.int .i64 tf)/\w9.cell? ⟨Bt,2,none⟩=some (.int .i64 te)/\w9.cell? ⟨Bt,3,none⟩=some (.bool top):=⟨ZG.cell 0,ZG.cell 1,ZG.cell 2,ZG.cell 3⟩))
     all_goals
      have Ox:Below w.heap.size w w4:=HB3.out.drew.trans (hb4.mono HB3.out.size);have zdE:Below w.heap.size w w9:=(Ox.alloc Ox.size _).grown KO (by rw[World.size_alloc];have:=Ox.size;omega) (λk hk=>Ru.out k hk);have hown:w9.ownsRow w.heap.size 37 4 (.slice Ya (z+1) c9) (uJ s (l.take (i+1))).length (ZH (uJ s (l.take (i+1)))):=by
       rw[YY.out,if_pos (by simp),zdF,List.length_append,HZ.out];simpa[ZH]using YW
      have HOWN:=hid hown;have IK:=hid zdE;clear hown zdE Ox s9 ZG KO YW Iy s4 s4a X7 hb4 Yr e0;go_wp2
      go_roundw
      case rel=>exact⟨i+1,D9.out,by go_num,HOWN.out,IK.out⟩
      case measure=>simp[intOf];omega
  ·have q1:¬(i:Int)<(n:Int):=by omega
   have hin:i=l.length:=by have:=HLEN.out;omega
   subst hin;rw[List.take_length]at hown;have sW:=hid hown;clear hown HO hL;go_wp2;go_ret;exact⟨_,rfl,sW.out,yg.out⟩
end
end Go.Proofs.YtkolpaonccmgiaaGreatDoor

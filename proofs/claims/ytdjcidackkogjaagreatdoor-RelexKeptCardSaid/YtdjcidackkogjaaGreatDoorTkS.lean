/- What tokens of layer 9 (token) yields: each token  -/
import Derived.Test.YtdjcidackkogjaaGreatDoorLtR
import Derived.Test.YtdjcidackkogjaaGreatDoorTkQ
namespace Go.Proofs.YtdjcidackkogjaaGreatDoor
set_option linter.unusedVariables false
set_option maxHeartbeats 8000000
open Go.RowKit
theorem zbe(s:ByteArray):∀(k a j:Nat) (x:Lx),s.size-a≤k→k≤j→vO s j a x=vO s k a x
 |0,a,0,_,_,_=>rfl
 |0,a,j+1,x,h,_=>by
  show(if a<s.size then _ else _)=_;rw[if_neg (by omega)];rfl
 |k+1,a,0,_,_,h=>by omega
 |k+1,a,j+1,x,h1,h2=>by
  unfold vO;by_cases h:a<s.size
  ·rw[if_pos h,if_pos h]
   have:=(jB x h).2;rw[zbe s k _ j _ (by omega) (by omega)]
  ·rw[if_neg h,if_neg h]
theorem Nh{s:ByteArray}{a:Nat}(x:Lx)(h:a<s.size):vO s (s.size-a) a x=(zo s a x,zy s a x)::vO s (s.size-(zo s a x).en) (zo s a x).en (zy s a x):=by
 have hg:=(jB x h).2;obtain⟨k,hk⟩:∃k,s.size-a=k+1:=⟨s.size-a-1,by omega⟩;rw[hk]
 conv=>lhs;unfold vO
 rw[if_pos h,zbe s _ _ _ _ (Nat.le_refl _) (by omega)]
theorem nY{s:ByteArray}{a:Nat}(x:Lx)(h:¬a<s.size):vO s (s.size-a) a x=[]:=by
 rw[show s.size-a=0 by omega];rfl
theorem zlh(x:Lx)(k:Nat)(op:Bool)(text:ByteArray){a e:Nat}(hp:x.pend.length≤a)(he:a<e)(ha:x.await≤1000):(xG x k op text).pend.length≤e∧(xG x k op text).await≤1000:=by
 have h17:(if jl text=4∨jl text=5 then jl text else 0)≤1000:=by
  generalize jl text=o;split<;>omega
 have hx:x.pend.length≤e:=by omega
 unfold xG;split
 ·split
  ·exact⟨hx,ha⟩
  ·refine⟨?_,ha⟩
   show x.pend.tail.length≤_;rw[List.length_tail];omega
 split
 ·exact⟨hx,ha⟩
 split
 ·exact⟨hx,Nat.zero_le _⟩
 split
 ·exact⟨hx,h17⟩
 split
 ·refine⟨?_,Nat.zero_le _⟩
  show(x.pend++ [_]).length≤_;rw[List.length_append];show x.pend.length+1≤e;omega
 ·exact⟨hx,Nat.zero_le _⟩
theorem OA{s:ByteArray}{a:Nat}(x:Lx)(h:a<s.size)(hp:x.pend.length≤a)(ha:x.await≤1000):(zy s a x).pend.length≤(zo s a x).en∧(zy s a x).await≤1000:=
 zlh x _ _ _ hp (jB x h).2.1 ha
open Go.RowKit Go.Shelf
attribute [local go_sem] Oper.semAt_some
theorem zat:(Tryz.prog.info? 44).map (λi=>(i.zero,i.size,i.bytes))=some (some (.agg #[.int .i64 0,.int .i64 0,.int .i64 0,.bool false]),4,32):=by kernel_rfl
theorem zab{F:Fence}{fn:Nat}{ops:Array Oper}{rest:List Oper}{o:Oper}{a:Act}{w:World}{Q:Exit→Act→World→Prop}(hgd:o.guard=none)(s x:Operand)(t e:TypeId)(k bytes:Nat)(z:Value)
 (ho:o.op=.call {callee:=.builtin .append,args:=#[s,x],argTypes:=#[t,t]})
 (hu:Tryz.prog.underlying t=some (.slice e))(hinfo:(Tryz.prog.info? e).map (λi=>(i.zero,i.size,i.bytes))=some (some z,k,bytes))(Yx:z.cells.size=k)(hk:0<k)(hby:bytes≤1000)
 (base:Nat)(v0:Value)(n0:Nat)(yF:List Value)(hs:a.eval s=v0)(hown:w.ownsRow base e k v0 n0 yF)(v1:Value)(m:Nat)(news:List Value)(hx:a.eval x=v1)(hsrc:Src w v1 m news)(hlen:news.length=m*k)(h1:∀u∈news,u.oneCell'=true)(hl:n0+m≤1000000)(hbase:base≤w.heap.size)(nn:Nat)(hnn:n0+m=nn)
 (h:∀oa c w',w'.ownsRow base e k (.slice oa nn c) nn (yF++news)→w.grownBy w' v0.ownBlock→((Value.slice oa nn c).ownBlock=v0.ownBlock∨(Value.slice oa nn c).ownBlock=some w.heap.size)→wpListIn F fn Tryz.prog ops Q rest (a.put o.dst (.slice oa nn c)) w'):wpListIn F fn Tryz.prog ops Q (o::rest) a w:=by
 refine wpListIn_plain hgd λK hK'=>?_;obtain⟨oa,c,w',hrun,h2,h3,h4⟩:=Eg w t e o.type k bytes z hu hinfo Yx hk hby base v0 n0 yF hown v1 m news hsrc hlen h1 hl hbase nn hnn;unfold Oper.wpIn;refine⟨?_,?_⟩
 ·simp[Oper.about,ho,resolve,Target.leads,Sem.run_pure]
 ·rw[Oper.semAt_plain F _ _ (by rw[ho];intro c hc';cases hc')]
  simp[execOp,ho,resolve,invoke,builtin,hs,hx,hrun,Result.andThen];exact hK' _ _ (h oa c w' h2 h3 h4)
def VO(t:Tk):List Value:=[.int .i64 (t.kind:Int),.int .i64 (t.zf:Int),.int .i64 (t.en:Int),.bool t.op]
def Yb(l:List Tk):List Value:=l.flatMap VO
theorem zli(l k:List Tk):Yb (l++k)=Yb l++Yb k:=by unfold Yb;rw[List.flatMap_append]
theorem zlj(x:Tk):∀u∈VO x,u.oneCell'=true:=by
 intro u hu;simp[VO]at hu;rcases hu with rfl|rfl|rfl|rfl<;>rfl
theorem zlk{W:World}{b:Nat}{x:Tk}(h:zh W b #[.int .i64 (x.kind:Int),.int .i64 (x.zf:Int),.int .i64 (x.en:Int),.bool x.op] 44):Src W (.slice (some ⟨b,0,none⟩) 1 1) 1 (VO x):=by
 refine .inr ⟨_,0,1,rfl,h.lt,λj u hj=>?_⟩;rw[Nat.zero_add,h.cell j];simpa[VO]using hj
def XD(l:List (Tk×Lx)):Lx:=match l.getLast? with
 |some q=>q.2
 |none=>Lx.zero
theorem zll(l:List (Tk×Lx))(q:Tk×Lx):XD (l++ [q])=q.2:=by unfold XD;rw[List.getLast?_append];rfl
theorem zbf(s:ByteArray):∀(k a:Nat) (x:Lx),(vO s k a x).length≤k
 |0,a,x=>Nat.zero_le _
 |k+1,a,x=>by
  unfold vO;split
  ·have:=zbf s k (zo s a x).en (zy s a x)
   rw[List.length_cons];omega
  ·exact Nat.zero_le _
def LgI(w:World)(z Br Ba Bl:Nat)(zq:List ((Tk×Lx)×Array Value))(T:Nat→Prop)(W:World):Prop:=
 ∃v oa n c,zh W Ba #[v] 39∧W.ownsRow (z+2) 44 4 v zq.length (Yb (zq.map λp=>p.1.1))∧zh W Bl #[.int .i64 ((XD (zq.map Prod.fst)).await:Int),.slice oa n c,.bool (XD (zq.map Prod.fst)).body] 50∧
  zh W Br #[.int .i64 0,.slice none 0 0,.bool false] 50∧(∀g,v.ownBlock=some g→¬T g)∧(∀b,T b→z+2≤b)∧z+2≤W.heap.size∧Below w.heap.size w W∧(zq=[]→Value.slice oa n c=.slice none 0 0)∧∀q vs,zq.getLast?=some (q,vs)→vs=#[yJ q.1,zD q.2 (.slice oa n c)]
theorem LgI.Zn{w:World}{z Br Ba Bl:Nat}(hr:Br<z)(hb:Ba<z)(hl:Bl<z)(hw:w.heap.size≤z):XW (z+1) (LgI w z Br Ba Bl):=by
 rintro pre T W W' T' ⟨v,oa,n,c,h1,h3,k1,k2,h2,hT,QW,hB,hq,hz⟩ hf hT';have no:∀b,b<z→¬(T b∨b=z+1):=λb hb hh=>by rcases hh with g|g;have:=hT b g;omega;omega
 refine⟨v,oa,n,c,h1.zf hf (no _ hb),zQ hf h3 (λg hg hh=>?_),k1.zf hf (no _ hl),k2.zf hf (no _ hr),λg hg hh=>?_,λb hb=>?_,?_,?_,hq,hz⟩
 ·rcases hh with e|e
  ·exact h2 g hg e
  ·have:=yH h3 g hg;omega
 ·rcases hT' g hh with e|e
  ·exact h2 g hg e
  ·have:=ji h3 g hg;omega
 ·rcases hT' b hb with e|e
  ·exact hT b e
  ·omega
 ·have:=hf.size;omega
 ·exact hB.trans ((hf.below (n:=w.heap.size) hB.size (λb hh=>by rcases hh with e|e;have:=hT b e;omega;omega)))
def WO(W:World)(v:Value)(l:List Tk):Prop:=
 (v=.slice none 0 0∧l=[])∨∃b off c,v=.slice (some ⟨b,off,none⟩) l.length c∧b<W.heap.size∧∀j t,l[j]?=some t→W.cell? ⟨b,off+j*4,none⟩=some (.int .i64 (t.kind:Int))∧W.cell? ⟨b,off+j*4+1,none⟩=some (.int .i64 (t.zf:Int))∧W.cell? ⟨b,off+j*4+2,none⟩=some (.int .i64 (t.en:Int))∧W.cell? ⟨b,off+j*4+3,none⟩=some (.bool t.op)
theorem zbg:∀(l:List Tk) (j k:Nat) (t:Tk),l[j]?=some t→k<4→(Yb l)[j*4+k]?=(VO t)[k]?
 | [],j,k,t,h,_=>by cases h
 |a::l,0,k,t,h,hk=>by
  cases h;show(VO a++Yb l)[0*4+k]?=_;rw[List.getElem?_append_left (by show 0*4+k<4;omega),Nat.zero_mul,Nat.zero_add]
 |a::l,j+1,k,t,h,hk=>by
  show(VO a++Yb l)[(j+1)*4+k]?=_;rw[List.getElem?_append_right (by show 4≤_;omega),show(j+1)*4+k-(VO a).length=j*4+k from by show(j+1)*4+k-4=_;omega];exact zbg l j k t h hk
theorem WO.uT{W:World}{base:Nat}{v:Value}{l:List Tk}(h:W.ownsRow base 44 4 v l.length (Yb l)):WO W v l:=by
 rcases Src.uT h with⟨h1,h2,_⟩|⟨b,off,c,h1,h2,h3⟩
 ·exact .inl ⟨h1,List.eq_nil_of_length_eq_zero h2⟩
 ·refine .inr ⟨b,off,c,h1,h2,λj t hj=>?_⟩
  have g:=λk hk=>zbg l j k t hj hk;refine⟨h3 (j*4) _ (g 0 (by omega)),?_,?_,?_⟩
  ·exact h3 (j*4+1) _ (g 1 (by omega))
  ·exact h3 (j*4+2) _ (g 2 (by omega))
  ·exact h3 (j*4+3) _ (g 3 (by omega))
theorem WO.below{W W':World}{v:Value}{l:List Tk}(h:WO W v l)(hb:Below W.heap.size W W'):WO W' v l:=by
 rcases h with h|⟨b,off,c,h1,h2,h3⟩
 ·exact .inl h
 ·have e:∀o,W'.cell? ⟨b,o,none⟩=W.cell? ⟨b,o,none⟩:=λo=>hb.cell (p:=⟨b,o,none⟩) h2
  exact .inr ⟨b,off,c,h1,Nat.lt_of_lt_of_le h2 hb.size,λj t hj=>by rw[e,e,e,e];exact h3 j t hj⟩
theorem Ar(s:ByteArray)(w:World)(hlim:s.size≤281474976710656):
  Calls Tryz.prog 33 #[.string s] w λe w'=>e=.returned (.string s)∧Below w.heap.size w w':=by
 go_enter Tryz.func33,Tryz.ntmps33
 go_wp2_with (go_at_call 45;refine(Tryz.stringslite_Clone s _ hlim).mono ?_;rintro e w1 ⟨rfl,hb⟩)
 go_ret;exact⟨rfl,hb⟩
structure ZL(W:World)(oa:Option Addr)(n:Nat)(l:List Tk):Prop where
 len:n=l.length
 cells:∀(j:Nat) t,l[j]?=some t→∃b off,oa=some ⟨b,off,none⟩∧b<W.heap.size∧W.cell? ⟨b,off+j*4,none⟩=some (.int .i64 (t.kind:Int))∧W.cell? ⟨b,off+j*4+1,none⟩=some (.int .i64 (t.zf:Int))∧W.cell? ⟨b,off+j*4+2,none⟩=some (.int .i64 (t.en:Int))∧W.cell? ⟨b,off+j*4+3,none⟩=some (.bool t.op)
theorem ZL.below{W W':World}{oa:Option Addr}{n:Nat}{l:List Tk}(h:ZL W oa n l)(hb:Below W.heap.size W W'):ZL W' oa n l:=
 ⟨h.len,λj d hj=>by
  obtain⟨b,off,h1,h2,h3,h4,h5,h6⟩:=h.cells j d hj;have e:∀o,W'.cell? ⟨b,o,none⟩=W.cell? ⟨b,o,none⟩:=λo=>hb.cell (p:=⟨b,o,none⟩) h2;exact⟨b,off,h1,Nat.lt_of_lt_of_le h2 hb.size,(e _).trans h3,(e _).trans h4,(e _).trans h5,(e _).trans h6⟩⟩
theorem ZL.uT{W:World}{base:Nat}{v:Value}{l:List Tk}{n:Nat}(hn:n=l.length)(h:W.ownsRow base 44 4 v n (Yb l)):∃oa c,v=.slice oa n c∧ZL W oa n l:=by
 subst hn;rcases WO.uT h with⟨h1,h2⟩|⟨b,off,c,h1,h2,h3⟩
 ·subst h2
  exact⟨none,0,h1,rfl,λj t hj=>by cases hj⟩
 ·refine⟨_,c,h1,rfl,λj t hj=>?_⟩
  obtain⟨g0,g1,g2,g3⟩:=h3 j t hj;exact⟨b,off,rfl,h2,g0,g1,g2,g3⟩
theorem zlf(a b c a' b' c':Int)(e e':Bool)(w:World):(Op.equalIn 10000 44 (.agg #[.int .i64 a,.int .i64 b,.int .i64 c,.bool e]) (.agg #[.int .i64 a',.int .i64 b',.int .i64 c',.bool e'])).run Tryz.prog w=.ok (a==a' &&(b==b' &&(c==c' && e==e'))) w:=by
 have u3:=Tryz.underlying3;have a3:=Tryz.isAgg3;have z3:=Tryz.sizeOf3;have u4:=Tryz.underlying4;have a4:=Tryz.isAgg4;have z4:=Tryz.sizeOf4;have hS:Tryz.prog.underlying 44=some (.struct (Tryz.prog.fieldsOf 44)):=by kernel_rfl
 rw[show(10000:Nat)=9999+1 from rfl,run_equalIn_agg w 9999 44 _ _ hS (by kernel_rfl)];simp only[Program.fieldsOf,Tryz.underlying44]
 go_simp
 by_cases h1:a=a'<;>by_cases h2:b=b'<;>by_cases h3:c=c'<;>simp[h1,h2,h3];cases e<;>cases e'<;>rfl
theorem zlg(a b c:Int)(e:Bool)(w:World):(binOp .neq 44 (.agg #[.int .i64 a,.int .i64 b,.int .i64 c,.bool e]) (.agg #[.int .i64 a,.int .i64 b,.int .i64 c,.bool e])).run Tryz.prog w=.ok (.bool false) w:=by
 rw[run_neq_struct,zlf];simp[Result.andThen]
def XP(s:ByteArray)(a i:Nat)(tabs:Bool):Nat:=if tabs=true then xB (λj=>decide (by8 s (a+j)=9)) (i-a)else 0
theorem zlL(s:ByteArray)(a i:Nat)(tabs:Bool):XP s a i tabs≤i-a:=by
 unfold XP;split
 ·exact Yf _ _
 ·exact Nat.zero_le _
theorem zlM(x:ByteArray)(k:Nat):(⟨(x.data.toList.drop k).toArray⟩:ByteArray)=x.extract k x.size:=by
 rw[Lib.extract_eq];congr 2;exact(List.take_of_length_le (by rw[List.length_drop,Lib.size_eq];exact Nat.le_refl _)).symm
theorem zlN{l x:ByteArray}(h:(⟨(Lib.trimSuffix l.data.toList [10]).toArray⟩:ByteArray)=x)(tabs:Bool):dZ l tabs=x.extract (XP x 0 x.size tabs) x.size:=by
 unfold dZ XP
 cases tabs with
 |false=>
  rw[if_neg (by decide),if_neg (by decide),h,ByteArray.extract_zero_size]
 |true=>
  rw[if_pos rfl,if_pos rfl];have hl:Lib.trimSuffix l.data.toList [10]=x.data.toList:=by rw[←h]
  rw[hl,←zlM];congr 2;have hle:=Yf (λj=>decide (by8 x (0+j)=9)) (x.size-0);have hsz:=Lib.size_eq x;refine Lib.trimLeftB_drop _ _ _ (by omega) (λj b hj hb=>?_) (λb hb=>?_)
  ·have:=Yz (λj=>decide (by8 x (0+j)=9)) (z:=x.size-0) hj
   have hjl:j<x.data.toList.length:=by omega
   have e:=gX hjl;rw[List.getElem?_eq_getElem hjl]at hb;injection hb with hb;rw[hb]at e;simp only[Nat.zero_add,decide_eq_true_eq]at this;exact UInt8.toNat_inj.1 (by rw[e,this];rfl)
  ·generalize hk:xB (λj=>decide (by8 x (0+j)=9)) (x.size-0)=k at hb hle
   obtain⟨hjl,hb'⟩:=List.getElem?_eq_some_iff.1 hb;have:=YA (λj=>decide (by8 x (0+j)=9)) (z:=x.size-0) (by omega);rw[hk]at this;have e:=gX hjl;rw[hb']at e;simp only[Nat.zero_add,decide_eq_false_iff_not]at this;intro eb;exact this (by rw[←e,eb];rfl)
theorem zlO{s:ByteArray}{a i:Nat}(h1:a≤i)(h2:i<s.size)(h3:by8 s i=10):(⟨(Lib.trimSuffix (s.extract a (i+1)).data.toList [10]).toArray⟩:ByteArray)=s.extract a i:=by
 have hz:=vk (s:=s) (a:=a) (b:=i+1) (by omega);have e0:(s.extract a (i+1)).extract ((s.extract a (i+1)).size-1) (s.extract a (i+1)).size=(⟨#[10]⟩:ByteArray):=by
  refine LZ ?_ (λj hj=>?_)
  ·rw[ByteArray.size_extract,hz]
   show _=1;omega
  ·rw[ByteArray.size_extract,hz]at hj
   rw[hz];obtain rfl:j=0:=by omega
   rw[ZU _ _ _ _ (by omega) (by omega),ZU _ _ _ _ (by omega) (by omega)];rw[show a+(i+1-a-1+0)=i by omega];exact UInt8.toNat_inj.1 h3
 have:=Lib.trimSuffix_hit (s.extract a (i+1)) ⟨#[10]⟩ (by show 1≤_;omega) (by rw[jW,decide_eq_true_iff];exact e0);rw[show(s.extract a (i+1)).size-(⟨#[10]⟩:ByteArray).size=i-a from by rw[hz];show i+1-a-1=i-a;omega]at this;refine this.trans ?_;rw[ByteArray.extract_extract];congr 1;omega
theorem zlP{s:ByteArray}{a:Nat}(h1:a≤s.size)(h3:a<s.size→by8 s (s.size-1)≠10):(⟨(Lib.trimSuffix (s.extract a s.size).data.toList [10]).toArray⟩:ByteArray)=s.extract a s.size:=by
 have hz:=vk (s:=s) (a:=a) (b:=s.size) (Nat.le_refl _);refine Lib.trimSuffix_miss (s.extract a s.size) ⟨#[10]⟩ ?_;rw[Bool.and_eq_false_iff];by_cases g:a<s.size
 ·right
  rw[jW,decide_eq_false_iff_not];intro e;have hb:by8 ((s.extract a s.size).extract ((s.extract a s.size).size-(⟨#[10]⟩:ByteArray).size) (s.extract a s.size).size) 0=10:=by rw[e];rfl
  rw[show(⟨#[10]⟩:ByteArray).size=1 from rfl,hz,X5 (by omega) (by omega),X5 (Nat.le_refl _) (by omega),show a+(s.size-a-1+0)=s.size-1 by omega]at hb;exact h3 g hb
 ·left
  rw[decide_eq_false_iff_not];show ¬1≤_;omega
theorem zlQ{s:ByteArray}{a i:Nat}(h1:a≤i)(h2:i≤s.size)(tabs:Bool):XP (s.extract a i) 0 (s.extract a i).size tabs=XP s a i tabs:=by
 have hz:=vk (s:=s) (a:=a) (b:=i) h2;unfold XP
 cases tabs with
 |false=>simp only[Bool.false_eq_true,if_false]
 |true=>
  simp only[if_true];rw[hz,Nat.sub_zero];have hle:=Yf (λj=>decide (by8 s (a+j)=9)) (i-a);refine ZT _ hle (λj hj=>?_) (λhj=>?_)
  ·have:=Yz (λj=>decide (by8 s (a+j)=9)) (z:=i-a) hj
   rw[Nat.zero_add,X5 h2 (by omega)];exact this
  ·have:=YA (λj=>decide (by8 s (a+j)=9)) (z:=i-a) hj
   rw[Nat.zero_add,X5 h2 (by omega)];exact this
theorem zlG{s:ByteArray}{a i:Nat}(h1:a≤i)(h2:i≤s.size)(hi:yO s a=i)(h0:a<s.size)(d:Dl):Z9 (s.extract a (zG s a)) d=decide (s.extract (a+XP s a i d.tabs) i=d.word):=by
 have hx:(⟨(Lib.trimSuffix (s.extract a (zG s a)).data.toList [10]).toArray⟩:ByteArray)=s.extract a i:=by
  unfold zG;rw[hi];by_cases g:i<s.size
  ·rw[if_pos g]
   exact zlO h1 g (by have:=dY (s:=s) (a:=a) (by omega);rwa [hi]at this)
  ·rw[if_neg g]
   obtain rfl:i=s.size:=by omega
   exact zlP h1 (λg=>N7 (a:=a) (by omega) (by omega))
 unfold Z9;rw[zlN hx,zlQ h1 h2];have hz:=vk (s:=s) (a:=a) (b:=i) h2;have ht:=zlL s a i d.tabs;rw[hz,ByteArray.extract_extract];congr 2;congr 1;omega
theorem zlR{s:ByteArray}{a:Nat}(h:yC s a≠0):jl (s.extract a (a+(txt (yC s a)).size))=yC s a:=by
 rw[(iJ h).2,zf4 (mZ h)]
end Go.Proofs.YtdjcidackkogjaaGreatDoor

/- What itself and quotes of layer 8 (literal) return -/
import Derived.Test.YtdjcidackkogjaaGreatDoorLtP
import Derived.Shelf.RegionOpen
import Derived.Maps.OwnIn
namespace Go.Proofs.YtdjcidackkogjaaGreatDoor
set_option linter.unusedSectionVars false
set_option linter.unusedVariables false
open Lib(hid)
set_option maxHeartbeats 8000000
set_option maxRecDepth 100000
open Go.RowKit
def ItP(o:Option ByteArray)(e:Ending):Prop:=∃X b,e=.returned (.tuple #[.string X,.bool b])∧o=(if b=true then some X else none)
section
variable(w:World)
theorem zb7(s:ByteArray)(mb:Nat)(m f t:Nat)(up:Int)(op zk:Bool)(h1:f<t)(h2:t≤s.size)(hs:s.size≤1000000)(h13:m=13→t=f+1∨t=f+2):
  Calls Tryz.prog 152 #[.agg #[.string s,.map (some mb)],.agg #[.int .i64 (m:Int),.int .i64 (f:Int),.int .i64 (t:Int),.int .i64 up,.bool op],.bool zk] w λe w'=>ItP (yf s ⟨m,f,t,up,op⟩ zk) e∧Below w.heap.size w w':=by
 have hw2:Below w.heap.size w ((w.alloc (.cells #[.string s,.map (some mb)] 192)).alloc (.cells #[.int .i64 (m:Int),.int .i64 (f:Int),.int .i64 (t:Int),.int .i64 up,.bool op] 142)):=((Below.refl _ _).alloc (Nat.le_refl _) _).alloc (by simp) _;obtain⟨X,hX⟩:∃X,s.extract f t=X:=⟨_,rfl⟩;have qY:X.size=t-f:=by rw[←hX];simp;omega
 by_cases m14:m=14
 ·subst m14
  have he:yf s ⟨14,f,t,up,op⟩ zk=some X:=by unfold yf;dsimp only;rw[if_pos rfl];exact congrArg some hX
  have HE:=hid he;clear he qY;go_enter Tryz.func152,Tryz.ntmps152;go_wp2;go_ret2;exact⟨⟨X,true,rfl,HE.out⟩,hw2⟩
 by_cases m12:m=12
 ·subst m12
  by_cases ht:t=f+1
  ·have he:yf s ⟨12,f,t,up,op⟩ zk=some X:=by unfold yf;dsimp only;rw[if_neg (by decide),if_pos rfl,if_pos ht];exact congrArg some hX
   have HE:=hid he;have hz:X.size=1:=by omega
   clear he qY ht;go_enter Tryz.func152,Tryz.ntmps152;go_wp2;go_ret2;exact⟨⟨X,true,rfl,HE.out⟩,hw2⟩
  ·have he:yf s ⟨12,f,t,up,op⟩ zk=none:=by unfold yf;dsimp only;rw[if_neg (by decide),if_pos rfl,if_neg ht]
   have HE:=hid he;have hz:((X.size:Int)==1)=false:=beq_eq_false_iff_ne.2 (by omega);clear he qY ht;go_enter Tryz.func152,Tryz.ntmps152;go_wp2;go_ret2;exact⟨⟨X,false,rfl,HE.out⟩,hw2⟩
 by_cases m13:m=13
 ·subst m13
  rcases h13 rfl with ht|ht
  ·have he:yf s ⟨13,f,t,up,op⟩ zk=some ByteArray.empty:=by unfold yf;dsimp only;rw[if_neg (by decide),if_neg (by decide),if_pos rfl,if_pos (.inl ht)]
   have HE:=hid he;have hz:X.size=1:=by omega
   clear he qY ht;go_enter Tryz.func152,Tryz.ntmps152;go_wp2;go_ret2;exact⟨⟨ByteArray.empty,true,rfl,HE.out⟩,hw2⟩
  ·obtain⟨b,hb⟩:∃b,by8 s (f+1)=b:=⟨_,rfl⟩
   have hz:X.size=2:=by omega
   have hX1:∀h:1<X.size,(X[1]'h).toNat=b:=by
    intro h;rw[←hb];subst hX;unfold by8;rw[yx (by omega)];first|rfl|simp[ByteArray.getElem_extract]
   have hX2:X.extract 1 2=s.extract (f+1) t:=by rw[←hX,ht];simp[ByteArray.extract_extract]
   obtain⟨Y,hY⟩:∃Y,s.extract (f+1) t=Y:=⟨_,rfl⟩;rw[hY]at hX2;have hbl:b<256:=hb▸QE s _;by_cases b10:b=10
   ·have he:yf s ⟨13,f,t,up,op⟩ zk=some ByteArray.empty:=by unfold yf;dsimp only;rw[if_neg (by decide),if_neg (by decide),if_pos rfl,if_pos (.inr (hb.trans b10))]
    have HE:=hid he;subst b10;clear he qY ht hb hY hX2;go_enter Tryz.func152,Tryz.ntmps152;go_wp2;go_ret2;exact⟨⟨ByteArray.empty,true,rfl,HE.out⟩,hw2⟩
   ·have Gn:((b:Int)==10)=false:=beq_eq_false_iff_ne.2 (by omega)
    have hor:¬(t=f+1∨by8 s (f+1)=10):=by omega
    cases zk with
    |false=>
     have he:yf s ⟨13,f,t,up,op⟩ false=none:=by unfold yf;dsimp only;rw[if_neg (by decide),if_neg (by decide),if_pos rfl,if_neg hor,if_pos rfl]
     have HE:=hid he;clear he qY ht hb hY hX2 hor;go_enter Tryz.func152,Tryz.ntmps152;go_wp2;go_ret2;exact⟨⟨ByteArray.empty,false,rfl,HE.out⟩,hw2⟩
    |true=>
     have hin:∀b,b<256→(inB b ⟨#[36,96,34,92]⟩=true↔(b=36∨b=96∨b=34∨b=92)):=by decide+kernel
     by_cases hq:b=36∨b=96∨b=34∨b=92
     ·have he:yf s ⟨13,f,t,up,op⟩ true=some Y:=by
       unfold yf;dsimp only;rw[if_neg (by decide),if_neg (by decide),if_pos rfl,if_neg hor,if_neg (by decide)];simp only[hb];rw[if_pos hq];exact congrArg some hY
      have HE:=hid he;have ug:=hid ((hin b hbl).2 hq);clear he qY ht hb hY hor hin hq;go_enter Tryz.func152,Tryz.ntmps152
      go_wp2_with fail
      refine(QF _ b hbl _).mono ?_;rintro e w3 ⟨⟨x,rfl,hx⟩,rfl⟩;have hx0:(0:Int)≤x:=by rw[ug.out]at hx;simpa using hx
      clear hx;go_wp2;go_ret2;exact⟨⟨Y,true,rfl,HE.out⟩,hw2⟩
     ·have he:yf s ⟨13,f,t,up,op⟩ true=some X:=by
       unfold yf;dsimp only;rw[if_neg (by decide),if_neg (by decide),if_pos rfl,if_neg hor,if_neg (by decide)];simp only[hb];rw[if_neg hq];exact congrArg some hX
      have HE:=hid he;have ug:=hid (λh=>hq ((hin b hbl).1 h));clear he qY ht hb hY hor hin hq;go_enter Tryz.func152,Tryz.ntmps152
      go_wp2_with fail
      refine(QF _ b hbl _).mono ?_;rintro e w3 ⟨⟨x,rfl,hx⟩,rfl⟩;have hx0:¬(0:Int)≤x:=λh=>ug.out (by rw[←hx];simpa using h);clear hx;go_wp2;go_ret2;exact⟨⟨X,true,rfl,HE.out⟩,hw2⟩
 have he:yf s ⟨m,f,t,up,op⟩ zk=none:=by unfold yf;dsimp only;rw[if_neg m14,if_neg m12,if_neg m13]
 have HE:=hid he;have t14:((m:Int)==14)=false:=beq_eq_false_iff_ne.2 (by omega);have t12:((m:Int)==12)=false:=beq_eq_false_iff_ne.2 (by omega);have t13:((m:Int)==13)=false:=beq_eq_false_iff_ne.2 (by omega);clear he qY;go_enter Tryz.func152,Tryz.ntmps152;go_wp2;go_ret2;exact⟨⟨ByteArray.empty,false,rfl,HE.out⟩,hw2⟩
end
open Go.RowKit Go.Shelf
attribute [local go_sem] Oper.semAt_some
def Za(x:Pc):Array Value:=#[Gp x]
theorem zg.id{p:Nat→Prop}(W:World):zg p W W:=zg.refl p W
theorem Yg.same{β:Type}{J:β→(Nat→Prop)→World→Prop}(hJ:Yg J){s:β}{T:Nat→Prop}{W W':World}(h:J s T W)(hf:zg T W W'):J s T W':=hJ s T W W' T h hf (λ_ h=> .inl h)
theorem Yg.below{β:Type}{J:β→(Nat→Prop)→World→Prop}(hJ:Yg J){s:β}{T T':Nat→Prop}{W W':World}(h:J s T W)(hf:Below W.heap.size W W')(ht:∀b,T' b→T b∨W.heap.size≤b):J s T' W':=hJ s T W W' T' h (zg.of_below hf) ht
theorem Es(n:Nat)(oa:Option Addr)(m c:Nat)(w:World):
  CallsIn Fence.wide n Tryz.prog 175 #[.slice oa m c] w λe w'=>e=.returned (.func (.func 185) #[] #[.pointer (some ⟨w.heap.size,0,none⟩)])∧w'=w.alloc (.cells #[.slice oa m c] 130):=by
 have hro:Fence.wide.round=none:=rfl;refine callsIn_of_wp Tryz.func175 rfl trivial ?_ hro;simp only[Tryz.ntmps175,List.size_toArray,List.length_cons,List.length_nil,Nat.reduceAdd,Nat.reduceSub,Array.replicate_succ,Array.replicate_zero,List.push_toArray,List.append_toArray,List.nil_append,List.cons_append]
 gi_wp2
 go_ret;exact⟨rfl,rfl⟩
def zb8(J:List Pc→(Nat→Prop)→World→Prop)(x:Pc)(W:World)(v7:Value)(wr:World):Prop:=
 (v7=.int .i64 0∧wr=W)∨(v7=.int .i64 1∧∃T,J [x] T wr)
theorem zb9(n:Nat)(hn:1≤n)(Bx g cap:Nat)(x:Pc)(cs:Array Value)(W:World)(hb:zh W Bx #[.slice (some ⟨g,0,none⟩) 1 cap] 130)(hg:zh W g cs 133)
 (h0:cs[0]?=some (.bool x.ex))(h1:cs[1]?=some (.bool x.q))(h2:cs[2]?=some (.string x.t)):
  YB n Tryz.prog 185 #[.pointer (some ⟨Bx,0,none⟩)] Za (λ_=>False) [x] W:=by
 intro l J Jx hJ hJx hY hJ0;have hbc:=hb.cell 0;have c0:=(hg.cell 0).trans h0;have c1:=(hg.cell 1).trans h1;have c2:=(hg.cell 2).trans h2;have HY:=hid hY;have HJ:=hid hJ;have DJ:=hid hJx;have WX:=hid hJ0;have hro:Fence.wide.round=none:=rfl;have hfn:Fence.wide.fn 185:=trivial;clear hY hJ hJx hb hg h0 h1 h2 hJ0;refine callsIn_of_wp Tryz.func185 rfl hfn ?_ hro;simp only[Tryz.ntmps185,List.size_toArray,List.length_cons,List.length_nil,Nat.reduceAdd,Nat.reduceSub,Array.replicate_succ,Array.replicate_zero,List.push_toArray,List.append_toArray,List.nil_append,List.cons_append]
 gi_wp2
 gi_loopw [7] (λv7 wr=>zb8 J x W v7 wr) (λv _=>1-(intOf v).toNat)
 case atStart=>exact .inl ⟨rfl,rfl⟩
 case round=>
  rcases hrel with⟨rfl,rfl⟩|⟨rfl,T,hj⟩
  ·have hja:=HJ.out.same WX.out (zg.of_below (p:=λ_=>False) ((Below.refl _ wr).alloc (Nat.le_refl _) (.cells #[.bool x.ex,.bool x.q,.string x.t] 133)))
   obtain⟨fn,tmps,assign,body,hy,hR⟩:=HY.out [] x [] _ _ rfl hja (λ_ h=>h.elim);dsimp only[Za,Gp]at hy
   gi_wp2
   refine hR.mono ?_;rintro e W' ⟨hk3,(⟨rfl,hJ3⟩|⟨rfl,hJx3⟩)⟩
   ·gi_wp2
    go_roundw
    case rel=>exact .inr ⟨rfl,_,hJ3⟩
    case measure=>simp[intOf]
   ·gi_wp2
    refine bodyPost_ret (results_none rfl _ _ _) rfl ?_;exact⟨⟨_,rfl⟩,.inr ⟨_,_,hJx3⟩⟩
  ·gi_wp2
   go_end0
   exact⟨⟨_,rfl⟩,.inl ⟨T,hj⟩⟩
def JF(m f t up:Int)(op:Bool):DataW Unit:=.agg [.lit (.int .i64 m),.lit (.int .i64 f),.lit (.int .i64 t),.lit (.int .i64 up),.lit (.bool op)]
def Et(p:zJ):DataW Unit:=JF p.mode p.zf p.to p.up p.op
def Gq(v:Value):Option (DataW Unit×List MemPlace):=
 match v with
 | .agg ⟨[.int .i64 m,.int .i64 f,.int .i64 t,.int .i64 up,.bool op]⟩=>some (JF m f t up op,[])
 |_=>none
theorem Eu{v:Value}{m f t up:Int}{op:Bool}{ps:List MemPlace}(h:Gq v=some (JF m f t up op,ps)):v=.agg #[.int .i64 m,.int .i64 f,.int .i64 t,.int .i64 up,.bool op]:=by
 unfold Gq at h;split at h
 ·simp[JF]at h
  obtain⟨⟨rfl,rfl,rfl,rfl,rfl⟩,_⟩:=h;rfl
 ·cases h
def XU(a:Nat):Lit:=.int .i64 (a:Int)
def qc(W:World)(mb:Nat)(k:Nat)(q:Nat→Option zJ):Prop:=
 ∃D:DataW Unit,W.ownsMap Tryz.prog 3 Gq mb k D∧Maps.IsMap D∧∀a:Nat,Maps.has D (XU a)=(q a).isSome∧D.atKey (XU a) (JF 0 0 0 0 false)=match q a with
  |some p=>Et p
  |none=>JF 0 0 0 0 false
theorem qc.same{W W':World}{mb k:Nat}{q:Nat→Option zJ}(h:qc W mb k q)(hb:W'.heap[mb]?=W.heap[mb]?):qc W' mb k q:=by
 obtain⟨D,⟨es,clock,h1,h2⟩,h3⟩:=h;exact⟨D,⟨es,clock,hb.trans h1,h2⟩,h3⟩
theorem qc.lt{W:World}{mb k:Nat}{q:Nat→Option zJ}(h:qc W mb k q):mb<W.heap.size:=by
 obtain⟨D,⟨es,clock,h1,h2⟩,h3⟩:=h;exact(Array.getElem?_eq_some_iff.1 h1).1
theorem qc.made(w:World):qc (w.alloc (.map #[] 0)) w.heap.size 0 (λ_=>none):=
 ⟨.map [],World.ownsMap_made w _ _ _,⟨[],rfl⟩,λa=>⟨rfl,rfl⟩⟩
theorem qc.ext{W:World}{mb k:Nat}{q r:Nat→Option zJ}(h:qc W mb k q)(hq:∀a,q a=r a):qc W mb k r:=by
 obtain rfl:q=r:=funext hq;exact h
theorem Ew(a:Nat)(ha:a≤1000000):keyOf Tryz.prog 3 (.int .i64 (a:Int))=some (XU a):=
 Maps.keyOf_int_mk Tryz.underlying3 (by have h1:IntKind.i64.min= -9223372036854775808:=rfl;have h2:IntKind.i64.max=9223372036854775807:=rfl;simp only[Lit.wf,h1,h2];simp;omega)
def qB(s:ByteArray)(k a:Nat):Option zJ:=if a<k∧born s a=true then some (prt s a)else none
def JG(W:World)(mb:Nat)(s:ByteArray):Prop:=∃k,qc W mb k (qB s s.size)
theorem zca{ops:Array Oper}{rest:List Oper}{o:Oper}{a:Act}{Q:Exit→Act→World→Prop}{w:World}(hg:o.guard=none)(m x v:Operand)(hop:o.op=Op.mapUpdate 190 m x v)
 {mb k:Nat}{q:Nat→Option zJ}(hm:a.eval m=.map (some mb))(hown:qc w mb k q)(hk:k≤1000000)(p:zJ)(hx:a.eval x=.int .i64 (p.zf:Int))(hp:p.zf≤1000000)(hv:a.eval v=.agg #[.int .i64 (p.mode:Int),.int .i64 (p.zf:Int),.int .i64 (p.to:Int),.int .i64 p.up,.bool p.op])
 (hK:∀w',qc w' mb (k+1) (λb=>if b=p.zf then some p else q b)→w.grownBy w' (some mb)→wpList Tryz.prog ops Q rest (a.put o.dst undef) w'):
  wpList Tryz.prog ops Q (o::rest) a w:=by
 obtain⟨D,h1,h2,h3⟩:=hown;refine wpList_mapUpdate_own w hg m x v 190 hop 3 142 (Maps.int_keyed Tryz.underlying3) Tryz.underlying190 Gq mb k D hm h1 (by unfold maxLen;omega) _ _ (XU p.zf) hx hv (Ew _ hp) (Et p) [] rfl ?_;intro w' hw hgr;have hkl:WideAt.IsKeyLit (XU p.zf):=by unfold XU;exact trivial
 refine hK w' ⟨_,hw,?_,λb=>?_⟩ hgr
 ·obtain⟨es,rfl⟩:=h2
  exact⟨_,rfl⟩
 ·by_cases e:b=p.zf
  ·subst e
   rw[Maps.has_put_same h2 hkl,Maps.atKey_put_same h2 hkl];simp
  ·have hne:XU b≠XU p.zf:=by
    unfold XU;intro h;injection h with _ h;omega
   rw[Maps.has_put_other hne,Maps.atKey_put_other hne];simp only[if_neg e];exact h3 b
theorem Ey{ops:Array Oper}{rest:List Oper}{o:Oper}{a:Act}{Q:Exit→Act→World→Prop}{w:World}(hg:o.guard=none)(m x:Operand)(hop:o.op=Op.lookup 190 m x true)
 {mb k:Nat}{q:Nat→Option zJ}(hm:a.eval m=.map (some mb))(hown:qc w mb k q)(b:Nat)(hx:a.eval x=.int .i64 (b:Int))(hb:b≤1000000)
 (hS:∀p,q b=some p→wpList Tryz.prog ops Q rest (a.put o.dst (.tuple #[.agg #[.int .i64 (p.mode:Int),.int .i64 (p.zf:Int),.int .i64 (p.to:Int),.int .i64 p.up,.bool p.op],.bool true])) w)
 (hN:q b=none→wpList Tryz.prog ops Q rest (a.put o.dst (.tuple #[.agg #[.int .i64 0,.int .i64 0,.int .i64 0,.int .i64 0,.bool false],.bool false])) w):
  wpList Tryz.prog ops Q (o::rest) a w:=by
 obtain⟨D,h1,h2,h3⟩:=hown;refine wpList_lookup_own_ok w hg m x 190 hop 3 142 (Maps.int_keyed Tryz.underlying3) Tryz.underlying190 Gq (z:=.agg #[.int .i64 0,.int .i64 0,.int .i64 0,.int .i64 0,.bool false]) (Tryz.zeroValue142 w) (JF 0 0 0 0 false) [] rfl mb k D hm h1 _ (XU b) hx (Ew _ hb) ?_;intro v ps hv;obtain⟨g1,g2⟩:=h3 b;rw[g2]at hv;rw[g1]
 cases hq:q b with
 |none=>
  rw[hq]at hv;rw[Eu hv];exact hN hq
 |some p=>
  rw[hq]at hv;rw[Eu (show Gq v=some (JF p.mode p.zf p.to p.up p.op,ps)from hv)];exact hS p hq
theorem zcb{ops:Array Oper}{rest:List Oper}{o:Oper}{a:Act}{Q:Exit→Act→World→Prop}{w:World}(hg:o.guard=none)(m x:Operand)(hop:o.op=Op.lookup 190 m x true)
 {mb:Nat}{s:ByteArray}(hm:a.eval m=.map (some mb))(hown:JG w mb s)(b md f t:Nat)(up:Int)(op:Bool)(hx:a.eval x=.int .i64 (b:Int))(hb:b≤1000000)(hq:Hid (b<s.size∧born s b=true∧prt s b=⟨md,f,t,up,op⟩))
 (hS:wpList Tryz.prog ops Q rest (a.put o.dst (.tuple #[.agg #[.int .i64 (md:Int),.int .i64 (f:Int),.int .i64 (t:Int),.int .i64 up,.bool op],.bool true])) w):
  wpList Tryz.prog ops Q (o::rest) a w:=by
 obtain⟨k,hk⟩:=hown;have e:qB s s.size b=some ⟨md,f,t,up,op⟩:=by unfold qB;rw[if_pos ⟨hq.out.1,hq.out.2.1⟩,hq.out.2.2]
 refine Ey hg m x hop hm hk b hx hb (λp hp=>?_) (λhn=>by rw[e]at hn;cases hn);rw[e]at hp;cases hp;exact hS
theorem zcc{ops:Array Oper}{rest:List Oper}{o:Oper}{a:Act}{Q:Exit→Act→World→Prop}{w:World}(hg:o.guard=none)(m x:Operand)(hop:o.op=Op.lookup 190 m x true)
 {mb:Nat}{s:ByteArray}(hm:a.eval m=.map (some mb))(hown:JG w mb s)(b:Nat)(hx:a.eval x=.int .i64 (b:Int))(hb:b≤1000000)(hq:Hid (born s b=false))
 (hS:wpList Tryz.prog ops Q rest (a.put o.dst (.tuple #[.agg #[.int .i64 0,.int .i64 0,.int .i64 0,.int .i64 0,.bool false],.bool false])) w):
  wpList Tryz.prog ops Q (o::rest) a w:=by
 obtain⟨k,hk⟩:=hown;have e:qB s s.size b=none:=by unfold qB;rw[if_neg (by rw[hq.out];simp)]
 exact Ey hg m x hop hm hk b hx hb (λp hp=>by rw[e]at hp;cases hp) (λ_=>hS)
attribute [local go_sem] Oper.semAt_some
structure Cap(W:World)(Bd Bt Br mb:Nat)(s:ByteArray)(zk:Bool)(e:Nat):Prop where
 d:zh W Bd #[.bool zk] 4
 t:zh W Bt #[.int .i64 (e:Int)] 3
 r:zh W Br #[.string s,.map (some mb)] 192
 m:JG W mb s
def jE(Bd Bt Br mb:Nat)(b:Nat):Prop:=b=Bd∨b=Bt∨b=Br∨b=mb
theorem Cap.same{W W':World}{Bd Bt Br mb:Nat}{s:ByteArray}{zk:Bool}{e:Nat}(h:Cap W Bd Bt Br mb s zk e)(hb:∀b,jE Bd Bt Br mb b→W'.heap[b]?=W.heap[b]?):Cap W' Bd Bt Br mb s zk e:=
 ⟨(hb Bd (.inl rfl)).trans h.d,(hb Bt (.inr (.inl rfl))).trans h.t,(hb Br (.inr (.inr (.inl rfl)))).trans h.r,by obtain⟨k,hk⟩:=h.m;exact⟨k,hk.same (hb mb (.inr (.inr (.inr rfl))))⟩⟩
theorem Cap.lt{W:World}{Bd Bt Br mb:Nat}{s:ByteArray}{zk:Bool}{e:Nat}(h:Cap W Bd Bt Br mb s zk e):∀b,jE Bd Bt Br mb b→b<W.heap.size:=by
 rintro b (rfl|rfl|rfl|rfl)
 ·exact h.d.lt
 ·exact h.t.lt
 ·exact h.r.lt
 ·obtain⟨k,hk⟩:=h.m;exact hk.lt
theorem Ez(s:ByteArray)(mb f e:Nat)(zk:Bool)(w:World)(hm:JG w mb s):
  Calls Tryz.prog 132 #[.agg #[.string s,.map (some mb)],.int .i64 (f:Int),.int .i64 (e:Int),.bool zk] w λe' w'=>
   ∃Bd Bf Bt Br,e'=.returned (.func (.func 150) #[] #[.pointer (some ⟨Bd,0,none⟩),.pointer (some ⟨Bf,0,none⟩),.pointer (some ⟨Bt,0,none⟩),.pointer (some ⟨Br,0,none⟩)])∧Below w.heap.size w w'∧
    Cap w' Bd Bt Br mb s zk e∧zh w' Bf #[.int .i64 (f:Int)] 3∧w.heap.size≤Bd∧w.heap.size≤Bt∧w.heap.size≤Br∧w.heap.size≤Bf:=by
 have b0:=(((zh.new w #[.string s,.map (some mb)] 192).alloc (.cells #[.int .i64 (f:Int)] 3)).alloc (.cells #[.int .i64 (e:Int)] 3)).alloc (.cells #[.bool zk] 4);have b1:=((zh.new (w.alloc (.cells #[.string s,.map (some mb)] 192)) #[.int .i64 (f:Int)] 3).alloc (.cells #[.int .i64 (e:Int)] 3)).alloc (.cells #[.bool zk] 4);have b2:=(zh.new ((w.alloc (.cells #[.string s,.map (some mb)] 192)).alloc (.cells #[.int .i64 (f:Int)] 3)) #[.int .i64 (e:Int)] 3).alloc (.cells #[.bool zk] 4);have b3:=zh.new (((w.alloc (.cells #[.string s,.map (some mb)] 192)).alloc (.cells #[.int .i64 (f:Int)] 3)).alloc (.cells #[.int .i64 (e:Int)] 3)) #[.bool zk] 4;have hB:Below w.heap.size w ((((w.alloc (.cells #[.string s,.map (some mb)] 192)).alloc (.cells #[.int .i64 (f:Int)] 3)).alloc (.cells #[.int .i64 (e:Int)] 3)).alloc (.cells #[.bool zk] 4)):=
  ((((Below.refl _ w).alloc (Nat.le_refl _) _).alloc (by simp) _).alloc (by simp;omega) _).alloc (by simp;omega) _
 simp only[World.size_alloc]at b1 b2 b3;go_enter Tryz.func132,Tryz.ntmps132;go_wp2;go_ret;refine⟨_,_,_,_,rfl,hB,⟨b3,b2,b0,?_⟩,b1,?_,?_,?_,?_⟩
 ·obtain⟨k,hk⟩:=hm;exact⟨k,hk.same (hB.block mb hk.lt)⟩
 all_goals omega
def Gs(R:Ending→World→Prop)(W:World)(h:ByteArray)(wv:Bool)(e:Ending)(W':World):Prop:=
 if h.size=0∧wv=false then e=.returned (.bool true)∧W'=W else R e W'
theorem zcd(h:ByteArray){j:Nat}(hj:j<h.data.toList.length):(Lib.strCells h)[j]?=some (.int .u8 (h.data.toList[j].toNat:Int)):=by
 have hj':j<h.data.size:=by simpa using hj
 simp[Lib.strCells];exact⟨_,Array.getElem?_eq_getElem hj',rfl⟩
theorem zce(n:Nat)(hn:1≤n)(l Bp Bw By Bd B0:Nat)(h:ByteArray)(wv zk:Bool)(v:Value)(W:World)(R:Ending→World→Prop)(hs:h.size≤1000000)
 (hp:zh W Bp #[v] 116)(hrow:W.ownsRow B0 5 1 v h.size (Lib.strCells h))(hw:zh W Bw #[.bool wv] 4)(hy:zh W By #[.func (.yield l) #[] #[]] 215)(hd:zh W Bd #[.bool zk] 4)
 (hne:Bp≠Bw∧Bp≠By∧Bp≠Bd)
 (hR:¬(h.size=0∧wv=false)→∀v' W',(∃oa m c,v=.slice oa m c∧v'=.slice oa 0 c)→W'=W.setCell ⟨Bp,0,none⟩ v'→YieldAt Fence.wide (n-1) Tryz.prog l (Za ⟨false,zk,h⟩) W' R)
 (hRb:∀e W',R e W'→∃b,e=.returned (.bool b)):
  CallsIn Fence.wide n Tryz.prog 151 #[.pointer (some ⟨Bp,0,none⟩),.pointer (some ⟨Bw,0,none⟩),.pointer (some ⟨By,0,none⟩),.pointer (some ⟨Bd,0,none⟩)] W (Gs R W h wv):=by
 have hro:Fence.wide.round=none:=rfl;have hfn:Fence.wide.fn 151:=trivial;obtain⟨oa,oc,rfl⟩:∃oa oc,v=.slice oa h.size oc:=by
  rcases hrow.2 with⟨h1,h2⟩|⟨g,cap,cur,h1,_⟩
  ·exact⟨none,0,by rw[h1,h2]⟩
  ·exact⟨_,_,h1⟩
 have cp:=hp.cell 0;have cw:=hw.cell 0;have cy:=hy.cell 0;have cd:=hd.cell 0;have fp:=hp.frozen 0;refine callsIn_of_wp Tryz.func151 rfl hfn ?_ hro;simp only[Tryz.ntmps151,List.size_toArray,List.length_cons,List.length_nil,Nat.reduceAdd,Nat.reduceSub,Array.replicate_succ,Array.replicate_zero,List.push_toArray,List.append_toArray,List.nil_append,List.cons_append];by_cases h0:h.size=0∧wv=false
 ·obtain⟨h1,rfl⟩:=h0
  have HR:Hid (Gs R W h false (.returned (.bool true)) W):=hid (by unfold Gs;rw[if_pos ⟨h1,rfl⟩];exact⟨rfl,rfl⟩);rw[h1]at cp;clear hR hRb hrow hp hw hy hd
  gi_wp2
  go_ret;exact HR.out
 ·have hlt:∀e W',R e W'→Gs R W h wv e W':=λe W' hr=>by unfold Gs;rw[if_neg h0];exact hr
  have EC:=hid hlt;have hconv:∀W',W'=W→(convert 116 9 (.slice oa h.size oc)).run Tryz.prog W'=.ok (.string h) W':=by
   rintro W' rfl;rcases hrow.2 with⟨h1,h2⟩|⟨g,cap,cur,h1,_,hg,hcap,_,hcs,htake⟩
   ·have e:h=ByteArray.empty:=by
     have:h.data.size=0:=h2
     cases h with
     |mk d=>simp at this;rw[this];rfl
    have h3:oa=none:=by injection h1
    subst e h3;exact run_convert_bytes_nil (P:=Tryz.prog) W' 116 5 Tryz.underlying116 Tryz.underlying5 _ _ 9 Tryz.underlying9
   ·have h3:oa=some ⟨g,0,none⟩:=by injection h1
    subst h3;have hl:h.data.toList.length=h.size:=by simp
    have:=run_convert_bytes_back (P:=Tryz.prog) W' 116 9 5 ⟨g,0,none⟩ oc h.data.toList Tryz.underlying116 Tryz.underlying5 Tryz.underlying9 (λj hj=>by
     rw[Addr.add_lit,Nat.zero_add,cell_of_row W' g j cur _ _ hg];have h5:=zcd h hj;have hj2:j<h.size*1:=by rw[Nat.mul_one,←hl];exact hj
     rw[←htake,List.getElem?_take_of_lt hj2]at h5;simpa using h5)
    rw[hl]at this;rw[this]
  have JH:=hid hRb;have hconv:=hconv W rfl;obtain⟨fn,tmps,assign,body,hyy,hRR⟩:=hR h0 (.slice oa 0 oc) _ ⟨oa,_,oc,rfl,rfl⟩ rfl;dsimp only[Za,Gp]at hyy;obtain⟨z,hz⟩:∃z,h.size=z:=⟨_,rfl⟩;have HZ:=hid hz;rw[hz]at cp hconv h0;have hnn:(0:Int)≤(z:Int):=by omega
  have HHS:=hid hs;have HR:=hid hRR;by_cases h00:z=0
  ·have hwt:wv=true:=by cases wv with
    |true=>rfl
    |false=>exact absurd ⟨h00,rfl⟩ h0
   subst h00 hwt;clear hR hRb hlt hrow hp hw hy hd hz hs h0 hRR
   gi_wp2
   refine HR.out.mono ?_;intro e W' hr;obtain⟨b,rfl⟩:=JH.out e W' hr;have HL:=hid (EC.out _ _ hr);clear hr
   gi_wp2
   go_ret;exact HL.out
  ·have hz0:((z:Int)==0)=false:=beq_eq_false_iff_ne.2 (by omega)
   clear hR hRb hlt hrow hp hw hy hd hz hs h0 hRR h00
   gi_wp2
   refine HR.out.mono ?_;intro e W' hr;obtain⟨b,rfl⟩:=JH.out e W' hr;have HL:=hid (EC.out _ _ hr);clear hr
   gi_wp2
   go_ret;exact HL.out
structure YC(B0 Bp Bw By Bl Bd l:Nat)(W:World)(h:ByteArray)(wv:Bool)(T yj:Nat→Prop):Prop where
 p:∃v,zh W Bp #[v] 116∧W.ownsRow B0 5 1 v h.size (Lib.strCells h)∧∀g,v.ownBlock=some g→T g∧¬yj g
 w:zh W Bw #[.bool wv] 4
 y:zh W By #[.func (.yield l) #[] #[]] 215
 f:zh W Bl #[.func (.func 151) #[] #[.pointer (some ⟨Bp,0,none⟩),.pointer (some ⟨Bw,0,none⟩),.pointer (some ⟨By,0,none⟩),.pointer (some ⟨Bd,0,none⟩)]] 23
 own:∀b,(b=Bp∨b=Bw∨b=By∨b=Bl)→T b∧¬yj b
section
variable{B0 Bp Bw By Bl Bd l:Nat}{W W':World}{h:ByteArray}{wv:Bool}{T T' yj XV:Nat→Prop}
theorem YC.zf{p:Nat→Prop}(S:YC B0 Bp Bw By Bl Bd l W h wv T yj)(hf:zg p W W')(hp:∀b,b<W.heap.size→T b→p b→yj b)(hT:∀b,b<W.heap.size→T b→T' b)(DK:∀b,b<W.heap.size→XV b→yj b):YC B0 Bp Bw By Bl Bd l W' h wv T' XV:=by
 obtain⟨v,h1,h2,h3⟩:=S.p;have no:∀b,b<W.heap.size→(b=Bp∨b=Bw∨b=By∨b=Bl)→¬p b:=λb hb hh hpb=>(S.own b hh).2 (hp b hb (S.own b hh).1 hpb);have o2:∀b,b<W.heap.size→(b=Bp∨b=Bw∨b=By∨b=Bl)→T' b∧¬XV b:=λb hb hh=>⟨hT b hb (S.own b hh).1,λht=>(S.own b hh).2 (DK b hb ht)⟩;refine⟨⟨v,h1.zf hf (no _ h1.lt (.inl rfl)),zQ hf h2 (λg hg hpg=>(h3 g hg).2 (hp g (ji h2 g hg) (h3 g hg).1 hpg)),λg hg=>⟨hT g (ji h2 g hg) (h3 g hg).1,λht=>(h3 g hg).2 (DK g (ji h2 g hg) ht)⟩⟩,
  S.w.zf hf (no _ S.w.lt (.inr (.inl rfl))),S.y.zf hf (no _ S.y.lt (.inr (.inr (.inl rfl)))),S.f.zf hf (no _ S.f.lt (.inr (.inr (.inr rfl)))),?_⟩
 rintro b (rfl|rfl|rfl|rfl)
 ·exact o2 _ h1.lt (.inl rfl)
 ·exact o2 _ S.w.lt (.inr (.inl rfl))
 ·exact o2 _ S.y.lt (.inr (.inr (.inl rfl)))
 ·exact o2 _ S.f.lt (.inr (.inr (.inr rfl)))
theorem YC.kept{C:Nat→Prop}(S:YC B0 Bp Bw By Bl Bd l W h wv T yj)(k:zM C T W W'):YC B0 Bp Bw By Bl Bd l W' h wv T yj:=by
 obtain⟨v,h1,h2,h3⟩:=S.p;have same:∀b,b<W.heap.size→T b→W'.heap[b]?=W.heap[b]?:=λb hb ht=>k.same b hb (.inl ht);refine⟨⟨v,(same _ h1.lt (S.own _ (.inl rfl)).1).trans h1,?_,h3⟩,(same _ S.w.lt (S.own _ (.inr (.inl rfl))).1).trans S.w,(same _ S.y.lt (S.own _ (.inr (.inr (.inl rfl)))).1).trans S.y,(same _ S.f.lt (S.own _ (.inr (.inr (.inr rfl)))).1).trans S.f,S.own⟩;refine⟨h2.1,?_⟩;rcases h2.2 with g0|⟨g,cap,cur,g1,g2,g3,g4⟩
 ·exact .inl g0
 ·exact .inr ⟨g,cap,cur,g1,g2,(same g (Array.getElem?_eq_some_iff.1 g3).1 (h3 g (by rw[g1];rfl)).1).trans g3,g4⟩
end
theorem Cap.kept{C T:Nat→Prop}{W W':World}{Bd Bt Br mb:Nat}{s:ByteArray}{zk:Bool}{e:Nat}(h:Cap W Bd Bt Br mb s zk e)(k:zM C T W W')(hC:∀b,jE Bd Bt Br mb b→C b):Cap W' Bd Bt Br mb s zk e:=
 h.same (λb hb=>k.same b (h.lt b hb) (.inr (hC b hb)))
theorem Cap.zf{p:Nat→Prop}{W W':World}{Bd Bt Br mb:Nat}{s:ByteArray}{zk:Bool}{e:Nat}(h:Cap W Bd Bt Br mb s zk e)(k:zg p W W')(hC:∀b,jE Bd Bt Br mb b→¬p b):Cap W' Bd Bt Br mb s zk e:=
 h.same (λb hb=>k.block b (h.lt b hb) (hC b hb))
def uU(ds:List Deferred)(W:World)(T yj:Nat→Prop):Prop:=
 ∃Ds:List Nat,ds=Ds.map (λD=>{target:=.collected D,args:=#[]})∧Ds.Nodup∧∀D∈Ds,T D∧¬yj D∧W.heap[D]?=some (.deferred (some []))
theorem uU.nil(W:World)(T yj:Nat→Prop):uU [] W T yj:=⟨[],rfl,List.nodup_nil,λ_ h=>by cases h⟩
theorem uU.cons{ds:List Deferred}{W:World}{T yj:Nat→Prop}(h:uU ds W T yj){D z:Nat}(hz:∀E:Nat,(∃d∈ds,d.target=.collected E)→E<z)(hD:z≤D)(ht:T D∧¬yj D)(hw:W.heap[D]?=some (.deferred (some []))):uU ({target:=.collected D,args:=#[]}::ds) W T yj:=by
 obtain⟨Ds,rfl,h2,h3⟩:=h;refine⟨D::Ds,rfl,List.nodup_cons.2 ⟨λhm=>?_,h2⟩,λE hE=>?_⟩
 ·have:=hz D ⟨_,List.mem_map.2 ⟨D,hm,rfl⟩,rfl⟩
  omega
 ·rcases List.mem_cons.1 hE with rfl|hE
  ·exact⟨ht.1,ht.2,hw⟩
  ·exact h3 E hE
theorem uU.lt{ds:List Deferred}{W:World}{T yj:Nat→Prop}(h:uU ds W T yj):∀E:Nat,(∃d∈ds,d.target=.collected E)→E<W.heap.size:=by
 obtain⟨Ds,rfl,h2,h3⟩:=h;rintro E ⟨d,hd,e⟩;obtain⟨D,hD,rfl⟩:=List.mem_map.1 hd;have e2:D=E:=by simpa using e
 subst e2;exact(Array.getElem?_eq_some_iff.1 (h3 D hD).2.2).1
theorem uU.zf{ds:List Deferred}{W W':World}{T T' yj XV p:Nat→Prop}(h:uU ds W T yj)(hf:zg p W W')(hp:∀b,b<W.heap.size→T b→p b→yj b)(hT:∀b,b<W.heap.size→T b→T' b)(DK:∀b,b<W.heap.size→XV b→yj b):uU ds W' T' XV:=by
 obtain⟨Ds,rfl,h2,h3⟩:=h;refine⟨Ds,rfl,h2,λD hD=>?_⟩;obtain⟨a,b,c⟩:=h3 D hD;have hlt:=(Array.getElem?_eq_some_iff.1 c).1;exact⟨hT D hlt a,λht=>b (DK D hlt ht),(hf.block D hlt (λhh=>b (hp D hlt a hh))).trans c⟩
theorem uU.kept{ds:List Deferred}{W W':World}{T yj C:Nat→Prop}(h:uU ds W T yj)(k:zM C T W W'):uU ds W' T yj:=by
 obtain⟨Ds,rfl,h2,h3⟩:=h;refine⟨Ds,rfl,h2,λD hD=>?_⟩;obtain⟨a,b,c⟩:=h3 D hD;exact⟨a,b,(k.same D (Array.getElem?_eq_some_iff.1 c).1 (.inl a)).trans c⟩
theorem DL{F:Fence}{n:Nat}{P:Program}{fn:Func}{tmps:Array Value}{R:Ending→World→Prop}(hres:fn.results=#[]):∀(Ds:List Nat) (W:World),Ds.Nodup→(∀D∈Ds,W.heap[D]?=some (.deferred (some [])))→
  (∀W',zg (λb=>b∈Ds) W W'→R (.returned (.tuple #[])) W')→LeavesInM F n P fn tmps R (Ds.map (λD=>{target:=.collected D,args:=#[]})) .returning W
 | [],W,_,_,h=>⟨_,results_none hres _ _ _,h W (zg.refl _ _)⟩
 |D::Ds,W,hn,hD,h=>by
  have h1:=hD D (by simp);refine⟨by simp,.inl ⟨D,_,rfl,run_takeDeferred h1,?_⟩⟩;have hn2:=List.nodup_cons.1 hn;refine DL hres Ds _ hn2.2 (λE hE=>?_) (λW' hf=>h W' ?_)
  ·exact(World.putObj_heap_other (λe=>by subst e;exact hn2.1 hE)).trans (hD E (List.mem_cons_of_mem _ hE))
  ·exact zg.trans (uH (p:=λb=>b∈D::Ds) W _ (by simp)) hf (λi _ hi=>List.mem_cons_of_mem _ hi)
theorem zcf{w:World}{B0 z:Nat}{oa:Option Addr}{m c:Nat}{xs:List Value}(h:w.ownsRow B0 5 1 (.slice oa m c) z xs):w.ownsRow B0 5 1 (.slice oa 0 c) (ByteArray.empty).size (Lib.strCells ByteArray.empty):=by
 refine⟨rfl,?_⟩;rcases h.2 with⟨h1,h2⟩|⟨g,cap,cur,h1,h2,h3,h4,h5,h6,h7⟩
 ·injection h1 with a b c
  subst a c;exact .inl ⟨rfl,rfl⟩
 ·injection h1 with a b c
  subst a c;exact .inr ⟨g,_,cur,rfl,h2,h3,Nat.zero_le _,h5,h6,rfl⟩
def Tj(s:ByteArray)(zk:Bool)(e:Nat)(J Jx:List Pc→(Nat→Prop)→World→Prop)(B0 Bp Bw By Bl Bd Bt Br mb l:Nat)(q:List Pc)(wv:Bool)(T yj:Nat→Prop)(ds:List Deferred)(W:World)(en:Ending)(W':World):Prop:=
 (zM (jE Bd Bt Br mb) (λb=>T b∧b≠Bp) W W'∧uU ds W' T yj∧W.heap.size≤W'.heap.size)∧((en=.returned (.bool true)∧J q T W'∧YC B0 Bp Bw By Bl Bd l W' ByteArray.empty wv T yj∧Cap W' Bd Bt Br mb s zk e)∨(en=.returned (.bool false)∧∃pp,Jx pp T W'))
theorem ED(n:Nat)(hn:1≤n){s:ByteArray}{zk:Bool}{e:Nat}{L:List Pc}{J Jx:List Pc→(Nat→Prop)→World→Prop}{B0 Bp Bw By Bl Bd Bt Br mb l:Nat}{h:ByteArray}{wv:Bool}{pre:List Pc}{T yj:Nat→Prop}{ds:List Deferred}{W:World}
 (hJ:Yg J)
 (hY:∀pre x rest T W1,L=pre++x::rest→J pre T W1→(∀b,T b→b<W1.heap.size)→YieldAt Fence.wide (n-1) Tryz.prog l (Za x) W1 λe W'=>
   zM (jE Bd Bt Br mb) T W1 W'∧((e=.returned (.bool true)∧J (pre++ [x]) T W')∨(e=.returned (.bool false)∧Jx (pre++ [x]) T W')))
  (S:YC B0 Bp Bw By Bl Bd l W h wv T yj) (hcap:Cap W Bd Bt Br mb s zk e) (hmk:uU ds W T yj) (hj:J pre T W) (hT:∀b,T b→b<W.heap.size) (hh:h.size≤1000000)
  (hne:Bp≠Bw∧Bp≠By∧Bp≠Bd) (hne2:Bp≠Bl∧B0≤Bp) (QG:∀b,jE Bd Bt Br mb b→b<B0) (hL:∃rest,L=(pre++fl zk h wv)++rest):
  CallsIn Fence.wide n Tryz.prog 151 #[.pointer (some ⟨Bp,0,none⟩),.pointer (some ⟨Bw,0,none⟩),.pointer (some ⟨By,0,none⟩),.pointer (some ⟨Bd,0,none⟩)] W (Tj s zk e J Jx B0 Bp Bw By Bl Bd Bt Br mb l (pre++fl zk h wv) wv T yj ds W):=by
 obtain⟨v,hv,hrow,Zm⟩:=S.p;obtain⟨rest,hL⟩:=hL;have Gt:=(S.own Bp (.inl rfl));have key:¬(h.size=0∧wv=false)→∀oa m c,v=.slice oa m c→YieldAt Fence.wide (n-1) Tryz.prog l (Za ⟨false,zk,h⟩) (W.setCell ⟨Bp,0,none⟩ (.slice oa 0 c)) (λen W'=>Tj s zk e J Jx B0 Bp Bw By Bl Bd Bt Br mb l (pre++fl zk h wv) wv T yj ds W en W'):=by
  intro h0 oa m c hvv;have hfl:fl zk h wv=[⟨false,zk,h⟩]:=by unfold fl;rw[if_neg h0]
  have hF:zg (λb=>b=Bp) W (W.setCell ⟨Bp,0,none⟩ (.slice oa 0 c)):=zg.setCell (p:=λb=>b=Bp) (zg.refl _ W) 0 (.inl rfl) _;have hsz:(W.setCell ⟨Bp,0,none⟩ (.slice oa 0 c)).heap.size=W.heap.size:=by simp[World.setCell]
  have hj1:J pre T (W.setCell ⟨Bp,0,none⟩ (.slice oa 0 c)):=hJ.same hj (hF.mono (λb _ hb=>hb▸Gt.1));have k1:=hv.set 0 (.slice oa 0 c);rw[hvv]at hrow Zm;have hgm:¬(Value.slice oa m c).ownBlock=some Bp:=λe2=>by
   rcases hrow.2 with⟨g1,_⟩|⟨g,cap,cur,g1,_,g3,_⟩
   ·rw[g1]at e2;cases e2
   ·rw[g1]at e2
    have e':g=Bp:=by simpa[Value.ownBlock]using e2
    subst e';rw[show W.heap[g]?=_ from hv]at g3;injection g3 with g3;injection g3 with _ g5 _;exact absurd g5 (by decide)
  have hob:(Value.slice oa 0 c).ownBlock=(Value.slice oa m c).ownBlock:=by cases oa<;>rfl
  have r1:=zQ hF (zcf hrow) (λk hk e2=>hgm (by subst e2;rw[←hob];exact hk));have S1:YC B0 Bp Bw By Bl Bd l (W.setCell ⟨Bp,0,none⟩ (.slice oa 0 c)) ByteArray.empty wv T yj:=
   ⟨⟨_,k1,r1,λg hg=>Zm g (by rw[←hob];exact hg)⟩,S.w.zf hF (λe=>hne.1 e.symm),S.y.zf hF (λe=>hne.2.1 e.symm),S.f.zf hF (λe=>hne2.1 e.symm),S.own⟩
  have c1:Cap (W.setCell ⟨Bp,0,none⟩ (.slice oa 0 c)) Bd Bt Br mb s zk e:=hcap.zf hF (λb hb e=>by have:=QG b hb;omega);have m1:uU ds (W.setCell ⟨Bp,0,none⟩ (.slice oa 0 c)) T yj:=by
   obtain⟨Ds,e1,e2,e3⟩:=hmk;refine⟨Ds,e1,e2,λD hD=>?_⟩;obtain⟨d1,d2,d3⟩:=e3 D hD;exact⟨d1,d2,(hF.block D (Array.getElem?_eq_some_iff.1 d3).1 (λe=>by subst e;rw[show W.heap[D]?=_ from hv]at d3;cases d3)).trans d3⟩
  rw[hfl]at hL ⊢;rw[List.append_assoc]at hL;refine(hY pre ⟨false,zk,h⟩ rest T _ hL hj1 (λb hb=>by rw[hsz];exact hT b hb)).mono ?_;rintro en W' ⟨hk,hr⟩;refine⟨⟨⟨by rw[←hsz];exact hk.size,λb hb hbb=>?_⟩,m1.kept hk,by rw[←hsz];exact hk.size⟩,?_⟩
  ·have hb2:b≠Bp:=by
    rcases hbb with h|h
    ·exact h.2
    ·have:=QG b h;omega
   exact(hk.same b (by rw[hsz];exact hb) (by rcases hbb with h|h;exact .inl h.1;exact .inr h)).trans (hF.block b hb hb2)
  ·rcases hr with⟨he,hj2⟩|⟨he,hj2⟩
   ·exact .inl ⟨he,hj2,S1.kept hk,c1.kept hk (λb h=>h)⟩
   ·exact .inr ⟨he,_,hj2⟩
 refine CallsIn.mono (zce n hn l Bp Bw By Bd B0 h wv zk v W (λen W'=>Tj s zk e J Jx B0 Bp Bw By Bl Bd Bt Br mb l (pre++fl zk h wv) wv T yj ds W en W') hh hv hrow S.w S.y hcap.d hne ?_ ?_) ?_
 ·rintro h0 v' W' ⟨oa,m,c,e1,rfl⟩ rfl
  exact key h0 oa m c e1
 ·rintro en W' ⟨_,⟨he,_⟩|⟨he,_⟩⟩
  ·exact⟨_,he⟩
  ·exact⟨_,he⟩
 ·intro en W' hr
  unfold Gs at hr;by_cases h0:h.size=0∧wv=false
  ·rw[if_pos h0]at hr
   obtain⟨rfl,rfl⟩:=hr;have hfl:fl zk h wv=[]:=by unfold fl;rw[if_pos h0]
   have he0:h=ByteArray.empty:=by
    have:h.data.size=0:=h0.1
    cases h with
    |mk d=>simp at this;rw[this];rfl
   rw[hfl,List.append_nil];exact⟨⟨zM.refl _ _ _,hmk,Nat.le_refl _⟩,.inl ⟨rfl,hj,he0▸S,hcap⟩⟩
  ·rw[if_neg h0]at hr
   exact hr
end Go.Proofs.YtdjcidackkogjaaGreatDoor

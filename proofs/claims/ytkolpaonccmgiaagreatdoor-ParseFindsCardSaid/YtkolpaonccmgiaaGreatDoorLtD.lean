/- What itself and quotes of layer 8 (literal) return -/
import Derived.Test.YtkolpaonccmgiaaGreatDoorLtP
import Derived.Shelf.RegionOpen
import Derived.Maps.OwnIn
set_option linter.unusedVariables false
namespace Go.Proofs.YtkolpaonccmgiaaGreatDoor
set_option linter.unusedSectionVars false
set_option linter.unusedVariables false
open Go.RowKit
def ItP (o:Option ByteArray) (e:Ending):Prop:=∃X b,e=.returned (.tuple #[.string X,.bool b])∧o=(if b=true then some X else none)
section
variable (w:World)
set_option maxRecDepth 100000 in
set_option maxHeartbeats 8000000 in
theorem itself_any (s:ByteArray) (mb:Nat) (m f t:Nat) (up:Int) (op dbl:Bool) (h1:f<t) (h2:t≤s.size) (hs:s.size≤1000000) (h13:m=13→t=f+1∨t=f+2):
  Calls Tryz.prog 229 #[.agg #[.string s,.map (some mb)],.agg #[.int .i64 (m:Int),.int .i64 (f:Int),.int .i64 (t:Int),.int .i64 up,.bool op],.bool dbl] w fun e w'=>ItP (itself s ⟨m,f,t,up,op⟩ dbl) e∧Below w.heap.size w w':=by
 have hw2:Below w.heap.size w ((w.alloc (.cells #[.string s,.map (some mb)] 184)).alloc (.cells #[.int .i64 (m:Int),.int .i64 (f:Int),.int .i64 (t:Int),.int .i64 up,.bool op] 136)):=((Below.refl _ _).alloc (Nat.le_refl _) _).alloc (by simp) _
 obtain⟨X,hX⟩:∃X,s.extract f t=X:=⟨_,rfl⟩
 have hXz:X.size=t - f:=by rw [←hX];simp;omega
 by_cases m14:m=14
 ·subst m14
  have he:itself s ⟨14,f,t,up,op⟩ dbl=some X:=by unfold itself;dsimp only;rw [if_pos rfl];exact congrArg some hX
  have HE:=Lib.hid he
  clear he hXz
  go_enter Tryz.func229,Tryz.ntmps229
  go_wp2
  go_ret2
  exact⟨⟨X,true,rfl,HE.out⟩,hw2⟩
 by_cases m12:m=12
 ·subst m12
  by_cases ht:t=f+1
  ·have he:itself s ⟨12,f,t,up,op⟩ dbl=some X:=by unfold itself;dsimp only;rw [if_neg (by decide),if_pos rfl,if_pos ht];exact congrArg some hX
   have HE:=Lib.hid he
   have hz:X.size=1:=by omega
   clear he hXz ht
   go_enter Tryz.func229,Tryz.ntmps229
   go_wp2
   go_ret2
   exact⟨⟨X,true,rfl,HE.out⟩,hw2⟩
  ·have he:itself s ⟨12,f,t,up,op⟩ dbl=none:=by unfold itself;dsimp only;rw [if_neg (by decide),if_pos rfl,if_neg ht]
   have HE:=Lib.hid he
   have hz:((X.size:Int)==1)=false:=beq_eq_false_iff_ne.2 (by omega)
   clear he hXz ht
   go_enter Tryz.func229,Tryz.ntmps229
   go_wp2
   go_ret2
   exact⟨⟨X,false,rfl,HE.out⟩,hw2⟩
 by_cases m13:m=13
 ·subst m13
  rcases h13 rfl with ht|ht
  ·have he:itself s ⟨13,f,t,up,op⟩ dbl=some ByteArray.empty:=by unfold itself;dsimp only;rw [if_neg (by decide),if_neg (by decide),if_pos rfl,if_pos (.inl ht)]
   have HE:=Lib.hid he
   have hz:X.size=1:=by omega
   clear he hXz ht
   go_enter Tryz.func229,Tryz.ntmps229
   go_wp2
   go_ret2
   exact⟨⟨ByteArray.empty,true,rfl,HE.out⟩,hw2⟩
  ·obtain⟨b,hb⟩:∃b,by8 s (f+1)=b:=⟨_,rfl⟩
   have hz:X.size=2:=by omega
   have hX1:∀h:1<X.size,(X[1]'h).toNat=b:=by
    intro h
    rw [←hb]
    subst hX
    unfold by8
    rw [bt_eq (by omega)]
    first|rfl|simp [ByteArray.getElem_extract]
   have hX2:X.extract 1 2=s.extract (f+1) t:=by rw [←hX,ht];simp [ByteArray.extract_extract]
   obtain⟨Y,hY⟩:∃Y,s.extract (f+1) t=Y:=⟨_,rfl⟩
   rw [hY]at hX2
   have hbl:b<256:=hb▸by8_lt s _
   by_cases b10:b=10
   ·have he:itself s ⟨13,f,t,up,op⟩ dbl=some ByteArray.empty:=by unfold itself;dsimp only;rw [if_neg (by decide),if_neg (by decide),if_pos rfl,if_pos (.inr (hb.trans b10))]
    have HE:=Lib.hid he
    subst b10
    clear he hXz ht hb hY hX2
    go_enter Tryz.func229,Tryz.ntmps229
    go_wp2
    go_ret2
    exact⟨⟨ByteArray.empty,true,rfl,HE.out⟩,hw2⟩
   ·have hb10:((b:Int)==10)=false:=beq_eq_false_iff_ne.2 (by omega)
    have hor:¬(t=f+1∨by8 s (f+1)=10):=by omega
    cases dbl with
    |false=>
     have he:itself s ⟨13,f,t,up,op⟩ false=none:=by unfold itself;dsimp only;rw [if_neg (by decide),if_neg (by decide),if_pos rfl,if_neg hor,if_pos rfl]
     have HE:=Lib.hid he
     clear he hXz ht hb hY hX2 hor
     go_enter Tryz.func229,Tryz.ntmps229
     go_wp2
     go_ret2
     exact⟨⟨ByteArray.empty,false,rfl,HE.out⟩,hw2⟩
    |true=>
     have hin:∀b,b<256→(inB b ⟨#[36,96,34,92]⟩=true↔(b=36∨b=96∨b=34∨b=92)):=by decide+kernel
     by_cases hq:b=36∨b=96∨b=34∨b=92
     ·have he:itself s ⟨13,f,t,up,op⟩ true=some Y:=by
       unfold itself;dsimp only;rw [if_neg (by decide),if_neg (by decide),if_pos rfl,if_neg hor,if_neg (by decide)]
       simp only [hb]
       rw [if_pos hq];exact congrArg some hY
      have HE:=Lib.hid he
      have HIN:=Lib.hid ((hin b hbl).2 hq)
      clear he hXz ht hb hY hor hin hq
      go_enter Tryz.func229,Tryz.ntmps229
      go_wp2_with fail
      refine(index_inB _ b hbl _).mono ?_
      rintro e w3 ⟨⟨x,rfl,hx⟩,rfl⟩
      have hx0:(0:Int)≤x:=by rw [HIN.out]at hx;simpa using hx
      clear hx
      go_wp2
      go_ret2
      exact⟨⟨Y,true,rfl,HE.out⟩,hw2⟩
     ·have he:itself s ⟨13,f,t,up,op⟩ true=some X:=by
       unfold itself;dsimp only;rw [if_neg (by decide),if_neg (by decide),if_pos rfl,if_neg hor,if_neg (by decide)]
       simp only [hb]
       rw [if_neg hq];exact congrArg some hX
      have HE:=Lib.hid he
      have HIN:=Lib.hid (fun h=>hq ((hin b hbl).1 h))
      clear he hXz ht hb hY hor hin hq
      go_enter Tryz.func229,Tryz.ntmps229
      go_wp2_with fail
      refine(index_inB _ b hbl _).mono ?_
      rintro e w3 ⟨⟨x,rfl,hx⟩,rfl⟩
      have hx0:¬(0:Int)≤x:=fun h=>HIN.out (by rw [←hx];simpa using h)
      clear hx
      go_wp2
      go_ret2
      exact⟨⟨X,true,rfl,HE.out⟩,hw2⟩
 have he:itself s ⟨m,f,t,up,op⟩ dbl=none:=by unfold itself;dsimp only;rw [if_neg m14,if_neg m12,if_neg m13]
 have HE:=Lib.hid he
 have t14:((m:Int)==14)=false:=beq_eq_false_iff_ne.2 (by omega)
 have t12:((m:Int)==12)=false:=beq_eq_false_iff_ne.2 (by omega)
 have t13:((m:Int)==13)=false:=beq_eq_false_iff_ne.2 (by omega)
 clear he hXz
 go_enter Tryz.func229,Tryz.ntmps229
 go_wp2
 go_ret2
 exact⟨⟨ByteArray.empty,false,rfl,HE.out⟩,hw2⟩
end
open Go.RowKit Go.Shelf
attribute [local go_sem] Oper.semAt_some
def encC (x:Pc):Array Value:=#[aggC x]
theorem Frm.id {p:Nat→Prop} (W:World):Frm p W W:=Frm.refl p W
theorem Abid.same {β:Type} {J:β→(Nat→Prop)→World→Prop} (hJ:Abid J) {s:β} {T:Nat→Prop} {W W':World} (h:J s T W) (hf:Frm T W W'):J s T W':=hJ s T W W' T h hf (fun _ h=> .inl h)
theorem Abid.below {β:Type} {J:β→(Nat→Prop)→World→Prop} (hJ:Abid J) {s:β} {T T':Nat→Prop} {W W':World} (h:J s T W) (hf:Below W.heap.size W W') (ht:∀b,T' b→T b∨W.heap.size≤b):J s T' W':=hJ s T W W' T' h (Frm.of_below hf) ht
theorem values_in (n:Nat) (oa:Option Addr) (m c:Nat) (w:World):
  CallsIn Fence.wide n Tryz.prog 250 #[.slice oa m c] w fun e w'=>e=.returned (.func (.func 259) #[] #[.pointer (some ⟨w.heap.size,0,none⟩)])∧w'=w.alloc (.cells #[.slice oa m c] 116):=by
 have hro:Fence.wide.round=none:=rfl
 refine callsIn_of_wp Tryz.func250 rfl trivial ?_ hro
 simp only [Tryz.ntmps250,List.size_toArray,List.length_cons,List.length_nil,Nat.reduceAdd,Nat.reduceSub,Array.replicate_succ,Array.replicate_zero,List.push_toArray,List.append_toArray,List.nil_append,List.cons_append]
 gi_wp2
 go_ret
 exact⟨rfl,rfl⟩
def VaRl (J:List Pc→(Nat→Prop)→World→Prop) (x:Pc) (W:World) (v7:Value) (wr:World):Prop:=
 (v7=.int .i64 0∧wr=W)∨(v7=.int .i64 1∧∃T,J [x] T wr)
set_option maxRecDepth 100000 in
set_option maxHeartbeats 4000000 in
theorem values_seq (n:Nat) (hn:1≤n) (Bx g cap:Nat) (x:Pc) (cs:Array Value) (W:World) (hb:Blk W Bx #[.slice (some ⟨g,0,none⟩) 1 cap] 116) (hg:Blk W g cs 119)
  (h0:cs[0]?=some (.bool x.ex)) (h1:cs[1]?=some (.bool x.q)) (h2:cs[2]?=some (.string x.t)):
  SeqT n Tryz.prog 259 #[.pointer (some ⟨Bx,0,none⟩)] encC (fun _=>False) [x] W:=by
 intro l J Jx hJ hJx hY hJ0
 have hbc:=hb.cell 0
 have c0:=(hg.cell 0).trans h0
 have c1:=(hg.cell 1).trans h1
 have c2:=(hg.cell 2).trans h2
 have HY:=Lib.hid hY
 have HJ:=Lib.hid hJ
 have HJX:=Lib.hid hJx
 have HJ0:=Lib.hid hJ0
 have hro:Fence.wide.round=none:=rfl
 have hfn:Fence.wide.fn 259:=trivial
 clear hY hJ hJx hb hg h0 h1 h2 hJ0
 refine callsIn_of_wp Tryz.func259 rfl hfn ?_ hro
 simp only [Tryz.ntmps259,List.size_toArray,List.length_cons,List.length_nil,Nat.reduceAdd,Nat.reduceSub,Array.replicate_succ,Array.replicate_zero,List.push_toArray,List.append_toArray,List.nil_append,List.cons_append]
 gi_wp2
 gi_loopw [7] (fun v7 wr=>VaRl J x W v7 wr) (fun v _=>1 - (intOf v).toNat)
 case atStart=>exact .inl ⟨rfl,rfl⟩
 case round=>
  rcases hrel with⟨rfl,rfl⟩|⟨rfl,T,hj⟩
  ·have hja:=HJ.out.same HJ0.out (Frm.of_below (p:=fun _=>False) ((Below.refl _ wr).alloc (Nat.le_refl _) (.cells #[.bool x.ex,.bool x.q,.string x.t] 119)))
   obtain⟨fn,tmps,assign,body,hy,hR⟩:=HY.out [] x [] _ _ rfl hja (fun _ h=>h.elim)
   dsimp only [encC,aggC]at hy
   gi_wp2
   refine hR.mono ?_
   rintro e W' ⟨hk3,(⟨rfl,hJ3⟩|⟨rfl,hJx3⟩)⟩
   ·gi_wp2
    go_roundw
    case rel=>exact .inr ⟨rfl,_,hJ3⟩
    case measure=>simp [intOf]
   ·gi_wp2
    refine bodyPost_ret (results_none rfl _ _ _) rfl ?_
    exact⟨⟨_,rfl⟩,.inr ⟨_,_,hJx3⟩⟩
  ·gi_wp2
   go_end0
   exact⟨⟨_,rfl⟩,.inl ⟨T,hj⟩⟩
def datP (m f t up:Int) (op:Bool):DataW Unit:=.agg [.lit (.int .i64 m),.lit (.int .i64 f),.lit (.int .i64 t),.lit (.int .i64 up),.lit (.bool op)]
def datQ (p:Prt):DataW Unit:=datP p.mode p.frm p.to p.up p.op
def partElem (v:Value):Option (DataW Unit×List MemPlace):=
 match v with
 | .agg ⟨[.int .i64 m,.int .i64 f,.int .i64 t,.int .i64 up,.bool op]⟩=>some (datP m f t up op,[])
 |_=>none
theorem partElem_inv {v:Value} {m f t up:Int} {op:Bool} {ps:List MemPlace} (h:partElem v=some (datP m f t up op,ps)):v=.agg #[.int .i64 m,.int .i64 f,.int .i64 t,.int .i64 up,.bool op]:=by
 unfold partElem at h
 split at h
 ·simp [datP]at h
  obtain⟨⟨rfl,rfl,rfl,rfl,rfl⟩,_⟩:=h
  rfl
 ·cases h
def keyI (a:Nat):Lit:=.int .i64 (a:Int)
def MapQ (W:World) (mb:Nat) (k:Nat) (q:Nat→Option Prt):Prop:=
 ∃D:DataW Unit,W.ownsMap Tryz.prog 3 partElem mb k D∧Maps.IsMap D∧∀a:Nat,Maps.has D (keyI a)=(q a).isSome∧D.atKey (keyI a) (datP 0 0 0 0 false)=match q a with
  |some p=>datQ p
  |none=>datP 0 0 0 0 false
theorem MapQ.same {W W':World} {mb k:Nat} {q:Nat→Option Prt} (h:MapQ W mb k q) (hb:W'.heap[mb]?=W.heap[mb]?):MapQ W' mb k q:=by
 obtain⟨D,⟨es,clock,h1,h2⟩,h3⟩:=h
 exact⟨D,⟨es,clock,hb.trans h1,h2⟩,h3⟩
theorem MapQ.lt {W:World} {mb k:Nat} {q:Nat→Option Prt} (h:MapQ W mb k q):mb<W.heap.size:=by
 obtain⟨D,⟨es,clock,h1,h2⟩,h3⟩:=h
 exact(Array.getElem?_eq_some_iff.1 h1).1
theorem MapQ.made (w:World):MapQ (w.alloc (.map #[] 0)) w.heap.size 0 (fun _=>none):=
 ⟨.map [],World.ownsMap_made w _ _ _,⟨[],rfl⟩,fun a=>⟨rfl,rfl⟩⟩
theorem MapQ.ext {W:World} {mb k:Nat} {q r:Nat→Option Prt} (h:MapQ W mb k q) (hq:∀a,q a=r a):MapQ W mb k r:=by
 obtain rfl:q=r:=funext hq
 exact h
theorem keyI_keyOf (a:Nat) (ha:a≤1000000):keyOf Tryz.prog 3 (.int .i64 (a:Int))=some (keyI a):=
 Maps.keyOf_int_mk Tryz.underlying3 (by have h1:IntKind.i64.min= -9223372036854775808:=rfl;have h2:IntKind.i64.max=9223372036854775807:=rfl;simp only [Lit.wf,h1,h2];simp;omega)
def qB (s:ByteArray) (k a:Nat):Option Prt:=if a<k∧born s a=true then some (prt s a)else none
def MapP (W:World) (mb:Nat) (s:ByteArray):Prop:=∃k,MapQ W mb k (qB s s.size)
theorem step_put {ops:Array Oper} {rest:List Oper} {o:Oper} {a:Act} {Q:Exit→Act→World→Prop} {w:World} (hg:o.guard=none) (m x v:Operand) (hop:o.op=Op.mapUpdate 182 m x v)
  {mb k:Nat} {q:Nat→Option Prt} (hm:a.eval m=.map (some mb)) (hown:MapQ w mb k q) (hk:k≤1000000) (p:Prt) (hx:a.eval x=.int .i64 (p.frm:Int)) (hp:p.frm≤1000000) (hv:a.eval v=.agg #[.int .i64 (p.mode:Int),.int .i64 (p.frm:Int),.int .i64 (p.to:Int),.int .i64 p.up,.bool p.op])
  (hK:∀w',MapQ w' mb (k+1) (fun b=>if b=p.frm then some p else q b)→w.grownBy w' (some mb)→wpList Tryz.prog ops Q rest (a.put o.dst undef) w'):
  wpList Tryz.prog ops Q (o::rest) a w:=by
 obtain⟨D,h1,h2,h3⟩:=hown
 refine wpList_mapUpdate_own w hg m x v 182 hop 3 136 (Maps.int_keyed Tryz.underlying3) Tryz.underlying182 partElem mb k D hm h1 (by unfold maxLen;omega) _ _ (keyI p.frm) hx hv (keyI_keyOf _ hp) (datQ p) [] rfl ?_
 intro w' hw hgr
 have hkl:WideAt.IsKeyLit (keyI p.frm):=by unfold keyI;exact trivial
 refine hK w' ⟨_,hw,?_,fun b=>?_⟩ hgr
 ·obtain⟨es,rfl⟩:=h2
  exact⟨_,rfl⟩
 ·by_cases e:b=p.frm
  ·subst e
   rw [Maps.has_put_same h2 hkl,Maps.atKey_put_same h2 hkl]
   simp
  ·have hne:keyI b≠keyI p.frm:=by
    unfold keyI
    intro h
    injection h with _ h
    omega
   rw [Maps.has_put_other hne,Maps.atKey_put_other hne]
   simp only [if_neg e]
   exact h3 b
theorem step_get {ops:Array Oper} {rest:List Oper} {o:Oper} {a:Act} {Q:Exit→Act→World→Prop} {w:World} (hg:o.guard=none) (m x:Operand) (hop:o.op=Op.lookup 182 m x true)
  {mb k:Nat} {q:Nat→Option Prt} (hm:a.eval m=.map (some mb)) (hown:MapQ w mb k q) (b:Nat) (hx:a.eval x=.int .i64 (b:Int)) (hb:b≤1000000)
  (hS:∀p,q b=some p→wpList Tryz.prog ops Q rest (a.put o.dst (.tuple #[.agg #[.int .i64 (p.mode:Int),.int .i64 (p.frm:Int),.int .i64 (p.to:Int),.int .i64 p.up,.bool p.op],.bool true])) w)
  (hN:q b=none→wpList Tryz.prog ops Q rest (a.put o.dst (.tuple #[.agg #[.int .i64 0,.int .i64 0,.int .i64 0,.int .i64 0,.bool false],.bool false])) w):
  wpList Tryz.prog ops Q (o::rest) a w:=by
 obtain⟨D,h1,h2,h3⟩:=hown
 refine wpList_lookup_own_ok w hg m x 182 hop 3 136 (Maps.int_keyed Tryz.underlying3) Tryz.underlying182 partElem (z:=.agg #[.int .i64 0,.int .i64 0,.int .i64 0,.int .i64 0,.bool false]) (Tryz.zeroValue136 w) (datP 0 0 0 0 false) [] rfl mb k D hm h1 _ (keyI b) hx (keyI_keyOf _ hb) ?_
 intro v ps hv
 obtain⟨g1,g2⟩:=h3 b
 rw [g2]at hv
 rw [g1]
 cases hq:q b with
 |none=>
  rw [hq]at hv
  rw [partElem_inv hv]
  exact hN hq
 |some p=>
  rw [hq]at hv
  rw [partElem_inv (show partElem v=some (datP p.mode p.frm p.to p.up p.op,ps)from hv)]
  exact hS p hq
theorem step_get1 {ops:Array Oper} {rest:List Oper} {o:Oper} {a:Act} {Q:Exit→Act→World→Prop} {w:World} (hg:o.guard=none) (m x:Operand) (hop:o.op=Op.lookup 182 m x true)
  {mb:Nat} {s:ByteArray} (hm:a.eval m=.map (some mb)) (hown:MapP w mb s) (b md f t:Nat) (up:Int) (op:Bool) (hx:a.eval x=.int .i64 (b:Int)) (hb:b≤1000000) (hq:Hid (b<s.size∧born s b=true∧prt s b=⟨md,f,t,up,op⟩))
  (hS:wpList Tryz.prog ops Q rest (a.put o.dst (.tuple #[.agg #[.int .i64 (md:Int),.int .i64 (f:Int),.int .i64 (t:Int),.int .i64 up,.bool op],.bool true])) w):
  wpList Tryz.prog ops Q (o::rest) a w:=by
 obtain⟨k,hk⟩:=hown
 have e:qB s s.size b=some ⟨md,f,t,up,op⟩:=by unfold qB;rw [if_pos ⟨hq.out.1,hq.out.2.1⟩,hq.out.2.2]
 refine step_get hg m x hop hm hk b hx hb (fun p hp=>?_) (fun hn=>by rw [e]at hn;cases hn)
 rw [e]at hp
 cases hp
 exact hS
theorem step_get0 {ops:Array Oper} {rest:List Oper} {o:Oper} {a:Act} {Q:Exit→Act→World→Prop} {w:World} (hg:o.guard=none) (m x:Operand) (hop:o.op=Op.lookup 182 m x true)
  {mb:Nat} {s:ByteArray} (hm:a.eval m=.map (some mb)) (hown:MapP w mb s) (b:Nat) (hx:a.eval x=.int .i64 (b:Int)) (hb:b≤1000000) (hq:Hid (born s b=false))
  (hS:wpList Tryz.prog ops Q rest (a.put o.dst (.tuple #[.agg #[.int .i64 0,.int .i64 0,.int .i64 0,.int .i64 0,.bool false],.bool false])) w):
  wpList Tryz.prog ops Q (o::rest) a w:=by
 obtain⟨k,hk⟩:=hown
 have e:qB s s.size b=none:=by unfold qB;rw [if_neg (by rw [hq.out];simp)]
 exact step_get hg m x hop hm hk b hx hb (fun p hp=>by rw [e]at hp;cases hp) (fun _=>hS)
attribute [local go_sem] Oper.semAt_some
structure Cap (W:World) (Bd Bt Br mb:Nat) (s:ByteArray) (dbl:Bool) (e:Nat):Prop where
 d:Blk W Bd #[.bool dbl] 4
 t:Blk W Bt #[.int .i64 (e:Int)] 3
 r:Blk W Br #[.string s,.map (some mb)] 184
 m:MapP W mb s
def CapC (Bd Bt Br mb:Nat) (b:Nat):Prop:=b=Bd∨b=Bt∨b=Br∨b=mb
theorem Cap.same {W W':World} {Bd Bt Br mb:Nat} {s:ByteArray} {dbl:Bool} {e:Nat} (h:Cap W Bd Bt Br mb s dbl e) (hb:∀b,CapC Bd Bt Br mb b→W'.heap[b]?=W.heap[b]?):Cap W' Bd Bt Br mb s dbl e:=
 ⟨(hb Bd (.inl rfl)).trans h.d,(hb Bt (.inr (.inl rfl))).trans h.t,(hb Br (.inr (.inr (.inl rfl)))).trans h.r,by obtain⟨k,hk⟩:=h.m;exact⟨k,hk.same (hb mb (.inr (.inr (.inr rfl))))⟩⟩
theorem Cap.lt {W:World} {Bd Bt Br mb:Nat} {s:ByteArray} {dbl:Bool} {e:Nat} (h:Cap W Bd Bt Br mb s dbl e):∀b,CapC Bd Bt Br mb b→b<W.heap.size:=by
 rintro b (rfl|rfl|rfl|rfl)
 ·exact h.d.lt
 ·exact h.t.lt
 ·exact h.r.lt
 ·obtain⟨k,hk⟩:=h.m;exact hk.lt
set_option maxHeartbeats 1000000 in
theorem between_any (s:ByteArray) (mb f e:Nat) (dbl:Bool) (w:World) (hm:MapP w mb s):
  Calls Tryz.prog 199 #[.agg #[.string s,.map (some mb)],.int .i64 (f:Int),.int .i64 (e:Int),.bool dbl] w fun e' w'=>
   ∃Bd Bf Bt Br,e'=.returned (.func (.func 227) #[] #[.pointer (some ⟨Bd,0,none⟩),.pointer (some ⟨Bf,0,none⟩),.pointer (some ⟨Bt,0,none⟩),.pointer (some ⟨Br,0,none⟩)])∧Below w.heap.size w w'∧
    Cap w' Bd Bt Br mb s dbl e∧Blk w' Bf #[.int .i64 (f:Int)] 3∧w.heap.size≤Bd∧w.heap.size≤Bt∧w.heap.size≤Br∧w.heap.size≤Bf:=by
 have b0:=(((Blk.new w #[.string s,.map (some mb)] 184).alloc (.cells #[.int .i64 (f:Int)] 3)).alloc (.cells #[.int .i64 (e:Int)] 3)).alloc (.cells #[.bool dbl] 4)
 have b1:=((Blk.new (w.alloc (.cells #[.string s,.map (some mb)] 184)) #[.int .i64 (f:Int)] 3).alloc (.cells #[.int .i64 (e:Int)] 3)).alloc (.cells #[.bool dbl] 4)
 have b2:=(Blk.new ((w.alloc (.cells #[.string s,.map (some mb)] 184)).alloc (.cells #[.int .i64 (f:Int)] 3)) #[.int .i64 (e:Int)] 3).alloc (.cells #[.bool dbl] 4)
 have b3:=Blk.new (((w.alloc (.cells #[.string s,.map (some mb)] 184)).alloc (.cells #[.int .i64 (f:Int)] 3)).alloc (.cells #[.int .i64 (e:Int)] 3)) #[.bool dbl] 4
 have hB:Below w.heap.size w ((((w.alloc (.cells #[.string s,.map (some mb)] 184)).alloc (.cells #[.int .i64 (f:Int)] 3)).alloc (.cells #[.int .i64 (e:Int)] 3)).alloc (.cells #[.bool dbl] 4)):=
  ((((Below.refl _ w).alloc (Nat.le_refl _) _).alloc (by simp) _).alloc (by simp;omega) _).alloc (by simp;omega) _
 simp only [World.size_alloc]at b1 b2 b3
 go_enter Tryz.func199,Tryz.ntmps199
 go_wp2
 go_ret
 refine⟨_,_,_,_,rfl,hB,⟨b3,b2,b0,?_⟩,b1,?_,?_,?_,?_⟩
 ·obtain⟨k,hk⟩:=hm;exact⟨k,hk.same (hB.block mb hk.lt)⟩
 all_goals omega
def LetR (R:Ending→World→Prop) (W:World) (h:ByteArray) (wv:Bool) (e:Ending) (W':World):Prop:=
 if h.size=0∧wv=false then e=.returned (.bool true)∧W'=W else R e W'
theorem strCells_at (h:ByteArray) {j:Nat} (hj:j<h.data.toList.length):(Lib.strCells h)[j]?=some (.int .u8 (h.data.toList[j].toNat:Int)):=by
 have hj':j<h.data.size:=by simpa using hj
 simp [Lib.strCells]
 exact⟨_,Array.getElem?_eq_getElem hj',rfl⟩
set_option maxRecDepth 100000 in
set_option maxHeartbeats 4000000 in
theorem letOut_in (n:Nat) (hn:1≤n) (l Bp Bw By Bd B0:Nat) (h:ByteArray) (wv dbl:Bool) (v:Value) (W:World) (R:Ending→World→Prop) (hs:h.size≤1000000)
  (hp:Blk W Bp #[v] 127) (hrow:W.ownsRow B0 5 1 v h.size (Lib.strCells h)) (hw:Blk W Bw #[.bool wv] 4) (hy:Blk W By #[.func (.yield l) #[] #[]] 207) (hd:Blk W Bd #[.bool dbl] 4)
  (hne:Bp≠Bw∧Bp≠By∧Bp≠Bd)
  (hR:¬(h.size=0∧wv=false)→∀v' W',(∃oa m c,v=.slice oa m c∧v'=.slice oa 0 c)→W'=W.setCell ⟨Bp,0,none⟩ v'→YieldAt Fence.wide (n - 1) Tryz.prog l (encC ⟨false,dbl,h⟩) W' R)
  (hRb:∀e W',R e W'→∃b,e=.returned (.bool b)):
  CallsIn Fence.wide n Tryz.prog 228 #[.pointer (some ⟨Bp,0,none⟩),.pointer (some ⟨Bw,0,none⟩),.pointer (some ⟨By,0,none⟩),.pointer (some ⟨Bd,0,none⟩)] W (LetR R W h wv):=by
 have hro:Fence.wide.round=none:=rfl
 have hfn:Fence.wide.fn 228:=trivial
 obtain⟨oa,oc,rfl⟩:∃oa oc,v=.slice oa h.size oc:=by
  rcases hrow.2 with⟨h1,h2⟩|⟨g,cap,cur,h1,_⟩
  ·exact⟨none,0,by rw [h1,h2]⟩
  ·exact⟨_,_,h1⟩
 have cp:=hp.cell 0
 have cw:=hw.cell 0
 have cy:=hy.cell 0
 have cd:=hd.cell 0
 have fp:=hp.frozen 0
 refine callsIn_of_wp Tryz.func228 rfl hfn ?_ hro
 simp only [Tryz.ntmps228,List.size_toArray,List.length_cons,List.length_nil,Nat.reduceAdd,Nat.reduceSub,Array.replicate_succ,Array.replicate_zero,List.push_toArray,List.append_toArray,List.nil_append,List.cons_append]
 by_cases h0:h.size=0∧wv=false
 ·obtain⟨h1,rfl⟩:=h0
  have HR:Hid (LetR R W h false (.returned (.bool true)) W):=Lib.hid (by unfold LetR;rw [if_pos ⟨h1,rfl⟩];exact⟨rfl,rfl⟩)
  rw [h1]at cp
  clear hR hRb hrow hp hw hy hd
  gi_wp2
  go_ret
  exact HR.out
 ·have hlt:∀e W',R e W'→LetR R W h wv e W':=fun e W' hr=>by unfold LetR;rw [if_neg h0];exact hr
  have HLT:=Lib.hid hlt
  have hconv:∀W',W'=W→(convert 127 9 (.slice oa h.size oc)).run Tryz.prog W'=.ok (.string h) W':=by
   rintro W' rfl
   rcases hrow.2 with⟨h1,h2⟩|⟨g,cap,cur,h1,_,hg,hcap,_,hcs,htake⟩
   ·have e:h=ByteArray.empty:=by
     have:h.data.size=0:=h2
     cases h with
     |mk d=>simp at this;rw [this];rfl
    have h3:oa=none:=by injection h1
    subst e h3
    exact run_convert_bytes_nil (P:=Tryz.prog) W' 127 5 Tryz.underlying127 Tryz.underlying5 _ _ 9 Tryz.underlying9
   ·have h3:oa=some ⟨g,0,none⟩:=by injection h1
    subst h3
    have hl:h.data.toList.length=h.size:=by simp
    have:=run_convert_bytes_back (P:=Tryz.prog) W' 127 9 5 ⟨g,0,none⟩ oc h.data.toList Tryz.underlying127 Tryz.underlying5 Tryz.underlying9 (fun j hj=>by
     rw [Addr.add_lit,Nat.zero_add,cell_of_row W' g j cur _ _ hg]
     have h5:=strCells_at h hj
     have hj2:j<h.size*1:=by rw [Nat.mul_one,←hl];exact hj
     rw [←htake,List.getElem?_take_of_lt hj2]at h5
     simpa using h5)
    rw [hl]at this
    rw [this]
  have HRB:=Lib.hid hRb
  have hconv:=hconv W rfl
  obtain⟨fn,tmps,assign,body,hyy,hRR⟩:=hR h0 (.slice oa 0 oc) _ ⟨oa,_,oc,rfl,rfl⟩ rfl
  dsimp only [encC,aggC]at hyy
  obtain⟨z,hz⟩:∃z,h.size=z:=⟨_,rfl⟩
  have HZ:=Lib.hid hz
  rw [hz]at cp hconv h0
  have hnn:(0:Int)≤(z:Int):=by omega
  have HHS:=Lib.hid hs
  have HR:=Lib.hid hRR
  by_cases h00:z=0
  ·have hwt:wv=true:=by cases wv with
    |true=>rfl
    |false=>exact absurd ⟨h00,rfl⟩ h0
   subst h00 hwt
   clear hR hRb hlt hrow hp hw hy hd hz hs h0 hRR
   gi_wp2
   refine HR.out.mono ?_
   intro e W' hr
   obtain⟨b,rfl⟩:=HRB.out e W' hr
   have HL:=Lib.hid (HLT.out _ _ hr)
   clear hr
   gi_wp2
   go_ret
   exact HL.out
  ·have hz0:((z:Int)==0)=false:=beq_eq_false_iff_ne.2 (by omega)
   clear hR hRb hlt hrow hp hw hy hd hz hs h0 hRR h00
   gi_wp2
   refine HR.out.mono ?_
   intro e W' hr
   obtain⟨b,rfl⟩:=HRB.out e W' hr
   have HL:=Lib.hid (HLT.out _ _ hr)
   clear hr
   gi_wp2
   go_ret
   exact HL.out
structure BSt (B0 Bp Bw By Bl Bd l:Nat) (W:World) (h:ByteArray) (wv:Bool) (T Tin:Nat→Prop):Prop where
 p:∃v,Blk W Bp #[v] 127∧W.ownsRow B0 5 1 v h.size (Lib.strCells h)∧∀g,v.ownBlock=some g→T g∧¬Tin g
 w:Blk W Bw #[.bool wv] 4
 y:Blk W By #[.func (.yield l) #[] #[]] 207
 f:Blk W Bl #[.func (.func 228) #[] #[.pointer (some ⟨Bp,0,none⟩),.pointer (some ⟨Bw,0,none⟩),.pointer (some ⟨By,0,none⟩),.pointer (some ⟨Bd,0,none⟩)]] 23
 own:∀b,(b=Bp∨b=Bw∨b=By∨b=Bl)→T b∧¬Tin b
section
variable {B0 Bp Bw By Bl Bd l:Nat} {W W':World} {h:ByteArray} {wv:Bool} {T T' Tin Tin':Nat→Prop}
theorem BSt.frm {p:Nat→Prop} (S:BSt B0 Bp Bw By Bl Bd l W h wv T Tin) (hf:Frm p W W') (hp:∀b,b<W.heap.size→T b→p b→Tin b) (hT:∀b,b<W.heap.size→T b→T' b) (hTin:∀b,b<W.heap.size→Tin' b→Tin b):BSt B0 Bp Bw By Bl Bd l W' h wv T' Tin':=by
 obtain⟨v,h1,h2,h3⟩:=S.p
 have no:∀b,b<W.heap.size→(b=Bp∨b=Bw∨b=By∨b=Bl)→¬p b:=fun b hb hh hpb=>(S.own b hh).2 (hp b hb (S.own b hh).1 hpb)
 have o2:∀b,b<W.heap.size→(b=Bp∨b=Bw∨b=By∨b=Bl)→T' b∧¬Tin' b:=fun b hb hh=>⟨hT b hb (S.own b hh).1,fun ht=>(S.own b hh).2 (hTin b hb ht)⟩
 refine⟨⟨v,h1.frm hf (no _ h1.lt (.inl rfl)),own_frm hf h2 (fun g hg hpg=>(h3 g hg).2 (hp g (own_lt h2 g hg) (h3 g hg).1 hpg)),fun g hg=>⟨hT g (own_lt h2 g hg) (h3 g hg).1,fun ht=>(h3 g hg).2 (hTin g (own_lt h2 g hg) ht)⟩⟩,
  S.w.frm hf (no _ S.w.lt (.inr (.inl rfl))),S.y.frm hf (no _ S.y.lt (.inr (.inr (.inl rfl)))),S.f.frm hf (no _ S.f.lt (.inr (.inr (.inr rfl)))),?_⟩
 rintro b (rfl|rfl|rfl|rfl)
 ·exact o2 _ h1.lt (.inl rfl)
 ·exact o2 _ S.w.lt (.inr (.inl rfl))
 ·exact o2 _ S.y.lt (.inr (.inr (.inl rfl)))
 ·exact o2 _ S.f.lt (.inr (.inr (.inr rfl)))
theorem BSt.kept {C:Nat→Prop} (S:BSt B0 Bp Bw By Bl Bd l W h wv T Tin) (k:KpT C T W W'):BSt B0 Bp Bw By Bl Bd l W' h wv T Tin:=by
 obtain⟨v,h1,h2,h3⟩:=S.p
 have same:∀b,b<W.heap.size→T b→W'.heap[b]?=W.heap[b]?:=fun b hb ht=>k.same b hb (.inl ht)
 refine⟨⟨v,(same _ h1.lt (S.own _ (.inl rfl)).1).trans h1,?_,h3⟩,(same _ S.w.lt (S.own _ (.inr (.inl rfl))).1).trans S.w,(same _ S.y.lt (S.own _ (.inr (.inr (.inl rfl)))).1).trans S.y,(same _ S.f.lt (S.own _ (.inr (.inr (.inr rfl)))).1).trans S.f,S.own⟩
 refine⟨h2.1,?_⟩
 rcases h2.2 with g0|⟨g,cap,cur,g1,g2,g3,g4⟩
 ·exact .inl g0
 ·exact .inr ⟨g,cap,cur,g1,g2,(same g (Array.getElem?_eq_some_iff.1 g3).1 (h3 g (by rw [g1];rfl)).1).trans g3,g4⟩
end
theorem Cap.kept {C T:Nat→Prop} {W W':World} {Bd Bt Br mb:Nat} {s:ByteArray} {dbl:Bool} {e:Nat} (h:Cap W Bd Bt Br mb s dbl e) (k:KpT C T W W') (hC:∀b,CapC Bd Bt Br mb b→C b):Cap W' Bd Bt Br mb s dbl e:=
 h.same (fun b hb=>k.same b (h.lt b hb) (.inr (hC b hb)))
theorem Cap.frm {p:Nat→Prop} {W W':World} {Bd Bt Br mb:Nat} {s:ByteArray} {dbl:Bool} {e:Nat} (h:Cap W Bd Bt Br mb s dbl e) (k:Frm p W W') (hC:∀b,CapC Bd Bt Br mb b→¬p b):Cap W' Bd Bt Br mb s dbl e:=
 h.same (fun b hb=>k.block b (h.lt b hb) (hC b hb))
def Marks (ds:List Deferred) (W:World) (T Tin:Nat→Prop):Prop:=
 ∃Ds:List Nat,ds=Ds.map (fun D=>{ target:=.collected D,args:=#[] })∧Ds.Nodup∧∀D∈Ds,T D∧¬Tin D∧W.heap[D]?=some (.deferred (some []))
theorem Marks.nil (W:World) (T Tin:Nat→Prop):Marks [] W T Tin:=⟨[],rfl,List.nodup_nil,fun _ h=>by cases h⟩
theorem Marks.cons {ds:List Deferred} {W:World} {T Tin:Nat→Prop} (h:Marks ds W T Tin) {D z:Nat} (hz:∀E:Nat,(∃d∈ds,d.target=.collected E)→E<z) (hD:z≤D) (ht:T D∧¬Tin D) (hw:W.heap[D]?=some (.deferred (some []))):Marks ({ target:=.collected D,args:=#[] }::ds) W T Tin:=by
 obtain⟨Ds,rfl,h2,h3⟩:=h
 refine⟨D::Ds,rfl,List.nodup_cons.2 ⟨fun hm=>?_,h2⟩,fun E hE=>?_⟩
 ·have:=hz D ⟨_,List.mem_map.2 ⟨D,hm,rfl⟩,rfl⟩
  omega
 ·rcases List.mem_cons.1 hE with rfl|hE
  ·exact⟨ht.1,ht.2,hw⟩
  ·exact h3 E hE
theorem Marks.lt {ds:List Deferred} {W:World} {T Tin:Nat→Prop} (h:Marks ds W T Tin):∀E:Nat,(∃d∈ds,d.target=.collected E)→E<W.heap.size:=by
 obtain⟨Ds,rfl,h2,h3⟩:=h
 rintro E ⟨d,hd,e⟩
 obtain⟨D,hD,rfl⟩:=List.mem_map.1 hd
 have e2:D=E:=by simpa using e
 subst e2
 exact(Array.getElem?_eq_some_iff.1 (h3 D hD).2.2).1
theorem Marks.frm {ds:List Deferred} {W W':World} {T T' Tin Tin' p:Nat→Prop} (h:Marks ds W T Tin) (hf:Frm p W W') (hp:∀b,b<W.heap.size→T b→p b→Tin b) (hT:∀b,b<W.heap.size→T b→T' b) (hTin:∀b,b<W.heap.size→Tin' b→Tin b):Marks ds W' T' Tin':=by
 obtain⟨Ds,rfl,h2,h3⟩:=h
 refine⟨Ds,rfl,h2,fun D hD=>?_⟩
 obtain⟨a,b,c⟩:=h3 D hD
 have hlt:=(Array.getElem?_eq_some_iff.1 c).1
 exact⟨hT D hlt a,fun ht=>b (hTin D hlt ht),(hf.block D hlt (fun hh=>b (hp D hlt a hh))).trans c⟩
theorem Marks.kept {ds:List Deferred} {W W':World} {T Tin C:Nat→Prop} (h:Marks ds W T Tin) (k:KpT C T W W'):Marks ds W' T Tin:=by
 obtain⟨Ds,rfl,h2,h3⟩:=h
 refine⟨Ds,rfl,h2,fun D hD=>?_⟩
 obtain⟨a,b,c⟩:=h3 D hD
 exact⟨a,b,(k.same D (Array.getElem?_eq_some_iff.1 c).1 (.inl a)).trans c⟩
theorem marks_leave {F:Fence} {n:Nat} {P:Program} {fn:Func} {tmps:Array Value} {R:Ending→World→Prop} (hres:fn.results=#[]):∀(Ds:List Nat) (W:World),Ds.Nodup→(∀D∈Ds,W.heap[D]?=some (.deferred (some [])))→
  (∀W',Frm (fun b=>b∈Ds) W W'→R (.returned (.tuple #[])) W')→LeavesInM F n P fn tmps R (Ds.map (fun D=>{ target:=.collected D,args:=#[] })) .returning W
 | [],W,_,_,h=>⟨_,results_none hres _ _ _,h W (Frm.refl _ _)⟩
 |D::Ds,W,hn,hD,h=>by
  have h1:=hD D (by simp)
  refine⟨by simp,.inl ⟨D,_,rfl,run_takeDeferred h1,?_⟩⟩
  have hn2:=List.nodup_cons.1 hn
  refine marks_leave hres Ds _ hn2.2 (fun E hE=>?_) (fun W' hf=>h W' ?_)
  ·exact(World.putObj_heap_other (fun e=>by subst e;exact hn2.1 hE)).trans (hD E (List.mem_cons_of_mem _ hE))
  ·exact Frm.trans (frm_put (p:=fun b=>b∈D::Ds) W _ (by simp)) hf (fun i _ hi=>List.mem_cons_of_mem _ hi)
theorem own_zero {w:World} {B0 z:Nat} {oa:Option Addr} {m c:Nat} {xs:List Value} (h:w.ownsRow B0 5 1 (.slice oa m c) z xs):w.ownsRow B0 5 1 (.slice oa 0 c) (ByteArray.empty).size (Lib.strCells ByteArray.empty):=by
 refine⟨rfl,?_⟩
 rcases h.2 with⟨h1,h2⟩|⟨g,cap,cur,h1,h2,h3,h4,h5,h6,h7⟩
 ·injection h1 with a b c
  subst a c
  exact .inl ⟨rfl,rfl⟩
 ·injection h1 with a b c
  subst a c
  exact .inr ⟨g,_,cur,rfl,h2,h3,Nat.zero_le _,h5,h6,rfl⟩
def LetQ (s:ByteArray) (dbl:Bool) (e:Nat) (J Jx:List Pc→(Nat→Prop)→World→Prop) (B0 Bp Bw By Bl Bd Bt Br mb l:Nat) (q:List Pc) (wv:Bool) (T Tin:Nat→Prop) (ds:List Deferred) (W:World) (en:Ending) (W':World):Prop:=
 (KpT (CapC Bd Bt Br mb) (fun b=>T b∧b≠Bp) W W'∧Marks ds W' T Tin∧W.heap.size≤W'.heap.size)∧((en=.returned (.bool true)∧J q T W'∧BSt B0 Bp Bw By Bl Bd l W' ByteArray.empty wv T Tin∧Cap W' Bd Bt Br mb s dbl e)∨(en=.returned (.bool false)∧∃pp,Jx pp T W'))
theorem letOut_st (n:Nat) (hn:1≤n) {s:ByteArray} {dbl:Bool} {e:Nat} {L:List Pc} {J Jx:List Pc→(Nat→Prop)→World→Prop} {B0 Bp Bw By Bl Bd Bt Br mb l:Nat} {h:ByteArray} {wv:Bool} {pre:List Pc} {T Tin:Nat→Prop} {ds:List Deferred} {W:World}
  (hJ:Abid J)
  (hY:∀pre x rest T W1,L=pre++x::rest→J pre T W1→(∀b,T b→b<W1.heap.size)→YieldAt Fence.wide (n - 1) Tryz.prog l (encC x) W1 fun e W'=>
   KpT (CapC Bd Bt Br mb) T W1 W'∧((e=.returned (.bool true)∧J (pre++ [x]) T W')∨(e=.returned (.bool false)∧Jx (pre++ [x]) T W')))
  (S:BSt B0 Bp Bw By Bl Bd l W h wv T Tin) (hcap:Cap W Bd Bt Br mb s dbl e) (hmk:Marks ds W T Tin) (hj:J pre T W) (hT:∀b,T b→b<W.heap.size) (hh:h.size≤1000000)
  (hne:Bp≠Bw∧Bp≠By∧Bp≠Bd) (hne2:Bp≠Bl∧B0≤Bp) (hdist:∀b,CapC Bd Bt Br mb b→b<B0) (hL:∃rest,L=(pre++fl dbl h wv)++rest):
  CallsIn Fence.wide n Tryz.prog 228 #[.pointer (some ⟨Bp,0,none⟩),.pointer (some ⟨Bw,0,none⟩),.pointer (some ⟨By,0,none⟩),.pointer (some ⟨Bd,0,none⟩)] W (LetQ s dbl e J Jx B0 Bp Bw By Bl Bd Bt Br mb l (pre++fl dbl h wv) wv T Tin ds W):=by
 obtain⟨v,hv,hrow,hvT⟩:=S.p
 obtain⟨rest,hL⟩:=hL
 have hTp:=(S.own Bp (.inl rfl))
 have key:¬(h.size=0∧wv=false)→∀oa m c,v=.slice oa m c→YieldAt Fence.wide (n - 1) Tryz.prog l (encC ⟨false,dbl,h⟩) (W.setCell ⟨Bp,0,none⟩ (.slice oa 0 c)) (fun en W'=>LetQ s dbl e J Jx B0 Bp Bw By Bl Bd Bt Br mb l (pre++fl dbl h wv) wv T Tin ds W en W'):=by
  intro h0 oa m c hvv
  have hfl:fl dbl h wv=[⟨false,dbl,h⟩]:=by unfold fl;rw [if_neg h0]
  have hF:Frm (fun b=>b=Bp) W (W.setCell ⟨Bp,0,none⟩ (.slice oa 0 c)):=Frm.setCell (p:=fun b=>b=Bp) (Frm.refl _ W) 0 (.inl rfl) _
  have hsz:(W.setCell ⟨Bp,0,none⟩ (.slice oa 0 c)).heap.size=W.heap.size:=by simp [World.setCell]
  have hj1:J pre T (W.setCell ⟨Bp,0,none⟩ (.slice oa 0 c)):=hJ.same hj (hF.mono (fun b _ hb=>hb▸hTp.1))
  have k1:=hv.set 0 (.slice oa 0 c)
  rw [hvv]at hrow hvT
  have hgm:¬(Value.slice oa m c).ownBlock=some Bp:=fun e2=>by
   rcases hrow.2 with⟨g1,_⟩|⟨g,cap,cur,g1,_,g3,_⟩
   ·rw [g1]at e2;cases e2
   ·rw [g1]at e2
    have e':g=Bp:=by simpa [Value.ownBlock]using e2
    subst e'
    rw [show W.heap[g]?=_ from hv]at g3
    injection g3 with g3
    injection g3 with _ g5 _
    exact absurd g5 (by decide)
  have hob:(Value.slice oa 0 c).ownBlock=(Value.slice oa m c).ownBlock:=by cases oa<;>rfl
  have r1:=own_frm hF (own_zero hrow) (fun k hk e2=>hgm (by subst e2;rw [←hob];exact hk))
  have S1:BSt B0 Bp Bw By Bl Bd l (W.setCell ⟨Bp,0,none⟩ (.slice oa 0 c)) ByteArray.empty wv T Tin:=
   ⟨⟨_,k1,r1,fun g hg=>hvT g (by rw [←hob];exact hg)⟩,S.w.frm hF (fun e=>hne.1 e.symm),S.y.frm hF (fun e=>hne.2.1 e.symm),S.f.frm hF (fun e=>hne2.1 e.symm),S.own⟩
  have c1:Cap (W.setCell ⟨Bp,0,none⟩ (.slice oa 0 c)) Bd Bt Br mb s dbl e:=hcap.frm hF (fun b hb e=>by have:=hdist b hb;omega)
  have m1:Marks ds (W.setCell ⟨Bp,0,none⟩ (.slice oa 0 c)) T Tin:=by
   obtain⟨Ds,e1,e2,e3⟩:=hmk
   refine⟨Ds,e1,e2,fun D hD=>?_⟩
   obtain⟨d1,d2,d3⟩:=e3 D hD
   exact⟨d1,d2,(hF.block D (Array.getElem?_eq_some_iff.1 d3).1 (fun e=>by subst e;rw [show W.heap[D]?=_ from hv]at d3;cases d3)).trans d3⟩
  rw [hfl]at hL ⊢
  rw [List.append_assoc]at hL
  refine(hY pre ⟨false,dbl,h⟩ rest T _ hL hj1 (fun b hb=>by rw [hsz];exact hT b hb)).mono ?_
  rintro en W' ⟨hk,hr⟩
  refine⟨⟨⟨by rw [←hsz];exact hk.size,fun b hb hbb=>?_⟩,m1.kept hk,by rw [←hsz];exact hk.size⟩,?_⟩
  ·have hb2:b≠Bp:=by
    rcases hbb with h|h
    ·exact h.2
    ·have:=hdist b h;omega
   exact(hk.same b (by rw [hsz];exact hb) (by rcases hbb with h|h;exact .inl h.1;exact .inr h)).trans (hF.block b hb hb2)
  ·rcases hr with⟨he,hj2⟩|⟨he,hj2⟩
   ·exact .inl ⟨he,hj2,S1.kept hk,c1.kept hk (fun b h=>h)⟩
   ·exact .inr ⟨he,_,hj2⟩
 refine CallsIn.mono (letOut_in n hn l Bp Bw By Bd B0 h wv dbl v W (fun en W'=>LetQ s dbl e J Jx B0 Bp Bw By Bl Bd Bt Br mb l (pre++fl dbl h wv) wv T Tin ds W en W') hh hv hrow S.w S.y hcap.d hne ?_ ?_) ?_
 ·rintro h0 v' W' ⟨oa,m,c,e1,rfl⟩ rfl
  exact key h0 oa m c e1
 ·rintro en W' ⟨_,⟨he,_⟩|⟨he,_⟩⟩
  ·exact⟨_,he⟩
  ·exact⟨_,he⟩
 ·intro en W' hr
  unfold LetR at hr
  by_cases h0:h.size=0∧wv=false
  ·rw [if_pos h0]at hr
   obtain⟨rfl,rfl⟩:=hr
   have hfl:fl dbl h wv=[]:=by unfold fl;rw [if_pos h0]
   have he0:h=ByteArray.empty:=by
    have:h.data.size=0:=h0.1
    cases h with
    |mk d=>simp at this;rw [this];rfl
   rw [hfl,List.append_nil]
   exact⟨⟨KpT.refl _ _ _,hmk,Nat.le_refl _⟩,.inl ⟨rfl,hj,he0▸S,hcap⟩⟩
  ·rw [if_neg h0]at hr
   exact hr
end Go.Proofs.YtkolpaonccmgiaaGreatDoor

/- A range over a function whose iterator keeps state -/
import Derived.RangeFuncBound
import Derived.Shelf.RegionOpen
import Derived.Test.YtkolpaonccmgiaaGreatDoorSc
namespace Go.Proofs.YtkolpaonccmgiaaGreatDoor.Q
set_option linter.unusedSectionVars false
set_option linter.unusedVariables false
open _root_.Array renaming getElem?_eq_some_iff->waj
open Go.RowKit
def Y4{β:Type}(J:β->(Nat->Prop)->World->Prop):Prop:=
 ∀s T W W' T',J s T W->zg T W W'->(∀b,T' b->T b\/W.heap.size<=b)->J s T' W'
def Yx{β:Type}(l:Nat)(J:β->(Nat->Prop)->World->Prop):Prop:=
 ∀s T W W' T',J s T W->zg (λb=>T b\/b=l) W W'->(∀b,T' b->T b\/W.heap.size<=b)->J s T' W'
structure zO(C T:Nat->Prop)(W W':World):Prop where
 size:W.heap.size<=W'.heap.size
 same:∀b,b<W.heap.size->(T b\/C b)->W'.heap[b]?=W.heap[b]?
theorem zO.refl(C T:Nat->Prop)(W:World):zO C T W W:=⟨Nat.le_refl _,λ_ _ _=>rfl⟩
theorem zO.trans{C T:Nat->Prop}{X Y Z:World}(h:zO C T X Y)(k:zO C T Y Z):zO C T X Z:=
 ⟨Nat.le_trans h.size k.size,λb hb ht=>(k.same b (Nat.lt_of_lt_of_le hb h.size) ht).trans (h.same b hb ht)⟩
theorem zO.RQ{C T p:Nat->Prop}{X Y:World}(h:zg p X Y)(hp:∀b,b<X.heap.size->p b->¬T b/\¬C b):zO C T X Y:=
 ⟨h.size,λb hb ht=>h.block b hb (λhh=>by have:=hp b hb hh;rcases ht with h|h;exact this.1 h;exact this.2 h)⟩
theorem zO.putObj{C T:Nat->Prop}{W:World}{l:Nat}(o:Obj)(ht:¬T l)(hc:¬C l):zO C T W (W.putObj l o):=
 ⟨by simp,λb hb h=>World.putObj_heap_other (λe=>by subst e;rcases h with h|h;exact ht h;exact hc h)⟩
theorem jA{p:Nat->Prop}(W:World){l:Nat}(o:Obj)(hp:p l):zg p W (W.putObj l o):=
 ⟨rfl,rfl,rfl,by simp,λk hk h=>World.putObj_heap_other (λe=>by subst e;exact h hp)⟩
theorem YieldAt.any{n m:Nat}{P:Program}{l:Nat}{args:Array Value}{W:World}{R:Ending->World->Prop}(h:YieldAt Fence.wide n P l args W R):YieldAt Fence.wide m P l args W R:=by
 obtain⟨fn,tmps,assign,body,h1,h2,h3⟩:=h;exact⟨fn,tmps,assign,body,h1,h2,λc cs _=>h3 c cs (by simp[Fence.room,Fence.wide])⟩
def Yw{α:Type}(n:Nat)(P:Program)(g:Nat)(lb:Array Value)(encs:α->Array Value)(C:Nat->Prop)(L:List α)(W:World):Prop:=
 ∀(l:Nat) (J Jx:List α->(Nat->Prop)->World->Prop),Y4 J->Y4 Jx->
  (∀pre x rest T W1,L=pre++x::rest->J pre T W1->(∀b,T b->b<W1.heap.size)->YieldAt Fence.wide (n-1) P l (encs x) W1 λe W'=>
   zO C T W1 W'/\((e=.returned (.bool true)/\J (pre++ [x]) T W')\/(e=.returned (.bool false)/\Jx (pre++ [x]) T W')))->
  J [] (λ_=>False) W->
  CallsIn Fence.wide n P g (#[.func (.yield l) #[] #[]]++lb) W λe W'=>(∃v,e=.returned v)/\((∃T,J L T W')\/(∃pre T,Jx pre T W'))
def SI{α:Type}(C:Nat->Prop)(l D:Nat)(I:List α->(Nat->Prop)->World->Prop)(Ix:Code->List α->(Nat->Prop)->World->Prop)(xs:List α)(T:Nat->Prop)(W:World):Exit->Act->World->Prop
 | .normal,_,W'=>W'.heap[l]?=W.heap[l]?/\W'.heap[D]?=W.heap[D]?/\zO C T W W'/\I xs T W'
 | .ret,_,W'=>W'.heap[l]?=W.heap[l]?/\W'.heap[D]?=W.heap[D]?/\zO C T W W'/\Ix .ret xs T W'
 | .exit id,_,W'=>W'.heap[l]?=W.heap[l]?/\W'.heap[D]?=W.heap[D]?/\zO C T W W'/\Ix (.exit id) xs T W'
 | .goto t,_,W'=>W'.heap[l]?=W.heap[l]?/\W'.heap[D]?=W.heap[D]?/\zO C T W W'/\Ix (.goto t) xs T W'
 | .panic _,_,_=>False
 | .outgrown,_,_=>False
variable{n:Nat}{P:Program}{w:World}
theorem mM{α:Type}{g:Operand}{ps:Array Tmp}{assign body:Code}{Q:Exit->Act->World->Prop}{a:Act}
 {gf:Nat}{lb:Array Value}(hg:a.eval g=.func (.func gf) #[] lb)(eg:∀args w,(callFunc gf args).run P w=.ok (.enter gf args) w)
 {encs:α->Array Value}{C:Nat->Prop}{L:List α}(hseq:∀W,Below w.heap.size w W->Yw (n-1) P gf lb encs C L W)
 (hC:∀b,C b->b<w.heap.size)(hps:∀x,(encs x).size=ps.size)
 (I:List α->(Nat->Prop)->World->Prop)(Ix:Code->List α->(Nat->Prop)->World->Prop)(hI:Yx (w.heap.size+1) I)(hIx:∀c,Yx (w.heap.size+1) (Ix c))
 (h0:∀W,Below w.heap.size w W->W.heap.size=w.heap.size+2->I [] (λ_=>False) W)
 (MB:∀pre x rest T W,L=pre++x::rest->I pre T W->(∀b,T b->b<W.heap.size)->w.heap.size+2<=W.heap.size->(∃r,W.heap[w.heap.size+1]?=some (.loop r))->W.heap[w.heap.size]?=some (.deferred (some []))->¬T (w.heap.size+1)->¬T w.heap.size->
   assign.wpIn (Fence.wide.inRound (w.heap.size+1)) (n-1-1) P (Exit.then (λa' W'=>W'.heap[w.heap.size+1]?=W.heap[w.heap.size+1]?/\W'.heap[w.heap.size]?=W.heap[w.heap.size]?/\zO C T W W'/\
    ∀r,body.wpIn (Fence.wide.inRound (w.heap.size+1)) (n-1-1) P (SI C (w.heap.size+1) w.heap.size I Ix (pre++ [x]) T (W'.putObj (w.heap.size+1) (.loop r))) a' (W'.putObj (w.heap.size+1) (.loop r))) (λ_ _ _=>False)) {tmps:=(ps.zip (encs x)).foldl (λt (p,v)=>t.setIfInBounds p v) a.tmps,defers:=[]} W)
  (hdone:∀T W,I L T W->w.heap.size+2<=W.heap.size->W.heap[w.heap.size]?=some (.deferred (some []))->Q .normal {a with defers:={target:=.collected w.heap.size,args:=#[]}::a.defers} W)
  (hstop:∀c pre T W,Ix c pre T W->w.heap.size+2<=W.heap.size->W.heap[w.heap.size]?=some (.deferred (some []))->c.wpIn Fence.wide n P Q {a with defers:={target:=.collected w.heap.size,args:=#[]}::a.defers} W):
  (Code.rangeFunc g ps assign body).wpIn Fence.wide n P Q a w:=by
 refine wpIn_rangeFunc ?_;intro fn hfn;rw[show Fence.wide.round=none from rfl];obtain⟨rec,hrec⟩:∃rec:LoopState->Option Code->Loop,rec=λst pe=>{state:=st,pending:=pe,fn,tmps:=a.tmps,params:=ps,assign,body,defers:=w.heap.size}:=⟨_,rfl⟩;obtain⟨W1,hW1⟩:∃W1,(w.alloc (.deferred (some []))).alloc (.loop (rec .ready none))=W1:=⟨_,rfl⟩;have hL1:W1.heap[w.heap.size+1]?=some (.loop (rec .ready none)):=by
  rw[←hW1];have:=World.alloc_heap_new (w.alloc (.deferred (some []))) (.loop (rec .ready none));rwa [World.size_alloc]at this
 have hD1:W1.heap[w.heap.size]?=some (.deferred (some [])):=by
  rw[←hW1];exact(Below.heap_alloc _ _ _ (by simp)).trans (World.alloc_heap_new w _)
 have hs1:W1.heap.size=w.heap.size+2:=by rw[←hW1];simp
 have hb1:Below w.heap.size w W1:=by rw[←hW1];exact((Below.refl _ w).alloc (Nat.le_refl _) _).alloc (by simp) _
 refine⟨w.heap.size+1,[{target:=.collected w.heap.size,args:=#[]}],W1,{target:=.fn (.func gf) lb,args:=#[.func (.yield (w.heap.size+1)) #[] #[]]},W1,gf,
  #[.func (.yield (w.heap.size+1)) #[] #[]]++lb,W1,?_,?_,?_,?_,(λh=>by cases h),?_⟩
 ·rw[←hW1,hrec];exact run_enterLoop_outer _ _ _ _ _
 ·simp only[resolve,hg]
  simp[go_sem]
 ·intro f' hf';trivial
 ·simp[invoke,go_sem,eg]
 ·refine(hseq W1 hb1 (w.heap.size+1)
   (λpre T W=>I pre T W/\W.heap[w.heap.size+1]?=some (.loop (rec .ready none))/\W.heap[w.heap.size]?=some (.deferred (some []))/\¬T (w.heap.size+1)/\¬T w.heap.size)
   (λpre T W=>∃c,Ix c pre T W/\W.heap[w.heap.size+1]?=some (.loop (rec .done (some c)))/\W.heap[w.heap.size]?=some (.deferred (some []))/\¬T (w.heap.size+1)/\¬T w.heap.size)
   ?_ ?_ ?_ ⟨h0 W1 hb1 hs1,hL1,hD1,λh=>h,λh=>h⟩).mono ?_
  ·rintro s T A B T' ⟨hi,hl,hd,t1,t2⟩ hf hT
   have l1:=(waj.1 hl).1;exact⟨hI s T A B T' hi (hf.mono λ_ _ h=> .inl h) hT,(hf.block _ l1 t1).trans hl,(hf.block _ (by omega) t2).trans hd,λh=>by rcases hT _ h with h|h;exact t1 h;omega,λh=>by rcases hT _ h with h|h;exact t2 h;omega⟩
  ·rintro s T A B T' ⟨c,hi,hl,hd,t1,t2⟩ hf hT
   have l1:=(waj.1 hl).1;exact⟨c,hIx c s T A B T' hi (hf.mono λ_ _ h=> .inl h) hT,(hf.block _ l1 t1).trans hl,(hf.block _ (by omega) t2).trans hd,λh=>by rcases hT _ h with h|h;exact t1 h;omega,λh=>by rcases hT _ h with h|h;exact t2 h;omega⟩
  ·rintro pre x rest T W hLx ⟨hi,hl,hd,t1,t2⟩ jG
   have c1:¬C (w.heap.size+1):=λh=>by have:=hC _ h;omega
   have l1:=(waj.1 hl).1;have hy:=run_yield (P:=P) (args:=encs x) hl (by rw[hrec];exact hps x);rw[hrec]at hy;refine⟨fn,_,assign,body,hy,roundIn_of_wpIn hfn (wpIn_mono (MB pre x rest T W hLx hi jG (by omega) ⟨_,hl⟩ hd t1 t2) ?_)⟩;clear hy;rintro e0 a' Wa he0
   cases e0 with
   |normal=>?_
   |ret=>exact he0.elim
   |exit id=>exact he0.elim
   |goto t=>exact he0.elim
   |panic ch=>exact he0.elim
   |outgrown=>exact he0.elim
   obtain⟨hla,MC,hka,hbody⟩:=he0;have hl2:=hla.trans hl;have hd2:=MC.trans hd;have l2:=(waj.1 hl2).1;refine⟨_,run_beginRound hl2 (by rw[hrec]),?_⟩;have hl3:(Wa.putObj (w.heap.size+1) (.loop {rec .ready none with state:=.busy})).heap[w.heap.size+1]?=some (.loop {rec .ready none with state:=.busy}):=World.putObj_heap_same l2;have hd3:(Wa.putObj (w.heap.size+1) (.loop {rec .ready none with state:=.busy})).heap[w.heap.size]?=some (.deferred (some [])):=(World.putObj_heap_other (by omega)).trans hd2;have hsame:∀b,T b->T b\/Wa.heap.size<=b:=λ_ h=> .inl h;refine wpIn_mono (hbody {rec .ready none with state:=.busy}) ?_;have fin:∀(jump:Option Code) (W3:World),W3.heap[w.heap.size+1]?=(Wa.putObj (w.heap.size+1) (.loop {rec .ready none with state:=.busy})).heap[w.heap.size+1]?->W3.heap[w.heap.size]?=(Wa.putObj (w.heap.size+1) (.loop {rec .ready none with state:=.busy})).heap[w.heap.size]?->
     (Instr.endRound (w.heap.size+1) jump).run P W3=.ok (.bool jump.isNone) (W3.putObj (w.heap.size+1) (.loop (rec (if jump.isNone then .ready else .done) jump)))/\
     (W3.putObj (w.heap.size+1) (.loop (rec (if jump.isNone then .ready else .done) jump))).heap[w.heap.size+1]?=some (.loop (rec (if jump.isNone then .ready else .done) jump))/\
     (W3.putObj (w.heap.size+1) (.loop (rec (if jump.isNone then .ready else .done) jump))).heap[w.heap.size]?=some (.deferred (some [])):=λjump W3 h1 h2=>by
    have hl4:=h1.trans hl3;have:=run_endRound (P:=P) jump hl4;rw[hrec]at this ⊢;exact⟨this,World.putObj_heap_same (waj.1 hl4).1,(World.putObj_heap_other (by omega)).trans (h2.trans hd3)⟩
   rintro e a3 W3 hp
   cases e with
   |normal=>
    obtain⟨h1,h2,hk3,hi3⟩:=hp;obtain⟨hr,hl4,hd4⟩:=fin none W3 h1 h2;exact⟨_,_,hr,hka.trans (((zO.putObj _ t1 c1).trans hk3).trans (zO.putObj _ t1 c1)),.inl ⟨rfl,hI _ T _ _ T hi3 (jA W3 _ (.inr rfl)) (λ_ h=> .inl h),hl4,hd4,t1,t2⟩⟩
   |ret=>
    obtain⟨h1,h2,hk3,hi3⟩:=hp;obtain⟨hr,hl4,hd4⟩:=fin (some .ret) W3 h1 h2;exact⟨_,_,hr,hka.trans (((zO.putObj _ t1 c1).trans hk3).trans (zO.putObj _ t1 c1)),.inr ⟨rfl,.ret,hIx _ _ T _ _ T hi3 (jA W3 _ (.inr rfl)) (λ_ h=> .inl h),hl4,hd4,t1,t2⟩⟩
   |exit id=>
    obtain⟨h1,h2,hk3,hi3⟩:=hp;obtain⟨hr,hl4,hd4⟩:=fin (some (.exit id)) W3 h1 h2;exact⟨_,_,hr,hka.trans (((zO.putObj _ t1 c1).trans hk3).trans (zO.putObj _ t1 c1)),.inr ⟨rfl,.exit id,hIx _ _ T _ _ T hi3 (jA W3 _ (.inr rfl)) (λ_ h=> .inl h),hl4,hd4,t1,t2⟩⟩
   |goto t=>
    obtain⟨h1,h2,hk3,hi3⟩:=hp;obtain⟨hr,hl4,hd4⟩:=fin (some (.goto t)) W3 h1 h2;exact⟨_,_,hr,hka.trans (((zO.putObj _ t1 c1).trans hk3).trans (zO.putObj _ t1 c1)),.inr ⟨rfl,.goto t,hIx _ _ T _ _ T hi3 (jA W3 _ (.inr rfl)) (λ_ h=> .inl h),hl4,hd4,t1,t2⟩⟩
   |panic ch=>exact hp.elim
   |outgrown=>exact hp.elim
  ·rintro e W2 ⟨⟨v,rfl⟩,(⟨T,hi,hl,hd,t1,t2⟩|⟨pre,T,c,hi,hl,hd,t1,t2⟩)⟩
   ·have l1:=(waj.1 hl).1
    exact⟨none,_,by have:=run_endLoop (P:=P) hl (by rw[hrec];simp);rw[hrec]at this;exact this,hdone T _ (hI _ T _ _ T hi (jA W2 _ (.inr rfl)) (λ_ h=> .inl h)) (by simp;omega) ((World.putObj_heap_other (by omega)).trans hd)⟩
   ·have l1:=(waj.1 hl).1
    exact⟨some c,_,by have:=run_endLoop (P:=P) hl (by rw[hrec];simp);rw[hrec]at this;exact this,hstop c pre T _ (hIx c _ T _ _ T hi (jA W2 _ (.inr rfl)) (λ_ h=> .inl h)) (by simp;omega) ((World.putObj_heap_other (by omega)).trans hd)⟩
end Go.Proofs.YtkolpaonccmgiaaGreatDoor.Q
namespace Go.Proofs.YtkolpaonccmgiaaGreatDoor.Q
set_option linter.unusedSectionVars false
set_option linter.unusedVariables false
open Go.Proofs.Tryz
open Go.RowKit
attribute [local go_sem] Oper.semAt_some
theorem zdK{w:World}{base:Nat}{e:TypeId}{k n:Nat}{v:Value}{xs:List Value}(h:w.ownsRow base e k v n xs)(o:Obj):(w.alloc o).ownsRow base e k v n xs:=uh h ((Below.refl _ _).alloc (Nat.le_refl _) o)
theorem zdL(w:World)(x:Value)(t:TypeId):Src (w.alloc (.cells #[x] t)) (.slice (some ⟨w.heap.size,0,none⟩) 1 1) 1 [x]:=by
 refine .inr ⟨w.heap.size,0,1,rfl,by simp,λj u hj=>?_⟩
 cases j with
 |zero=>
  simp at hj;subst hj;simp
 |succ j=>simp at hj
theorem zdM{F:Fence}{fn:Nat}{ops:Array Oper}{rest:List Oper}{o:Oper}{a:Act}{w:World}{Q:Exit->Act->World->Prop}(hgd:o.guard=none)(s x:Operand)(t e:TypeId)(k bytes:Nat)(z:Value)
 (ho:o.op=.call {callee:=.builtin .append,args:=#[s,x],argTypes:=#[t,t]})
 (hu:prog.underlying t=some (.slice e))(hinfo:(prog.info? e).map (λi=>(i.zero,i.size,i.bytes))=some (some z,k,bytes))(X9:z.cells.size=k)(hk:0<k)(hby:bytes<=1000)
 (base:Nat)(v0:Value)(n0:Nat)(yI:List Value)(hs:a.eval s=v0)(hown:w.ownsRow base e k v0 n0 yI)(v1:Value)(m:Nat)(news:List Value)(hx:a.eval x=v1)(hsrc:Src w v1 m news)(hlen:news.length=m*k)(h1:∀u∈news,u.oneCell'=true)(hl:n0+m<=1000000)(hbase:base<=w.heap.size)(nn:Nat)(hnn:n0+m=nn)
 (h:∀oa c w',w'.ownsRow base e k (.slice oa nn c) nn (yI++news)->w.grownBy w' v0.ownBlock->((Value.slice oa nn c).ownBlock=v0.ownBlock\/(Value.slice oa nn c).ownBlock=some w.heap.size)->wpListIn F fn prog ops Q rest (a.put o.dst (.slice oa nn c)) w'):wpListIn F fn prog ops Q (o::rest) a w:=by
 refine wpListIn_plain hgd λK hK'=>?_;obtain⟨oa,c,w',hrun,h2,h3,h4⟩:=OA w t e o.type k bytes z hu hinfo X9 hk hby base v0 n0 yI hown v1 m news hsrc hlen h1 hl hbase nn hnn;unfold Oper.wpIn;refine⟨?_,?_⟩
 ·simp[Oper.about,ho,resolve,Target.leads,Sem.run_pure]
 ·rw[Oper.semAt_plain F _ _ (by rw[ho];intro c hc';cases hc')]
  simp[execOp,ho,resolve,invoke,builtin,hs,hx,hrun,Result.andThen];exact hK' _ _ (h oa c w' h2 h3 h4)
open Lib(hid)
set_option maxHeartbeats 8000000
set_option maxRecDepth 100000
open Go.RowKit Go.Shelf
attribute [local go_sem] Oper.semAt_some
def Gm(Bx:Nat)(ao:Option Addr)(n b:Nat):Prop:=b=Bx\/(0<n/\∃off,ao=some ⟨b,off,none⟩)
def qh(nv:Nat->Nd)(i:Nat):Bool:=decide ((nv i).k=17)||decide ((nv i).k=18)
def ziS(n:Nat)(Bx:Nat)(ao:Option Addr)(nv:Nat->Nd)(J:List Nat->(Nat->Prop)->World->Prop)(W:World)(v7:Value)(wr:World):Prop:=
 ∃k:Nat,k<=n/\v7=.int .i64 (k:Int)/\J (jm (qh nv) k) (λ_=>False) wr/\W.heap.size<=wr.heap.size/\∀b,b<W.heap.size->Gm Bx ao n b->wr.heap[b]?=W.heap[b]?
theorem zaD{P:Nat->Bool}{i n:Nat}(h:P i=true)(hi:i<n):∃rest,jm P n=jm P i++i::rest:=by
 have h1:jm P (i+1)=jm P i++ [i]:=by rw[Eh,if_pos h]
 have h2:=ziT P (i+1) (n-(i+1));rw[show i+1+(n-(i+1))=n from by omega,h1]at h2;obtain⟨r,hr⟩:=h2;exact⟨r,by rw[←hr,List.append_assoc];rfl⟩
theorem zaE(m:Nat)(hm:1<=m)(Bx:Nat)(ao:Option Addr)(n c:Nat)(nv:Nat->Nd)(hn:n<=10000)(W:World)(hb:zf W Bx #[.slice ao n c] 26)(hrow:kz W ao n nv):
  Yw m Tryz.prog 69 #[.pointer (some ⟨Bx,0,none⟩)] (λx:Nat=> #[.int .i64 (x:Int)]) (Gm Bx ao n) (jm (qh nv) n) W:=by
 intro l J Jx hJ hJx hY h0;have hro:Fence.wide.round=none:=rfl;have hfn:Fence.wide.fn 69:=trivial;have Yb:=hid hrow;have HB:=hid hb;have hcb:=hb.cell 0;simp at hcb;clear hrow hb;refine callsIn_of_wp Tryz.func69 rfl hfn ?_ hro;simp only[Tryz.ntmps69,List.size_toArray,List.length_cons,List.length_nil,Nat.reduceAdd,Nat.reduceSub,Array.replicate_succ,Array.replicate_zero,List.push_toArray,List.append_toArray,List.nil_append,List.cons_append]
 gi_wp2
 clear hcb
 gi_loopw [7] (λv7 wr=>ziS n Bx ao nv J W v7 wr) (λv7 _=>n-(intOf v7).toNat)
 case atStart=>exact⟨0,Nat.zero_le _,rfl,h0,Nat.le_refl _,λ_ _ _=>rfl⟩
 case round=>
  obtain⟨k,hk,rfl,hJs,hsz,hsame⟩:=hrel;by_cases hlt:k<n
  ·obtain⟨b,off,hao,hbw,c0,c1,c2,c3⟩:=(Yb.out.kept hsz (λb off h1 h2=>hsame b h2 (.inr ⟨by omega,off,h1⟩))) k hlt
   subst hao;obtain⟨P,hP⟩:∃P,nv k=P:=⟨_,rfl⟩;rw[hP]at c0 c1 c2 c3;obtain⟨pk,pf,pt,pu⟩:=P;simp only at c0 c1 c2 c3;have q0:(0:Int)<=(k:Int):=by omega
   have q1:(k:Int)<(n:Int):=by omega
   have e1:IntKind.i64.wrap ((k:Int)+1)=((k+1:Nat):Int):=by rw[IntWalk.i64_in _ (by omega)];rfl
   have hbW:zg (λ_=>False) wr (wr.alloc (.cells #[.int .i64 pk,.int .i64 pf,.int .i64 pt,.int .i64 pu] 32)):=(zg.refl _ wr).alloc _;have hnb:=zf.new wr #[.int .i64 pk,.int .i64 pf,.int .i64 pt,.int .i64 pu] 32;obtain⟨W2,hW2⟩:∃W2,wr.alloc (.cells #[.int .i64 pk,.int .i64 pf,.int .i64 pt,.int .i64 pu] 32)=W2:=⟨_,rfl⟩;rw[hW2]at hbW hnb;have m0:W2.cell? ⟨wr.heap.size,0,none⟩=some (.int .i64 pk):=hnb.cell 0;have hJ2:=hJ _ _ _ _ (λ_=>False) hJs hbW (λ_ h=> .inl h);have hs2:=hbW.size;have zaF:∀b',b'<W.heap.size->Gm Bx (some ⟨b,off,none⟩) n b'->W2.heap[b']?=W.heap[b']?:=λb' h1 h2=>(hbW.block b' (by omega) (λh=>h)).trans (hsame b' h1 h2);have Xg:=hid zaF;have HJ2:=hid hJ2;have HP:=hid hP;have hfb:qh nv k=(decide (pk=17)||decide (pk=18)):=by unfold qh;rw[hP]
   have hss:=Eh (qh nv) k;clear hP hnb hbW hJs hsame zaF hJ2;by_cases h17:pk=17
   ·subst h17
    have Ko:qh nv k=true:=by rw[hfb];rfl
    rw[if_pos Ko]at hss;obtain⟨rest,hcut⟩:=zaD Ko hlt;obtain⟨fn,tmps,assign,body,hy,hR⟩:=hY _ k _ _ W2 hcut HJ2.out (λb h=>h.elim);have NC:=hid hss;clear hfb Ko hcut hss
    gi_wp2
    refine hR.mono ?_;rintro e W3 ⟨hk3,(⟨rfl,hJ3⟩|⟨rfl,hJx3⟩)⟩
    ·have hs3:=hk3.size
     have ND:=hid hk3;clear hk3
     gi_wp2
     go_roundw
     case rel=>exact⟨k+1,by omega,rfl,by rw[NC.out];exact hJ3,by omega,λb' h1 h2=>(ND.out.same b' (by omega) (.inr h2)).trans (Xg.out b' h1 h2)⟩
     case measure=>simp[intOf]<;>omega
    ·gi_wp2
     refine bodyPost_ret (results_none rfl _ _ _) rfl ?_;exact⟨⟨_,rfl⟩,.inr ⟨_,_,hJx3⟩⟩
   ·have t17:(pk==17)=false:=by simpa using h17
    by_cases h18:pk=18
    ·subst h18
     have Ko:qh nv k=true:=by rw[hfb];rfl
     rw[if_pos Ko]at hss;obtain⟨rest,hcut⟩:=zaD Ko hlt;obtain⟨fn,tmps,assign,body,hy,hR⟩:=hY _ k _ _ W2 hcut HJ2.out (λb h=>h.elim);have NC:=hid hss;clear hfb Ko hcut hss t17 h17
     gi_wp2
     refine hR.mono ?_;rintro e W3 ⟨hk3,(⟨rfl,hJ3⟩|⟨rfl,hJx3⟩)⟩
     ·have hs3:=hk3.size
      have ND:=hid hk3;clear hk3
      gi_wp2
      go_roundw
      case rel=>exact⟨k+1,by omega,rfl,by rw[NC.out];exact hJ3,by omega,λb' h1 h2=>(ND.out.same b' (by omega) (.inr h2)).trans (Xg.out b' h1 h2)⟩
      case measure=>simp[intOf]<;>omega
     ·gi_wp2
      refine bodyPost_ret (results_none rfl _ _ _) rfl ?_;exact⟨⟨_,rfl⟩,.inr ⟨_,_,hJx3⟩⟩
    ·have t18:(pk==18)=false:=by simpa using h18
     have Ko:qh nv k=false:=by rw[hfb,decide_eq_false h17,decide_eq_false h18];rfl
     rw[if_neg (by rw[Ko];decide),List.append_nil]at hss;have NC:=hid hss;clear hfb Ko hss h17 h18
     gi_wp2
     refine⟨(λf h=>by cases h),?_⟩
     gi_wp2
     go_roundw
     case rel=>exact⟨k+1,by omega,rfl,by rw[NC.out];exact HJ2.out,by omega,Xg.out⟩
     case measure=>simp[intOf]<;>omega
  ·obtain rfl:k=n:=by omega
   have hneg:¬(k:Int)<(k:Int):=by omega
   gi_wp2
   go_end0
   exact⟨⟨_,rfl⟩,.inl ⟨_,hJs⟩⟩
open _root_.Nat renaming le_refl->waa
attribute [local go_sem] Oper.semAt_some
theorem zaG{w:World}{base b:Nat}{e:TypeId}{k n:Nat}{v:Value}{xs:List Value}(h:w.ownsRow base e k v n xs)(hb:b<=base):w.ownsRow b e k v n xs:=
 Df h (λg hg=>Nat.le_trans hb (xx h g hg))
def PQ(w:World)(z Ba:Nat)(pre:List Nat)(T:Nat->Prop)(W:World):Prop:=
 ∃v,zf W Ba #[v] 39/\W.ownsRow (z+2) 3 1 v pre.length (Za pre)/\(∀g,v.ownBlock=some g->¬T g)/\(∀b,T b->z+2<=b)/\z+2<=W.heap.size/\Below w.heap.size w W
theorem PQ.Ze{w:World}{z Ba:Nat}(hb:Ba<z)(hw:w.heap.size<=z):Yx (z+1) (PQ w z Ba):=by
 rintro pre T W W' T' ⟨v,h1,h3,h2,hT,Xy,hB⟩ hf hT';have no:∀b,b<z->¬(T b\/b=z+1):=λb hb hh=>by rcases hh with g|g;have:=hT b g;omega;omega
 refine⟨v,h1.zh hf (no _ hb),xq hf h3 (λg hg hh=>?_),λg hg hh=>?_,λb hb=>?_,?_,?_⟩
 ·rcases hh with e|e
  ·exact h2 g hg e
  ·have:=xx h3 g hg;omega
 ·rcases hT' g hh with e|e
  ·exact h2 g hg e
  ·have:=kK h3 g hg;omega
 ·rcases hT' b hb with e|e
  ·exact hT b e
  ·omega
 ·have:=hf.size;omega
 ·exact hB.trans ((hf.below (n:=w.heap.size) hB.size (λb hh=>by rcases hh with e|e;have:=hT b e;omega;omega)))
def Dh(w:World)(z:Nat)(pre:List Nat)(T:Nat->Prop)(W:World):Prop:=(∀b,T b->z+2<=b)/\z+2<=W.heap.size/\Below w.heap.size w W
theorem Dh.Ze{w:World}{z:Nat}(hw:w.heap.size<=z):Yx (z+1) (Dh w z):=by
 rintro pre T W W' T' ⟨hT,Xy,hB⟩ hf hT';refine⟨λb hb=>?_,?_,?_⟩
 ·rcases hT' b hb with e|e
  ·exact hT b e
  ·omega
 ·have:=hf.size;omega
 ·exact hB.trans ((hf.below (n:=w.heap.size) hB.size (λb hh=>by rcases hh with e|e;have:=hT b e;omega;omega)))
section
variable(w:World)
theorem ziU(Bx:Nat)(ao:Option Addr)(len cap:Nat)(nv:Nat->Nd)(hbx:zf w Bx #[.slice ao len cap] 26)(hrow:kz w ao len nv)(hl:len<=10000):
  Calls prog 68 #[.slice none 0 0,.func (.func 69) #[] #[.pointer (some ⟨Bx,0,none⟩)]] w λe w'=>∃v,e=.returned v/\w'.ownsRow w.heap.size 3 1 v (jm (qh nv) len).length (Za (jm (qh nv) len))/\Below w.heap.size w w':=by
 have Yb:=hid hrow;have yh:=hid hbx;have hll:=ziV (qh nv) len;refine(callsIn_wide (n:=5)).1 ?_;have hfn:Fence.wide.fn 68:=trivial;have bb:=zf.new w #[.slice none 0 0] 39;have hB0:Below w.heap.size w (w.alloc (.cells #[.slice none 0 0] 39)):=(Below.refl _ w).alloc (waa _) _;have hz0:(w.alloc (.cells #[.slice none 0 0] 39)).heap.size=w.heap.size+1:=by simp
 clear hrow hbx;refine callsIn_of_wp_marks func68 rfl hfn ?_ rfl;refine(wpIn_wide (n:=5)).2 ?_;simp only[ntmps68,List.size_toArray,List.length_cons,List.length_nil,Nat.reduceAdd,Nat.reduceSub,Array.replicate_succ,Array.replicate_zero,List.push_toArray,List.append_toArray,List.nil_append,List.cons_append];obtain⟨W1,hW1⟩:∃X,w.alloc (.cells #[.slice none 0 0] 39)=X:=⟨_,rfl⟩;rw[hW1]at bb hB0 hz0;obtain⟨Ba,h6⟩:∃x,w.heap.size=x:=⟨_,rfl⟩;have H6:=hid h6;have ziW:=yh.out.lt;rw[h6]at bb hz0 ziW;have hBw:Below w.heap.size w W1:=hB0;have hrow1:kz W1 ao len nv:=Yb.out.below hBw;have zaH:=yh.out.below hBw;have hseq:∀W,Below W1.heap.size W1 W->Yw (5-1) prog 69 #[.pointer (some ⟨Bx,0,none⟩)] (λx:Nat=> #[.int .i64 (x:Int)]) (Gm Bx ao len) (jm (qh nv) len) W:=λW hW=>
  zaE 4 (by omega) Bx ao len cap nv hl W (zaH.below hW) (hrow1.below hW)
 have hord:Ba<W1.heap.size/\w.heap.size<=W1.heap.size:=by omega
 have wu:∀b,Gm Bx ao len b->(b<Ba\/Ba<b)/\b<W1.heap.size:=by
  rintro b (rfl|⟨h1,off,h2⟩)
  ·omega
  ·obtain⟨b',off',e,hlt,_⟩:=Yb.out 0 h1
   rw[h2]at e;injection e with e;injection e with e1 e2;omega
 have Jo:=hid hseq;have wz:=hid wu;have HL:=hid (And.intro hl hll);have cb:=bb;clear hseq wu bb hB0 hz0 hrow1 zaH hl hll;go_wp2;refine(wpIn_wide (n:=5)).1 (mM (L:=jm (qh nv) len) (encs:=λx:Nat=> #[.int .i64 (x:Int)]) (C:=Gm Bx ao len) (gf:=69) (lb:=#[.pointer (some ⟨Bx,0,none⟩)]) rfl (enters_of func69 (by kernel_rfl) rfl) Jo.out (λb hb=>(wz.out b hb).2) ?hps
  (PQ w W1.heap.size Ba) (λ_ _ _ _=>False) (PQ.Ze hord.1 hord.2) (λ_ _ _ _ _ _ h _ _=>h) ?start ?round ?fin ?stop)
 case hps=>intro x;rfl
 case start=>
  intro W hB hz;exact⟨.slice none 0 0,cb.below hB,World.ownsRow_nil _ _ _ _,(λg hg=>by cases hg),(λb hb=>hb.elim),by omega,hBw.trans (hB.mono hBw.size)⟩
 case stop=>rintro c pre T W h;exact h.elim
 case fin=>
  rintro T W ⟨v,h1,h3,h2,hT,Xy,hB⟩ Vd hWd;have c0:=h1.cell 0;have H3:=hid h3;have HD:=hid hWd;clear h2 h3;dsimp only;go_wp2;refine⟨by simp,.inl ⟨_,_,rfl,run_takeDeferred HD.out,?_⟩⟩;refine⟨v,?_,⟨v,rfl,?_,?_⟩⟩
  ·simp[results,Tryz.f68,go_sem]
  ·have hne:∀g,v.ownBlock=some g->g≠W1.heap.size:=λg hg=>by have:=xx H3.out g hg;omega
   have:=xq (p:=λb=>b=W1.heap.size) (jA W (l:=W1.heap.size) (.deferred none) rfl) H3.out hne;exact zaG this (by omega)
  ·exact hB.trans (belowK_b (w:=w) (waa _) W W1.heap.size _ _ (by omega) HD.out rfl rfl)
 case round=>
  rintro pre x rest T W hLx ⟨v,h1,h3,h2,hT,Xy,hB⟩ jG Vd hrec hdef t1 t2
  gi_wp2
  refine⟨trivial,trivial,zO.refl _ _ _,λr=>?_⟩;obtain⟨W3,hW3⟩:∃X,W.putObj (W1.heap.size+1) (.loop r)=X:=⟨_,rfl⟩;have z3:W3.heap.size=W.heap.size:=by rw[←hW3];simp
  have hF3:zg (λb=>b=W1.heap.size+1) W W3:=by
   rw[←hW3];exact jA (p:=λb=>b=W1.heap.size+1) W _ rfl
  rw[hW3];clear hW3 hrec hdef;have hb3:=h1.zh hF3 (by omega);have ho3:=xq hF3 h3 (λg hg e=>by have:=xx h3 g hg;omega);have JB:Below w.heap.size w W3:=hB.trans (hF3.below (by omega) (λb hb=>by omega));have Ei:pre.length+1<=10000:=by
   have h5:=HL.out;rw[hLx,List.length_append,List.length_cons]at h5;omega
  obtain⟨z,hz⟩:∃z,pre.length=z:=⟨_,rfl⟩;rw[hz]at ho3 Ei;have c3:=hb3.cell 0;have f3:=hb3.frozen 0;have hvl:=kK h3;have hvg:=xx h3;have NF:=hid ho3;have HZ:=hid hz;have HB3:=hid hb3;have HZ3:=hid z3;have dY:=hid hvl;have Kq:=hid hvg;have H2:=hid h2;clear h1 h2 h3 hLx ho3 hz hb3 z3 hvl hvg;simp only[List.getElem?_toArray,List.getElem?_cons_zero]at c3
  gi_wp2_with (gi_at_builtin;go_must (refine zdM rfl _ _ 39 3 1 8 _ rfl underlying39 ziX rfl (by omega) (by omega) (W1.heap.size+2) v z (Za pre) rfl (zdK NF.out _) _ 1 [.int .i64 (x:Int)] rfl (zdL _ _ _) rfl (by simp[Value.oneCell']) (by omega) (by rw[World.size_alloc,HZ3.out];omega) (z+1) rfl ?_);intro VL c8 W8 JY Zz LH;have b8:=(HB3.out.alloc (.cells #[.int .i64 (x:Int)] 3)).grown Zz (λe=>by have:=Kq.out _ e.symm;have:=hord.1;omega);have d8:=b8.cell 0;have e8:=b8.frozen 0)
  have PR:zg (λb=>b=Ba\/v.ownBlock=some b) W3 W8:=((zg.refl (λb=>b=Ba\/v.ownBlock=some b) W3).alloc _).grown Zz (λk hk=> .inl (.inr hk));have Zj:zg (λb=>b=Ba\/v.ownBlock=some b) W3 (W8.setCell ⟨Ba,0,none⟩ (.slice VL (z+1) c8)):=PR.setCell 0 (.inl (.inl rfl)) _;have hno:∀b,b<W1.heap.size+2->b≠Ba->¬(b=Ba\/v.ownBlock=some b):=λb hb hn hh=>by
   rcases hh with e|e
   ·exact hn e
   ·have:=Kq.out b e;omega
  have hs8:=PR.size;have hz3:=HZ3.out;have k9:=b8.set 0 (.slice VL (z+1) c8);have ziY:=xx JY;have Ej:=xq (p:=λb=>b=Ba) (zg.setCell (p:=λb=>b=Ba) (zg.refl _ W8) 0 (.inl rfl) (.slice VL (z+1) c8)) JY (λg hg e=>by have:=ziY g hg;omega);refine⟨Zj.block _ (by omega) (hno _ (by omega) (by omega)),Zj.block _ (by omega) (hno _ (by omega) (by omega)),zO.RQ Zj (λb _ hb=>⟨λht=>?_,λhc=>?_⟩),⟨.slice VL (z+1) c8,k9,?_,λg hg ht=>?_,hT,?_,?_⟩⟩
  ·rcases hb with e|e
   ·have:=hT b ht;omega
   ·exact H2.out b e ht
  ·have h1:=wz.out b hc
   rcases hb with e|e
   ·omega
   ·have:=Kq.out b e;omega
  ·rw[List.length_append,HZ.out,ziZ]
   exact Ej
  ·rcases LH with e|e
   ·exact H2.out g (e.symm.trans hg) ht
   ·rw[e,World.size_alloc,HZ3.out]at hg
    injection hg with hg;have:=jG g ht;omega
  ·have:=Zj.size;omega
  ·exact JB.trans (Zj.below (by have:=JB.size;omega) (λb hb=>by
    have:=H6.out;rcases hb with e|e
    ·omega
    ·have:=Kq.out b e;omega))
theorem zaI(ao:Option Addr)(len cap:Nat):Calls prog 43 #[.slice ao len cap] w λe w'=>e=.returned (.func (.func 69) #[] #[.pointer (some ⟨w.heap.size,0,none⟩)])/\w'=w.alloc (.cells #[.slice ao len cap] 26):=by
 have hmf:∀(fn:Fn) (first cap:Array Value) (W:World),(Instr.makeFunc fn first cap).run prog W=.ok (.func fn first cap) W:=λ_ _ _ _=>rfl;go_enter func43,ntmps43;go_wp2;go_ret;exact⟨rfl,rfl⟩
theorem zi0(Bx:Nat)(ao:Option Addr)(len cap:Nat)(nv:Nat->Nd)(hbx:zf w Bx #[.slice ao len cap] 26)(hrow:kz w ao len nv)(hl:len<=10000):
  Calls prog 42 #[.func (.func 69) #[] #[.pointer (some ⟨Bx,0,none⟩)]] w λe w'=>∃v,e=.returned v/\w'.ownsRow w.heap.size 3 1 v (jm (qh nv) len).length (Za (jm (qh nv) len))/\Below w.heap.size w w':=by
 have HC:=hid (ziU w Bx ao len cap nv hbx hrow hl);clear hbx hrow hl;go_enter func42,ntmps42
 go_wp2_with fail
 refine HC.out.mono ?_;rintro e w1 ⟨v,rfl,hO,hB⟩;have H:=hid (And.intro hO hB);clear hO hB;go_wp2;go_ret;exact⟨v,rfl,H.out⟩
theorem zi1(ao:Option Addr)(len cap:Nat)(nv:Nat->Nd)(hrow:kz w ao len nv)(hl:len<=10000):
  Calls prog 19 #[.slice ao len cap] w λe w'=>∃v,e=.returned v/\w'.ownsRow w.heap.size 3 1 v (jm (qh nv) len).length (Za (jm (qh nv) len))/\Below w.heap.size w w':=by
 have hb:Below w.heap.size w (w.alloc (.cells #[.slice ao len cap] 26)):=(Below.refl _ w).alloc (waa _) _;have HF:=hid (zaI w ao len cap);have HC:=hid (zi0 _ w.heap.size ao len cap nv (zf.new w _ _) (hrow.below hb) hl);have HB:=hid hb;clear hb hrow hl;go_enter func19,ntmps19
 go_wp2_with fail
 refine HF.out.mono ?_;rintro e w1 ⟨rfl,rfl⟩
 go_wp2_with fail
 refine HC.out.mono ?_;rintro e w2 ⟨v,rfl,hO,hB⟩;have H:=hid (And.intro (zaG (b:=w.heap.size) hO (by simp)) (HB.out.trans (hB.mono (by simp))));clear hO hB;go_wp2;go_ret;exact⟨v,rfl,H.out⟩
end
def PT(w:World)(z Br:Nat)(pre:List Nat)(T:Nat->Prop)(W:World):Prop:=pre=[]/\zf W Br #[.bool false] 4/\Dh w z pre T W
def PU(w:World)(z Br:Nat)(L:List Nat)(c:Code)(pre:List Nat)(T:Nat->Prop)(W:World):Prop:=c=.ret/\L≠ []/\zf W Br #[.bool false] 4/\Dh w z pre T W
theorem PT.Ze{w:World}{z Br:Nat}(hb:Br<z)(hw:w.heap.size<=z):Yx (z+1) (PT w z Br):=by
 rintro pre T W W' T' ⟨h0,h1,h2⟩ hf hT';refine⟨h0,h1.zh hf (λhh=>?_),Dh.Ze hw pre T W W' T' h2 hf hT'⟩;rcases hh with g|g
 ·have:=h2.1 _ g;omega
 ·omega
theorem PU.Ze{w:World}{z Br:Nat}{L:List Nat}(hb:Br<z)(hw:w.heap.size<=z)(c:Code):Yx (z+1) (PU w z Br L c):=by
 rintro pre T W W' T' ⟨h0,h00,h1,h2⟩ hf hT';refine⟨h0,h00,h1.zh hf (λhh=>?_),Dh.Ze hw pre T W W' T' h2 hf hT'⟩;rcases hh with g|g
 ·have:=h2.1 _ g;omega
 ·omega
section
variable(w:World)
theorem zi2(ao:Option Addr)(len cap:Nat)(nv:Nat->Nd)(hrow:kz w ao len nv)(hl:len<=10000):
  Calls prog 20 #[.slice ao len cap] w λe w'=>e=.returned (.bool (decide (jm (qh nv) len=[])))/\Below w.heap.size w w':=by
 have Yb:=hid hrow;obtain⟨bo,JZ⟩:∃bo,decide (jm (qh nv) len=[])=bo:=⟨_,rfl⟩;rw[JZ];have HBO:=hid JZ;clear JZ;refine(callsIn_wide (n:=5)).1 ?_;have hfn:Fence.wide.fn 20:=trivial;have bb:=zf.new w #[.bool false] 4;have hB0:Below w.heap.size w (w.alloc (.cells #[.bool false] 4)):=(Below.refl _ w).alloc (waa _) _;have hz0:(w.alloc (.cells #[.bool false] 4)).heap.size=w.heap.size+1:=by simp
 clear hrow;refine callsIn_of_wp_marks func20 rfl hfn ?_ rfl;refine(wpIn_wide (n:=5)).2 ?_;simp only[ntmps20,List.size_toArray,List.length_cons,List.length_nil,Nat.reduceAdd,Nat.reduceSub,Array.replicate_succ,Array.replicate_zero,List.push_toArray,List.append_toArray,List.nil_append,List.cons_append];obtain⟨W0,hW0⟩:∃X,w.alloc (.cells #[.bool false] 4)=X:=⟨_,rfl⟩;rw[hW0]at bb hB0 hz0;have wY:=hid (zaI W0 ao len cap);obtain⟨Br,h6⟩:∃x,w.heap.size=x:=⟨_,rfl⟩;have H6:=hid h6;rw[h6]at bb hz0
 go_wp2_with fail
 refine wY.out.mono ?_;rintro en W1 ⟨rfl,hW1⟩;obtain⟨Bx,h5⟩:∃x,W0.heap.size=x:=⟨_,rfl⟩;have bx:=zf.new W0 #[.slice ao len cap] 26;rw[←hW1]at bx;have hB1:Below W0.heap.size W0 W1:=by rw[hW1];exact(Below.refl _ _).alloc (waa _) _
 have hz1:W1.heap.size=W0.heap.size+1:=by rw[hW1];simp
 rw[h5]at bx hz1 ⊢;have hBw:Below w.heap.size w W1:=hB0.trans (hB1.mono hB0.size);have hrow1:kz W1 ao len nv:=Yb.out.below hBw;have hseq:∀W,Below W1.heap.size W1 W->Yw (5-1) prog 69 #[.pointer (some ⟨Bx,0,none⟩)] (λx:Nat=> #[.int .i64 (x:Int)]) (Gm Bx ao len) (jm (qh nv) len) W:=λW hW=>
  zaE 4 (by omega) Bx ao len cap nv hl W (bx.below hW) (hrow1.below hW)
 have hord:Br<W1.heap.size/\w.heap.size<=W1.heap.size:=by omega
 have wu:∀b,Gm Bx ao len b->(b<Br\/Br<b)/\b<W1.heap.size:=by
  rintro b (rfl|⟨h1,off,h2⟩)
  ·omega
  ·obtain⟨b',off',e,hlt,_⟩:=Yb.out 0 h1
   rw[h2]at e;injection e with e;injection e with e1 e2;omega
 have Jo:=hid hseq;have wz:=hid wu;have cb:=bb.below (hB1.mono (waa _));clear hseq wu h6 bb hB0 hz0 hB1 hz1 hrow1 bx h5 hl hW1 hW0;go_wp2;refine(wpIn_wide (n:=5)).1 (mM (L:=jm (qh nv) len) (encs:=λx:Nat=> #[.int .i64 (x:Int)]) (C:=Gm Bx ao len) (gf:=69) (lb:=#[.pointer (some ⟨Bx,0,none⟩)]) rfl (enters_of func69 (by kernel_rfl) rfl) Jo.out (λb hb=>(wz.out b hb).2) ?hps
  (PT w W1.heap.size Br) (PU w W1.heap.size Br (jm (qh nv) len)) (PT.Ze hord.1 hord.2) (PU.Ze hord.1 hord.2) ?start ?round ?fin ?stop)
 case hps=>intro x;rfl
 case start=>
  intro W hB hz;exact⟨rfl,cb.below hB,λb hb=>hb.elim,by omega,hBw.trans (hB.mono hBw.size)⟩
 case round=>
  rintro pre x rest T W hLx ⟨rfl,h1,hT,Xy,hB⟩ jG Vd hrec hdef t1 t2
  gi_wp2
  refine⟨trivial,trivial,zO.refl _ _ _,λr=>?_⟩;obtain⟨W3,hW3⟩:∃X,W.putObj (W1.heap.size+1) (.loop r)=X:=⟨_,rfl⟩;have z3:W3.heap.size=W.heap.size:=by rw[←hW3];simp
  have hF3:zg (λb=>b=W1.heap.size+1) W W3:=by
   rw[←hW3];exact jA (p:=λb=>b=W1.heap.size+1) W _ rfl
  rw[hW3];clear hW3 hrec hdef;have hb3:=h1.zh hF3 (by omega);have JB:Below w.heap.size w W3:=hB.trans (hF3.below (by omega) (λb hb=>by omega));have c3:=hb3.cell 0;have f3:=hb3.frozen 0;simp only[List.getElem?_toArray,List.getElem?_cons_zero]at c3;have k4:=hb3.set 0 (.bool false);have jh:zg (λb=>b=Br) W3 (W3.setCell ⟨Br,0,none⟩ (.bool false)):=(zg.refl _ _).put 0 _;have HK4:=hid k4;have NG:=hid jh;have zaJ:=hid JB;have Di:=hid (show jm (qh nv) len≠ []from by rw[hLx];simp);clear hb3 k4 jh JB h1 hLx hF3
  gi_wp2
  have hs4:=NG.out.size;refine⟨NG.out.block _ (by omega) (by omega),NG.out.block _ (by omega) (by omega),zO.RQ NG.out (λb _ hb=>⟨λht=>?_,λhc=>?_⟩),rfl,Di.out,HK4.out,hT,by omega,zaJ.out.trans (NG.out.below (by have:=zaJ.out.size;omega) (λb hb=>by have:=H6.out;omega))⟩
  ·have:=hT b ht;omega
  ·have:=wz.out b hc;omega
 case fin=>
  rintro T W ⟨h0,h1,hT,Xy,hB⟩ Vd hWd;have f0:=h1.frozen 0;have c0:=h1.cell 0;simp only[List.getElem?_toArray,List.getElem?_cons_zero]at c0;have k1:=h1.set 0 (.bool true);have c1:=k1.cell 0;simp at c1;have hF:=(zg.refl (λb=>b=Br) W).put 0 (.bool true);have hbt:bo=true:=by rw[←HBO.out];exact decide_eq_true h0
  subst hbt;have zaK:=(hF.block W1.heap.size (by omega) (by omega)).trans hWd;have HD:=hid zaK;have HX:=hid (show Below w.heap.size w (W.setCell ⟨Br,0,none⟩ (.bool true))from hB.trans (hF.below hB.size (λb hb=>by have:=H6.out;omega)));have wZ:=hid c1;clear h0 h1 hWd zaK hF k1 c1 hB;dsimp only;go_wp2;have hcc:((W.setCell ⟨Br,0,none⟩ (.bool true)).putObj W1.heap.size (.deferred none)).cell? ⟨Br,0,none⟩=some (.bool true):=(World.cell?_of_block (show((W.setCell ⟨Br,0,none⟩ (.bool true)).putObj W1.heap.size (.deferred none)).heap[Br]?=(W.setCell ⟨Br,0,none⟩ (.bool true)).heap[Br]? from World.putObj_heap_other (by omega))).trans wZ.out;refine⟨by simp,.inl ⟨_,_,rfl,run_takeDeferred HD.out,?_⟩⟩;refine⟨.bool true,?_,rfl,?_⟩
  ·simp[results,Tryz.f20,go_sem,hcc]
  ·exact HX.out.trans (belowK_b (w:=w) (waa _) _ W1.heap.size _ _ (by omega) HD.out rfl rfl)
 case stop=>
  rintro c pre T W ⟨rfl,h0,h1,hT,Xy,hB⟩ Vd hWd;have c0:=h1.cell 0;simp only[List.getElem?_toArray,List.getElem?_cons_zero]at c0;have HD:=hid hWd;have hbt:bo=false:=by rw[←HBO.out];exact decide_eq_false h0
  subst hbt;dsimp only
  gi_wp2
  have hcc:(W.putObj W1.heap.size (.deferred none)).cell? ⟨Br,0,none⟩=some (.bool false):=(World.cell?_of_block (show(W.putObj W1.heap.size (.deferred none)).heap[Br]?=W.heap[Br]? from World.putObj_heap_other (by omega))).trans c0;refine⟨by simp,.inl ⟨_,_,rfl,run_takeDeferred HD.out,?_⟩⟩;refine⟨.bool false,?_,rfl,?_⟩
  ·simp[results,Tryz.f20,go_sem,hcc]
  ·exact hB.trans (belowK_b (w:=w) (waa _) _ W1.heap.size _ _ (by omega) HD.out rfl rfl)
end
end Go.Proofs.YtkolpaonccmgiaaGreatDoor.Q

/- A range over a function whose iterator keeps state -/
import Derived.RangeFuncBound
import Derived.Test.YtkolpaonccmgiaaGreatDoorQg
import Derived.Shelf.RegionOpen
import Derived.Maps.OwnIn
namespace Go.Proofs.YtkolpaonccmgiaaGreatDoor
set_option linter.unusedSectionVars false
set_option linter.unusedVariables false
open _root_.Array renaming getElem?_eq_some_iff->waj
open _root_.ByteArray renaming empty->war
open Go.RowKit
def Y4{β:Type}(J:β->(Nat->Prop)->World->Prop):Prop:=
 ∀s T W W' T',J s T W->zg T W W'->(∀b,T' b->T b\/W.heap.size<=b)->J s T' W'
def Yx{β:Type}(l:Nat)(J:β->(Nat->Prop)->World->Prop):Prop:=
 ∀s T W W' T',J s T W->zg (λb=>T b\/b=l) W W'->(∀b,T' b->T b\/W.heap.size<=b)->J s T' W'
structure zO(C T:Nat->Prop)(W W':World):Prop where
 size:W.heap.size<=W'.heap.size
 same:∀b,b<W.heap.size->(T b\/C b)->W'.heap[b]?=W.heap[b]?
theorem zO.refl(C T:Nat->Prop)(W:World):zO C T W W:=⟨Nat.le_refl _,λ_ _ _=>rfl⟩
theorem zO.trans{C T:Nat->Prop}{X Y Z:World}(h:zO C T X Y)(k:zO C T Y Z):zO C T X Z:=
 ⟨Nat.le_trans h.size k.size,λb hb ht=>(k.same b (Nat.lt_of_lt_of_le hb h.size) ht).trans (h.same b hb ht)⟩
theorem zO.RQ{C T p:Nat->Prop}{X Y:World}(h:zg p X Y)(hp:∀b,b<X.heap.size->p b->¬T b/\¬C b):zO C T X Y:=
 ⟨h.size,λb hb ht=>h.block b hb (λhh=>by have:=hp b hb hh;rcases ht with h|h;exact this.1 h;exact this.2 h)⟩
theorem zO.putObj{C T:Nat->Prop}{W:World}{l:Nat}(o:Obj)(ht:¬T l)(hc:¬C l):zO C T W (W.putObj l o):=
 ⟨by simp,λb hb h=>World.putObj_heap_other (λe=>by subst e;rcases h with h|h;exact ht h;exact hc h)⟩
theorem jA{p:Nat->Prop}(W:World){l:Nat}(o:Obj)(hp:p l):zg p W (W.putObj l o):=
 ⟨rfl,rfl,rfl,by simp,λk hk h=>World.putObj_heap_other (λe=>by subst e;exact h hp)⟩
theorem YieldAt.any{n m:Nat}{P:Program}{l:Nat}{args:Array Value}{W:World}{R:Ending->World->Prop}(h:YieldAt Fence.wide n P l args W R):YieldAt Fence.wide m P l args W R:=by
 obtain⟨fn,tmps,assign,body,h1,h2,h3⟩:=h;exact⟨fn,tmps,assign,body,h1,h2,λc cs _=>h3 c cs (by simp[Fence.room,Fence.wide])⟩
def Yw{α:Type}(n:Nat)(P:Program)(g:Nat)(lb:Array Value)(encs:α->Array Value)(C:Nat->Prop)(L:List α)(W:World):Prop:=
 ∀(l:Nat) (J Jx:List α->(Nat->Prop)->World->Prop),Y4 J->Y4 Jx->
  (∀pre x rest T W1,L=pre++x::rest->J pre T W1->(∀b,T b->b<W1.heap.size)->YieldAt Fence.wide (n-1) P l (encs x) W1 λe W'=>
   zO C T W1 W'/\((e=.returned (.bool true)/\J (pre++ [x]) T W')\/(e=.returned (.bool false)/\Jx (pre++ [x]) T W')))->
  J [] (λ_=>False) W->
  CallsIn Fence.wide n P g (#[.func (.yield l) #[] #[]]++lb) W λe W'=>(∃v,e=.returned v)/\((∃T,J L T W')\/(∃pre T,Jx pre T W'))
def SI{α:Type}(C:Nat->Prop)(l D:Nat)(I:List α->(Nat->Prop)->World->Prop)(Ix:Code->List α->(Nat->Prop)->World->Prop)(xs:List α)(T:Nat->Prop)(W:World):Exit->Act->World->Prop
 | .normal,_,W'=>W'.heap[l]?=W.heap[l]?/\W'.heap[D]?=W.heap[D]?/\zO C T W W'/\I xs T W'
 | .ret,_,W'=>W'.heap[l]?=W.heap[l]?/\W'.heap[D]?=W.heap[D]?/\zO C T W W'/\Ix .ret xs T W'
 | .exit id,_,W'=>W'.heap[l]?=W.heap[l]?/\W'.heap[D]?=W.heap[D]?/\zO C T W W'/\Ix (.exit id) xs T W'
 | .goto t,_,W'=>W'.heap[l]?=W.heap[l]?/\W'.heap[D]?=W.heap[D]?/\zO C T W W'/\Ix (.goto t) xs T W'
 | .panic _,_,_=>False
 | .outgrown,_,_=>False
variable{n:Nat}{P:Program}{w:World}
theorem mM{α:Type}{g:Operand}{ps:Array Tmp}{assign body:Code}{Q:Exit->Act->World->Prop}{a:Act}
 {gf:Nat}{lb:Array Value}(hg:a.eval g=.func (.func gf) #[] lb)(eg:∀args w,(callFunc gf args).run P w=.ok (.enter gf args) w)
 {encs:α->Array Value}{C:Nat->Prop}{L:List α}(hseq:∀W,Below w.heap.size w W->Yw (n-1) P gf lb encs C L W)
 (hC:∀b,C b->b<w.heap.size)(hps:∀x,(encs x).size=ps.size)
 (I:List α->(Nat->Prop)->World->Prop)(Ix:Code->List α->(Nat->Prop)->World->Prop)(hI:Yx (w.heap.size+1) I)(hIx:∀c,Yx (w.heap.size+1) (Ix c))
 (h0:∀W,Below w.heap.size w W->W.heap.size=w.heap.size+2->I [] (λ_=>False) W)
 (MB:∀pre x rest T W,L=pre++x::rest->I pre T W->(∀b,T b->b<W.heap.size)->w.heap.size+2<=W.heap.size->(∃r,W.heap[w.heap.size+1]?=some (.loop r))->W.heap[w.heap.size]?=some (.deferred (some []))->¬T (w.heap.size+1)->¬T w.heap.size->
   assign.wpIn (Fence.wide.inRound (w.heap.size+1)) (n-1-1) P (Exit.then (λa' W'=>W'.heap[w.heap.size+1]?=W.heap[w.heap.size+1]?/\W'.heap[w.heap.size]?=W.heap[w.heap.size]?/\zO C T W W'/\
    ∀r,body.wpIn (Fence.wide.inRound (w.heap.size+1)) (n-1-1) P (SI C (w.heap.size+1) w.heap.size I Ix (pre++ [x]) T (W'.putObj (w.heap.size+1) (.loop r))) a' (W'.putObj (w.heap.size+1) (.loop r))) (λ_ _ _=>False)) {tmps:=(ps.zip (encs x)).foldl (λt (p,v)=>t.setIfInBounds p v) a.tmps,defers:=[]} W)
  (hdone:∀T W,I L T W->w.heap.size+2<=W.heap.size->W.heap[w.heap.size]?=some (.deferred (some []))->Q .normal {a with defers:={target:=.collected w.heap.size,args:=#[]}::a.defers} W)
  (hstop:∀c pre T W,Ix c pre T W->w.heap.size+2<=W.heap.size->W.heap[w.heap.size]?=some (.deferred (some []))->c.wpIn Fence.wide n P Q {a with defers:={target:=.collected w.heap.size,args:=#[]}::a.defers} W):
  (Code.rangeFunc g ps assign body).wpIn Fence.wide n P Q a w:=by
 refine wpIn_rangeFunc ?_;intro fn hfn;rw[show Fence.wide.round=none from rfl];obtain⟨rec,hrec⟩:∃rec:LoopState->Option Code->Loop,rec=λst pe=>{state:=st,pending:=pe,fn,tmps:=a.tmps,params:=ps,assign,body,defers:=w.heap.size}:=⟨_,rfl⟩;obtain⟨W1,hW1⟩:∃W1,(w.alloc (.deferred (some []))).alloc (.loop (rec .ready none))=W1:=⟨_,rfl⟩;have hL1:W1.heap[w.heap.size+1]?=some (.loop (rec .ready none)):=by
  rw[←hW1];have:=World.alloc_heap_new (w.alloc (.deferred (some []))) (.loop (rec .ready none));rwa [World.size_alloc]at this
 have hD1:W1.heap[w.heap.size]?=some (.deferred (some [])):=by
  rw[←hW1];exact(Below.heap_alloc _ _ _ (by simp)).trans (World.alloc_heap_new w _)
 have hs1:W1.heap.size=w.heap.size+2:=by rw[←hW1];simp
 have hb1:Below w.heap.size w W1:=by rw[←hW1];exact((Below.refl _ w).alloc (Nat.le_refl _) _).alloc (by simp) _
 refine⟨w.heap.size+1,[{target:=.collected w.heap.size,args:=#[]}],W1,{target:=.fn (.func gf) lb,args:=#[.func (.yield (w.heap.size+1)) #[] #[]]},W1,gf,
  #[.func (.yield (w.heap.size+1)) #[] #[]]++lb,W1,?_,?_,?_,?_,(λh=>by cases h),?_⟩
 ·rw[←hW1,hrec];exact run_enterLoop_outer _ _ _ _ _
 ·simp only[resolve,hg]
  simp[go_sem]
 ·intro f' hf';trivial
 ·simp[invoke,go_sem,eg]
 ·refine(hseq W1 hb1 (w.heap.size+1)
   (λpre T W=>I pre T W/\W.heap[w.heap.size+1]?=some (.loop (rec .ready none))/\W.heap[w.heap.size]?=some (.deferred (some []))/\¬T (w.heap.size+1)/\¬T w.heap.size)
   (λpre T W=>∃c,Ix c pre T W/\W.heap[w.heap.size+1]?=some (.loop (rec .done (some c)))/\W.heap[w.heap.size]?=some (.deferred (some []))/\¬T (w.heap.size+1)/\¬T w.heap.size)
   ?_ ?_ ?_ ⟨h0 W1 hb1 hs1,hL1,hD1,λh=>h,λh=>h⟩).mono ?_
  ·rintro s T A B T' ⟨hi,hl,hd,t1,t2⟩ hf hT
   have l1:=(waj.1 hl).1;exact⟨hI s T A B T' hi (hf.mono λ_ _ h=> .inl h) hT,(hf.block _ l1 t1).trans hl,(hf.block _ (by omega) t2).trans hd,λh=>by rcases hT _ h with h|h;exact t1 h;omega,λh=>by rcases hT _ h with h|h;exact t2 h;omega⟩
  ·rintro s T A B T' ⟨c,hi,hl,hd,t1,t2⟩ hf hT
   have l1:=(waj.1 hl).1;exact⟨c,hIx c s T A B T' hi (hf.mono λ_ _ h=> .inl h) hT,(hf.block _ l1 t1).trans hl,(hf.block _ (by omega) t2).trans hd,λh=>by rcases hT _ h with h|h;exact t1 h;omega,λh=>by rcases hT _ h with h|h;exact t2 h;omega⟩
  ·rintro pre x rest T W hLx ⟨hi,hl,hd,t1,t2⟩ jG
   have c1:¬C (w.heap.size+1):=λh=>by have:=hC _ h;omega
   have l1:=(waj.1 hl).1;have hy:=run_yield (P:=P) (args:=encs x) hl (by rw[hrec];exact hps x);rw[hrec]at hy;refine⟨fn,_,assign,body,hy,roundIn_of_wpIn hfn (wpIn_mono (MB pre x rest T W hLx hi jG (by omega) ⟨_,hl⟩ hd t1 t2) ?_)⟩;clear hy;rintro e0 a' Wa he0
   cases e0 with
   |normal=>?_
   |ret=>exact he0.elim
   |exit id=>exact he0.elim
   |goto t=>exact he0.elim
   |panic ch=>exact he0.elim
   |outgrown=>exact he0.elim
   obtain⟨hla,MC,hka,hbody⟩:=he0;have hl2:=hla.trans hl;have hd2:=MC.trans hd;have l2:=(waj.1 hl2).1;refine⟨_,run_beginRound hl2 (by rw[hrec]),?_⟩;have hl3:(Wa.putObj (w.heap.size+1) (.loop {rec .ready none with state:=.busy})).heap[w.heap.size+1]?=some (.loop {rec .ready none with state:=.busy}):=World.putObj_heap_same l2;have hd3:(Wa.putObj (w.heap.size+1) (.loop {rec .ready none with state:=.busy})).heap[w.heap.size]?=some (.deferred (some [])):=(World.putObj_heap_other (by omega)).trans hd2;have hsame:∀b,T b->T b\/Wa.heap.size<=b:=λ_ h=> .inl h;refine wpIn_mono (hbody {rec .ready none with state:=.busy}) ?_;have fin:∀(jump:Option Code) (W3:World),W3.heap[w.heap.size+1]?=(Wa.putObj (w.heap.size+1) (.loop {rec .ready none with state:=.busy})).heap[w.heap.size+1]?->W3.heap[w.heap.size]?=(Wa.putObj (w.heap.size+1) (.loop {rec .ready none with state:=.busy})).heap[w.heap.size]?->
     (Instr.endRound (w.heap.size+1) jump).run P W3=.ok (.bool jump.isNone) (W3.putObj (w.heap.size+1) (.loop (rec (if jump.isNone then .ready else .done) jump)))/\
     (W3.putObj (w.heap.size+1) (.loop (rec (if jump.isNone then .ready else .done) jump))).heap[w.heap.size+1]?=some (.loop (rec (if jump.isNone then .ready else .done) jump))/\
     (W3.putObj (w.heap.size+1) (.loop (rec (if jump.isNone then .ready else .done) jump))).heap[w.heap.size]?=some (.deferred (some [])):=λjump W3 h1 h2=>by
    have hl4:=h1.trans hl3;have:=run_endRound (P:=P) jump hl4;rw[hrec]at this ⊢;exact⟨this,World.putObj_heap_same (waj.1 hl4).1,(World.putObj_heap_other (by omega)).trans (h2.trans hd3)⟩
   rintro e a3 W3 hp
   cases e with
   |normal=>
    obtain⟨h1,h2,hk3,hi3⟩:=hp;obtain⟨hr,hl4,hd4⟩:=fin none W3 h1 h2;exact⟨_,_,hr,hka.trans (((zO.putObj _ t1 c1).trans hk3).trans (zO.putObj _ t1 c1)),.inl ⟨rfl,hI _ T _ _ T hi3 (jA W3 _ (.inr rfl)) (λ_ h=> .inl h),hl4,hd4,t1,t2⟩⟩
   |ret=>
    obtain⟨h1,h2,hk3,hi3⟩:=hp;obtain⟨hr,hl4,hd4⟩:=fin (some .ret) W3 h1 h2;exact⟨_,_,hr,hka.trans (((zO.putObj _ t1 c1).trans hk3).trans (zO.putObj _ t1 c1)),.inr ⟨rfl,.ret,hIx _ _ T _ _ T hi3 (jA W3 _ (.inr rfl)) (λ_ h=> .inl h),hl4,hd4,t1,t2⟩⟩
   |exit id=>
    obtain⟨h1,h2,hk3,hi3⟩:=hp;obtain⟨hr,hl4,hd4⟩:=fin (some (.exit id)) W3 h1 h2;exact⟨_,_,hr,hka.trans (((zO.putObj _ t1 c1).trans hk3).trans (zO.putObj _ t1 c1)),.inr ⟨rfl,.exit id,hIx _ _ T _ _ T hi3 (jA W3 _ (.inr rfl)) (λ_ h=> .inl h),hl4,hd4,t1,t2⟩⟩
   |goto t=>
    obtain⟨h1,h2,hk3,hi3⟩:=hp;obtain⟨hr,hl4,hd4⟩:=fin (some (.goto t)) W3 h1 h2;exact⟨_,_,hr,hka.trans (((zO.putObj _ t1 c1).trans hk3).trans (zO.putObj _ t1 c1)),.inr ⟨rfl,.goto t,hIx _ _ T _ _ T hi3 (jA W3 _ (.inr rfl)) (λ_ h=> .inl h),hl4,hd4,t1,t2⟩⟩
   |panic ch=>exact hp.elim
   |outgrown=>exact hp.elim
  ·rintro e W2 ⟨⟨v,rfl⟩,(⟨T,hi,hl,hd,t1,t2⟩|⟨pre,T,c,hi,hl,hd,t1,t2⟩)⟩
   ·have l1:=(waj.1 hl).1
    exact⟨none,_,by have:=run_endLoop (P:=P) hl (by rw[hrec];simp);rw[hrec]at this;exact this,hdone T _ (hI _ T _ _ T hi (jA W2 _ (.inr rfl)) (λ_ h=> .inl h)) (by simp;omega) ((World.putObj_heap_other (by omega)).trans hd)⟩
   ·have l1:=(waj.1 hl).1
    exact⟨some c,_,by have:=run_endLoop (P:=P) hl (by rw[hrec];simp);rw[hrec]at this;exact this,hstop c pre T _ (hIx c _ T _ _ T hi (jA W2 _ (.inr rfl)) (λ_ h=> .inl h)) (by simp;omega) ((World.putObj_heap_other (by omega)).trans hd)⟩
end Go.Proofs.YtkolpaonccmgiaaGreatDoor
namespace Go.Proofs.YtkolpaonccmgiaaGreatDoor
open _root_.ByteArray renaming empty->war
set_option linter.unusedSectionVars false
set_option linter.unusedVariables false
open Go.RowKit
theorem O8{s:ByteArray}{k m f:Nat}(h:(m,f)∈nt s k):md s k f=m:=by
 obtain⟨A,R,e⟩:=List.append_of_mem h;exact Xu e
theorem Aq{s:ByteArray}{k f:Nat}(h:zN s k f=true):(md s k f,f)∈nt s k:=by
 obtain⟨A,R,e⟩:=RS h;rw[e];simp
theorem zeu(x:Ms)(hI:Inv x)(b p:Nat):
  (∃T,jR T x.st/\((y7 x b p).st=T\/∃n,(y7 x b p).st=(n,p)::T))\/
  (top x.st=12/\∃T,jR T x.st.tail/\((y7 x b p).st=T\/∃n,(y7 x b p).st=(n,p)::T))\/
  (top x.st≠12/\(y7 x b p).st=x.st.tail)\/(top x.st=12/\(y7 x b p).st=x.st.tail.tail):=by
 obtain⟨st,fresh⟩:=x;have hg:=hI.good
 cases st with
 |nil=>exact absurd hg (by simp[good])
 |cons a r=>
  obtain⟨m,f⟩:=a;simp only at hg;have ht:top ((m,f)::r)=m:=rfl;have htl:((m,f)::r).tail=r:=rfl;simp only[ht,htl];have pl:∀(m1 f1 m0:Nat) (r1:List Fr),(m0=m1\/Yy m0 m1)->(m1=9->m0=9\/m0=11)->
    (∃T,jR T ((m0,f1)::r1)/\((zF ((m1,f1)::r1) fresh b p).st=T\/∃n,(zF ((m1,f1)::r1) fresh b p).st=(n,p)::T))\/(zF ((m1,f1)::r1) fresh b p).st=r1:=by
   intro m1 f1 m0 r1 h01 h9;have hs:jR ((m1,f1)::r1) ((m0,f1)::r1):=by
    rcases h01 with rfl|h
    ·exact .inl rfl
    ·exact .inr ⟨m0,m1,f1,r1,rfl,rfl,h⟩
   rcases O9 m1 f1 r1 fresh b p with h|⟨n,h,hn⟩|⟨h0,h⟩|⟨h0,h⟩
   ·exact .inl ⟨_,hs,.inl h⟩
   ·exact .inl ⟨_,hs,.inr ⟨n,h⟩⟩
   ·exact .inr h
   ·subst h0
    refine .inl ⟨(11,f1)::r1,?_,.inl h⟩;rcases h9 rfl with rfl|rfl
    ·exact .inr ⟨9,11,f1,r1,rfl,rfl,.inr (.inr (.inl ⟨rfl,rfl⟩))⟩
    ·exact .inl rfl
  unfold y7;simp only;by_cases h12:m=12
  ·rw[if_pos h12]
   split
   ·exact .inl ⟨_,.inr ⟨m,3,f,r,rfl,rfl,.inl ⟨h12,.inl rfl⟩⟩,.inl rfl⟩
   split
   ·refine .inl ⟨_,.inr ⟨m,ZK (top r),f,r,rfl,rfl,.inl ⟨h12,?_⟩⟩,.inl rfl⟩
    unfold ZK;split
    ·exact .inr (.inr rfl)
    ·exact .inr (.inl rfl)
   split
   ·exact .inr (.inl ⟨h12,r,.inl rfl,.inl rfl⟩)
   ·obtain⟨m2,f2,r2,rfl,h1,h2⟩:=Ve hg (by omega)
    rcases pl m2 f2 m2 r2 (.inl rfl) (λh=> .inl h)with h|h
    ·exact .inr (.inl ⟨h12,h⟩)
    ·exact .inr (.inr (.inr ⟨h12,h⟩))
  rw[if_neg h12];by_cases h3:m=3
  ·rw[if_pos h3]
   split
   ·exact .inl ⟨_,.inr ⟨m,9,f,r,rfl,rfl,.inr (.inl ⟨h3,.inl rfl⟩)⟩,.inl rfl⟩
   ·rcases pl 1 f m r (.inr (.inr (.inl ⟨h3,.inr rfl⟩))) (λh=>by omega)with h|h
    ·exact .inl h
    ·exact .inr (.inr (.inl ⟨h12,h⟩))
  rw[if_neg h3];by_cases h11:m=11
  ·rw[if_pos h11]
   split
   ·exact .inr (.inr (.inl ⟨h12,rfl⟩))
   ·rcases pl 9 f m r (.inr (.inr (.inr (.inr ⟨h11,rfl⟩)))) (λh=> .inr h11)with h|h
    ·exact .inl h
    ·exact .inr (.inr (.inl ⟨h12,h⟩))
  rw[if_neg h11];rcases pl m f m r (.inl rfl) (λh=> .inl h)with h|h
  ·exact .inl h
  ·exact .inr (.inr (.inl ⟨h12,h⟩))
theorem RU(s:ByteArray)(k:Nat):
  (∃T,jR T (nt s k)/\(nt s (k+1)=T\/∃n,nt s (k+1)=(n,k)::T))\/
  (∃g R T,nt s k=(12,g)::R/\jR T R/\(nt s (k+1)=T\/∃n,nt s (k+1)=(n,k)::T))\/
  (∃m g R,nt s k=(m,g)::R/\m≠12/\nt s (k+1)=R)\/(∃g m g2 R,nt s k=(12,g)::(m,g2)::R/\nt s (k+1)=R):=by
 have h:=zeu (zU s k) (Yz s k) (by8 s k) k;have hpw:=MF s (k+1);rw[←Jv,kU s (k+1),kU s k]at h;have bf:∀{T D:List Fr},jR T (D++ [(0,0)])->∃T2,T=T2++ [(0,0)]/\jR T2 D:=by
  intro T D hS;rcases hS with rfl|⟨m,n,f,r,hD,rfl,ht⟩
  ·exact⟨_,rfl,.inl rfl⟩
  ·cases D with
   |nil=>
    simp at hD;exact absurd hD.1.1.symm (bg ht)
   |cons a D=>
    simp at hD;obtain⟨rfl,rfl⟩:=hD;exact⟨(n,f)::D,rfl,.inr ⟨m,n,f,D,rfl,rfl,ht⟩⟩
 have fin2:∀{T2:List Fr},(nt s (k+1)++ [(0,0)]=T2++ [(0,0)]\/∃n,nt s (k+1)++ [(0,0)]=(n,k)::(T2++ [(0,0)]))->(nt s (k+1)=T2\/∃n,nt s (k+1)=(n,k)::T2):=by
  intro T2 hh;rcases hh with hh|⟨n,hh⟩
  ·exact .inl (List.append_cancel_right hh)
  ·rw[←List.cons_append]at hh
   exact .inr ⟨n,List.append_cancel_right hh⟩
 have hlen:nt s (k+1)++ [(0,0)]≠ []:=by simp
 cases hD:nt s k with
 |nil=>
  rw[hD]at h;rcases h with⟨T,hS,hN⟩|⟨h12,_⟩|⟨_,h⟩|⟨h12,_⟩
  ·obtain⟨T2,rfl,hS2⟩:=bf hS
   exact .inl ⟨T2,hS2,fin2 hN⟩
  ·simp[top]at h12
  ·simp at h
  ·simp[top]at h12
 |cons a D=>
  obtain⟨m,g⟩:=a;rw[hD]at h;rcases h with⟨T,hS,hN⟩|⟨h12,T,hS,hN⟩|⟨h12,h⟩|⟨h12,h⟩
  ·obtain⟨T2,rfl,hS2⟩:=bf hS
   exact .inl ⟨T2,hS2,fin2 hN⟩
  ·have e12:m=12:=h12
   subst e12;obtain⟨T2,rfl,hS2⟩:=bf (D:=D) hS;exact .inr (.inl ⟨g,D,T2,rfl,hS2,fin2 hN⟩)
  ·exact .inr (.inr (.inl ⟨m,g,D,rfl,h12,List.append_cancel_right h⟩))
  ·have e12:m=12:=h12
   subst e12
   cases D with
   |nil=>simp at h
   |cons c D=>exact .inr (.inr (.inr ⟨g,c.1,c.2,D,rfl,List.append_cancel_right h⟩))
theorem SK{T D:List Fr}{m g:Nat}(h:jR T ((m,g)::D)):∃n,T=(n,g)::D/\(n=m\/Yy m n):=by
 rcases h with rfl|⟨m1,n,f,r,hD,rfl,ht⟩
 ·exact⟨m,rfl,.inl rfl⟩
 ·cases hD
  exact⟨n,rfl,.inr ht⟩
theorem Ar{T:List Fr}(h:jR T []):T=[]:=by
 rcases h with rfl|⟨m1,n,f,r,hD,rfl,ht⟩
 ·rfl
 ·cases hD
theorem O1{s:ByteArray}{k f:Nat}(h:zN s (k+1) f=true)(hf:f<k):md s (k+1) f=md s k f\/Yy (md s k f) (md s (k+1) f):=by
 have hm:=Aq h;have fresh:∀T,(nt s (k+1)=T\/∃n,nt s (k+1)=(n,k)::T)->(md s (k+1) f,f)∈T:=by
  intro T hN;rcases hN with hN|⟨n,hN⟩
  ·rw[hN]at hm;exact hm
  ·rw[hN]at hm
   rcases List.mem_cons.1 hm with e|e
   ·simp at e;omega
   ·exact e
 have SL:∀T D:List Fr,(∀x∈D,x∈nt s k)->jR T D->(md s (k+1) f,f)∈T->md s (k+1) f=md s k f\/Yy (md s k f) (md s (k+1) f):=by
  intro T D hD hS hmem;rcases hS with rfl|⟨m1,n,f1,r,rfl,rfl,ht⟩
  ·exact .inl (O8 (hD _ hmem)).symm
  ·rcases List.mem_cons.1 hmem with e|e
   ·simp at e
    obtain⟨e1,rfl⟩:=e;have:=O8 (hD (m1,f) (by simp));rw[e1,this];exact .inr ht
   ·exact .inl (O8 (hD _ (List.mem_cons_of_mem _ e))).symm
 rcases RU s k with⟨T,hS,hN⟩|⟨g,R,T,hD,hS,hN⟩|⟨m,g,R,hD,_,hN⟩|⟨g,m,g2,R,hD,hN⟩
 ·exact SL T _ (λ_ h=>h) hS (fresh T hN)
 ·exact SL T R (λx hx=>by rw[hD];exact List.mem_cons_of_mem _ hx) hS (fresh T hN)
 ·exact SL R R (λx hx=>by rw[hD];exact List.mem_cons_of_mem _ hx) (.inl rfl) (fresh R (.inl hN))
 ·exact SL R R (λx hx=>by rw[hD];exact List.mem_cons_of_mem _ (List.mem_cons_of_mem _ hx)) (.inl rfl) (fresh R (.inl hN))
theorem zev{s:ByteArray}{k f:Nat}(hp:zN s k f=true)(h:zN s (k+1) f=false)(hm:md s k f≠12):nt s (k+1)=xR s f:=by
 obtain⟨⟨A,hA⟩,_⟩:=gp hp;have no:∀{B:List Fr} {m:Nat},nt s (k+1)=B++(m,f)::xR s f->False:=λe=>by rw[MG e]at h;cases h
 have Au:∀{T D A:List Fr},D=A++(md s k f,f)::xR s f->jR T D->(nt s (k+1)=T\/∃n,nt s (k+1)=(n,k)::T)->False:=by
  intro T D A hD hS hN;have:∃B m,T=B++(m,f)::xR s f:=by
   rcases hS with rfl|⟨m1,n,f1,r,hD2,rfl,ht⟩
   ·exact⟨A,_,hD⟩
   ·rw[hD]at hD2
    cases A with
    |nil=>simp at hD2;obtain⟨⟨_,rfl⟩,rfl⟩:=hD2;exact⟨[],n,rfl⟩
    |cons a A=>simp at hD2;obtain⟨rfl,rfl⟩:=hD2;exact⟨(n,f1)::A,_,rfl⟩
  obtain⟨B,m,hT⟩:=this;rcases hN with hN|⟨n,hN⟩
  ·exact no (hN.trans hT)
  ·exact no (B:=(n,k)::B) (m:=m) (by rw[hN,hT];rfl)
 rcases RU s k with⟨T,hS,hN⟩|⟨g,R,T,hD,hS,hN⟩|⟨m,g,R,hD,_,hN⟩|⟨g,m,g2,R,hD,hN⟩
 ·exact(Au hA hS hN).elim
 ·rw[hA]at hD
  cases A with
  |nil=>simp at hD;exact absurd hD.1.1 hm
  |cons a A=>simp at hD;exact(Au hD.2.symm hS hN).elim
 ·rw[hA]at hD
  cases A with
  |nil=>simp at hD;rw[hN,hD.2]
  |cons a A=>simp at hD;exact(no (hN.trans hD.2.symm)).elim
 ·rw[hA]at hD
  cases A with
  |nil=>simp at hD;exact absurd hD.1.1 hm
  |cons a A=>
   simp at hD
   cases A with
   |nil=>simp at hD;rw[hN,hD.2.2]
   |cons c A=>simp at hD;exact(no (hN.trans hD.2.2.symm)).elim
theorem zew(x:Ms)(hI:Inv x)(b p n:Nat)(T:List Fr)(hp:∀y∈x.st,y.2<p\/y=(0,0))(hn:n≠0)(h:(y7 x b p).st=(n,p)::T)(lI:∀y∈x.st,y.2=p->y=(0,0)):
  ∃m f r fr,T=(m,f)::r/\(mv m b fr).1=.push n:=by
 obtain⟨st,fresh⟩:=x;have hg:=hI.good
 cases st with
 |nil=>exact absurd hg (by simp[good])
 |cons a r=>
  obtain⟨m,f⟩:=a;simp only at hg hp lI;have pl:∀(m1 f1:Nat) (r1:List Fr),(∀y∈r1,y∈((m,f)::r))->(f1=p->f=p/\m=0)->(f1=p->m1=0)->(zF ((m1,f1)::r1) fresh b p).st=(n,p)::T->∃m f r fr,T=(m,f)::r/\(mv m b fr).1=.push n:=by
   intro m1 f1 r1 hr1 hf1 hf2 hh;have hh2:(mv m1 b fresh).1.run ((m1,f1)::r1) p=(n,p)::T:=hh
   cases hv:(mv m1 b fresh).1 with
   |keep=>
    rw[hv]at hh2;simp[Mv.run]at hh2;obtain⟨⟨rfl,rfl⟩,rfl⟩:=hh2;exact absurd (hf2 rfl) hn
   |push n2=>
    rw[hv]at hh2;simp[Mv.run]at hh2;obtain⟨rfl,rfl⟩:=hh2;exact⟨m1,f1,r1,fresh,rfl,hv⟩
   |pop=>
    rw[hv]at hh2;have e:r1=(n,p)::T:=hh2;have hm:(n,p)∈((m,f)::r):=hr1 _ (by rw[e];simp);have:=lI _ hm rfl;simp at this;exact absurd this.1 hn
   |turn n2=>
    rw[hv]at hh2;simp[Mv.run]at hh2;obtain⟨⟨rfl,rfl⟩,rfl⟩:=hh2;have h0:=hf2 rfl;subst h0;rcases bn 0 b fresh with h|⟨_,h,_⟩|⟨h0,h⟩|⟨h0,h⟩
    ·rw[h]at hv;cases hv
    ·rw[h]at hv;cases hv
    ·exact absurd rfl h0
    ·omega
  have MH:f=p->m=0:=λe=>by have:=lI (m,f) (by simp) e;simp at this;exact this.1
  have hmem:∀y∈r,y∈((m,f)::r):=λy hy=>List.mem_cons_of_mem _ hy;unfold y7 at h;simp only at h;by_cases h12:m=12
  ·rw[if_pos h12]at h
   have hne:f≠p:=λe=>by have:=MH e;omega
   split at h
   ·simp at h;exact absurd h.1.2 hne
   split at h
   ·simp at h;exact absurd h.1.2 hne
   split at h
   ·have hm:(n,p)∈((m,f)::r):=hmem _ (by rw[show r=(n,p)::T from h];simp)
    have:=lI _ hm rfl;simp at this;exact absurd this.1 hn
   ·obtain⟨m2,f2,r2,rfl,h1,h2⟩:=Ve hg (by omega)
    refine pl m2 f2 r2 (λy hy=>by simp[hy]) (λe=>?_) (λe=>?_) h
    ·have:=lI (m2,f2) (by simp) e
     simp at this;obtain⟨rfl,rfl⟩:=this;have:=hp (m,f) (by simp);rcases this with h|h
     ·simp at h;omega
     ·simp at h;omega
    ·have:=lI (m2,f2) (by simp) e
     simp at this;exact this.1
  rw[if_neg h12]at h;by_cases h3:m=3
  ·rw[if_pos h3]at h
   have hne:f≠p:=λe=>by have:=MH e;omega
   split at h
   ·simp at h;exact absurd h.1.2 hne
   ·exact pl 1 f r hmem (λe=>absurd e hne) (λe=>absurd e hne) h
  rw[if_neg h3]at h;by_cases h11:m=11
  ·rw[if_pos h11]at h
   have hne:f≠p:=λe=>by have:=MH e;omega
   split at h
   ·have hm:(n,p)∈((m,f)::r):=hmem _ (by rw[show r=(n,p)::T from h];simp)
    have:=lI _ hm rfl;simp at this;exact absurd this.1 hn
   ·exact pl 9 f r hmem (λe=>absurd e hne) (λe=>absurd e hne) h
  rw[if_neg h11]at h;exact pl m f r hmem (λe=>⟨e,MH e⟩) MH h
theorem zex{s:ByteArray}{a:Nat}(hb:born s a=true):∃m f r fr,xR s a++ [(0,0)]=(m,f)::r/\(mv m (by8 s a) fr).1=.push (md s (a+1) a):=by
 have h1:=Jt hb;have h2:(y7 (zU s a) (by8 s a) a).st=(md s (a+1) a,a)::(xR s a++ [(0,0)]):=by
  rw[←Jv,kU s (a+1),h1];rfl
 have hpl:∀y∈(zU s a).st,y.2<a\/y=(0,0):=by
  intro y hy;rw[kU]at hy;rcases List.mem_append.1 hy with h|h
  ·exact .inl (MI s a h)
  ·right;simpa using h
 refine zew (zU s a) (Yz s a) (by8 s a) a (md s (a+1) a) _ hpl ?_ h2 ?_
 ·intro e
  have hm:=Aq hb;have hg:=(Yz s (a+1)).good;rw[kU,h1,e]at hg;have:=Aw hg;simp at this
 ·intro y hy e
  rcases hpl y hy with h|h
  ·omega
  ·exact h
theorem zey{s:ByteArray}{a f:Nat}{R:List Fr}(hb:born s a=true)(h:xR s a=(5,f)::R):md s (a+1) a=13\/md s (a+1) a=12\/md s (a+1) a=6:=by
 obtain⟨m,f2,r,fr,e,hv⟩:=zex hb;rw[h]at e;simp at e;obtain⟨⟨rfl,rfl⟩,_⟩:=e;rcases bn 5 (by8 s a) fr with h1|⟨n,h1,h2⟩|⟨_,h1⟩|⟨h0,h1⟩
 ·rw[h1]at hv;cases hv
 ·have:(mv 5 (by8 s a) fr).1=.push (md s (a+1) a):=hv
  unfold mv at this;simp[vV]at this;split at this
  ·split at this<;>cases this
  ·have e:opn (by8 s a)=md s (a+1) a:=by injection this
   rcases bu (by8 s a)with h|h|h|h<;>omega
 ·rw[h1]at hv;cases hv
 ·omega
theorem zez{s:ByteArray}{k f:Nat}(h:zN s k f=true)(hm:md s k f=13):zN s (k+1) f=false:=by
 obtain⟨A,R,hA⟩:=RS h;rw[hm]at hA;have hg:=(Yz s k).good;have hA0:A=[]:=by
  cases hr:A.reverse with
  |nil=>simpa using hr
  |cons c A2=>
   exfalso;have e:A=A2.reverse++ [c]:=by have:=congrArg List.reverse hr;simpa using this
   rw[kU,hA,e]at hg;have hd:∀(B C:List Fr),good (B++c::(13,f)::C)->False:=by
    intro B
    induction B with
    |nil=>
     intro C h;have:=Jw (G8 (m:=c.1) (f:=c.2) h).1;simp[base]at this
    |cons b B ih=>
     intro C h;refine ih C ?_
     cases hB:B++c::(13,f)::C with
     |nil=>simp at hB
     |cons d D=>
      rw[List.cons_append,hB]at h;exact(G8 (m:=b.1) (f:=b.2) (m2:=d.1) (f2:=d.2) h).2
   exact hd A2.reverse (R++ [(0,0)]) (by simpa using hg)
 subst hA0;have hlt:=kQ h;have h2:(zU s (k+1)).st=R++ [(0,0)]:=by
  have hst:(zU s k).st=(13,f)::(R++ [(0,0)]):=by rw[kU,hA];rfl
  rw[Jv]
  cases hq:zU s k with
  |mk st fr=>
   rw[hq]at hst;simp at hst;subst hst;rfl
 have h3:nt s (k+1)=R:=by rw[kU]at h2;exact List.append_cancel_right h2
 cases hp:zN s (k+1) f with
 |false=>rfl
 |true=>
  obtain⟨m,hm⟩:=Zr.1 hp;rw[h3]at hm;have:=Xv s k;rw[hA]at this;have:=(List.pairwise_cons.1 this).1 _ hm;simp at this
def K5(m:Nat):Prop:=m=13\/m=12\/m=6\/m=3\/m=7\/m=8\/m=9\/m=1\/m=11
theorem zeA{m n:Nat}(h:K5 m)(ht:n=m\/Yy m n):K5 n:=by
 unfold K5 Yy at*;omega
theorem Az{s:ByteArray}{a f:Nat}{R:List Fr}(hb:born s a=true)(h:xR s a=(5,f)::R):∀{k:Nat},zN s k a=true->K5 (md s k a)
 |0,hp=>by have:=kQ hp;omega
 |k+1,hp=>by
  rcases Nat.eq_or_lt_of_le (Nat.le_of_lt_succ (kQ hp))with e|e
  ·subst e
   have:=zey hb h;unfold K5;omega
  ·exact zeA (Az hb h (lF hp e)) (O1 hp e)
theorem zeB{m:Nat}(h:K5 m):cnt m≠4/\cnt m≠5/\cnt m≠14:=by
 unfold K5 at h;unfold cnt
 repeat' split
 all_goals omega
theorem zeC{s:ByteArray}{f:Nat}:∀{k:Nat},zN s k f=true->md s k f=13->k=f+1
 |0,h,_=>by have:=kQ h;omega
 |k+1,h,hm=>by
  rcases Nat.eq_or_lt_of_le (Nat.le_of_lt_succ (kQ h))with e|e
  ·rw[e]
  ·exfalso
   rcases O1 h e with e2|e2
   ·have:=zez (lF h e) (e2.symm.trans hm)
    rw[this]at h;cases h
   ·rw[hm]at e2
    unfold Yy at e2;omega
theorem mZ{s:ByteArray}{f:Nat}(hb:born s f=true)(hf:f<s.size):zN s (eK s f s.size) f=true:=by
 have h1:f+1<=eK s f s.size:=MJ hb hf;exact G7 (k:=s.size) (by omega) (Nat.le_refl _)
theorem OJ{s:ByteArray}{f:Nat}(hb:born s f=true)(hf:f<s.size)(hm:(prt s f).mode=13):(prt s f).to=if f+1=s.size then s.size else f+2:=by
 have he:=Ju hb hf;by_cases h12:cnt (md s (eK s f s.size) f)=12
 ·rw[if_pos h12]at he
  rw[he]at hm;simp at hm
 ·rw[if_neg h12]at he
  rw[he]at hm ⊢;simp only at hm ⊢;have h13:md s (eK s f s.size) f=13:=by
   unfold cnt at hm;split at hm
   ·omega
   ·split at hm
    ·omega
    ·exact hm
  have:=zeC (mZ hb hf) h13;rw[this]
theorem G6{s:ByteArray}{f:Nat}(hb:born s f=true)(hf:f<s.size):(prt s f).mode=cnt (md s (eK s f s.size) f):=by
 rw[Ju hb hf];split
 ·rename_i h;exact h.symm
 ·rfl
def AtB(s:ByteArray)(a:Nat)(B:List Fr):Prop:=a<s.size->nt s a=B\/∃g,nt s a=(12,g)::B/\zN s (a+1) g=false
def Wi(s:ByteArray)(a:Nat)(B:List Fr):Prop:=B=[]\/∃f R,B=(5,f)::R/\zN s (a+1) f=true
theorem AtB.none{s:ByteArray}{a:Nat}{B:List Fr}(h:AtB s a B)(hw:Wi s a B)(ha:a<s.size)(hb:born s a=false):nt s (a+1)=B:=by
 have nb:∀n T,nt s (a+1)=(n,a)::T->False:=λn T e=>by
  have:born s a=true:=MG (A:=[]) e;rw[this]at hb;cases hb
 have MK:∀T,jR T B->T=B:=by
  intro T hS;rcases hw with rfl|⟨f,R,rfl,_⟩
  ·exact Ar hS
  ·obtain⟨n,rfl,hn⟩:=SK hS
   rcases hn with rfl|hn
   ·rfl
   ·unfold Yy at hn;omega
 rcases h ha with h|⟨g,h,hg⟩
 ·rcases RU s a with⟨T,hS,hN⟩|⟨g,R,T,hD,hS,hN⟩|⟨m,g,R,hD,h12,hN⟩|⟨g,m,g2,R,hD,hN⟩
  ·rw[h]at hS
   rcases hN with hN|⟨n,hN⟩
   ·rw[hN];exact MK T hS
   ·exact(nb _ _ hN).elim
  ·rw[h]at hD
   rcases hw with rfl|⟨f,R2,rfl,_⟩
   ·cases hD
   ·simp at hD
  ·rw[h]at hD
   rcases hw with rfl|⟨f,R2,rfl,hf⟩
   ·cases hD
   ·exfalso
    cases hD;obtain⟨m2,hm2⟩:=Zr.1 hf;rw[hN]at hm2;have:=Xv s a;rw[h]at this;have:=(List.pairwise_cons.1 this).1 _ hm2;simp at this
  ·rw[h]at hD
   rcases hw with rfl|⟨f,R2,rfl,_⟩
   ·cases hD
   ·simp at hD
 ·have gone:∀T m,(nt s (a+1)=T\/∃n,nt s (a+1)=(n,a)::T)->(m,g)∈T->False:=by
   intro T m hN hm;rcases hN with hN|⟨n,hN⟩
   ·rw[Zr.2 ⟨m,by rw[hN];exact hm⟩]at hg;cases hg
   ·exact nb _ _ hN
  rcases RU s a with⟨T,hS,hN⟩|⟨g2,R,T,hD,hS,hN⟩|⟨m,g2,R,hD,h12,hN⟩|⟨g2,m,g3,R,hD,hN⟩
  ·rw[h]at hS
   obtain⟨n,rfl,_⟩:=SK hS;exact(gone _ n hN (by simp)).elim
  ·rw[h]at hD
   cases hD;rcases hN with hN|⟨n,hN⟩
   ·rw[hN];exact MK T hS
   ·exact(nb _ _ hN).elim
  ·rw[h]at hD
   cases hD;exact absurd rfl h12
  ·rw[h]at hD
   cases hD;rcases hw with hw|⟨f,R2,e,hf⟩
   ·cases hw
   ·exfalso
    cases e;obtain⟨m2,hm2⟩:=Zr.1 hf;rw[hN]at hm2;have:=Xv s a;rw[h]at this;have:=(List.pairwise_cons.1 (List.pairwise_cons.1 this).2).1 _ hm2;simp at this
theorem AtB.born{s:ByteArray}{a:Nat}{B:List Fr}(h:AtB s a B)(hw:Wi s a B)(ha:a<s.size)(hb:born s a=true):xR s a=B:=by
 have hsp:=Jt hb;have MK:∀T,jR T B->T=B:=by
  intro T hS;rcases hw with rfl|⟨f,R,rfl,_⟩
  ·exact Ar hS
  ·obtain⟨n,rfl,hn⟩:=SK hS
   rcases hn with rfl|hn
   ·rfl
   ·unfold Yy at hn;omega
 have lt:∀x∈nt s a,x.2≠a:=λx hx e=>by have:=MI s a hx;omega
 have bz:∀T,(∀x∈T,x.2≠a)->(nt s (a+1)=T\/∃n,nt s (a+1)=(n,a)::T)->xR s a=T:=by
  intro T hT hN;rcases hN with hN|⟨n,hN⟩
  ·rw[hN]at hsp
   exact absurd rfl (hT (md s (a+1) a,a) (by rw[hsp];simp))
  ·rw[hN]at hsp
   simp at hsp;exact hsp.2.symm
 have AA:∀T D:List Fr,jR T D->(∀x∈D,x.2≠a)->∀x∈T,x.2≠a:=by
  intro T D hS hD x hx;rcases hS with rfl|⟨m1,n,f1,r,rfl,rfl,ht⟩
  ·exact hD x hx
  ·rcases List.mem_cons.1 hx with e|e
   ·rw[e];exact hD (m1,f1) (by simp)
   ·exact hD x (List.mem_cons_of_mem _ e)
 rcases h ha with h|⟨g,h,hg⟩
 ·rcases RU s a with⟨T,hS,hN⟩|⟨g,R,T,hD,hS,hN⟩|⟨m,g,R,hD,h12,hN⟩|⟨g,m,g2,R,hD,hN⟩
  ·have:=bz T (AA _ _ hS lt) hN
   rw[h]at hS;rw[this];exact MK T hS
  ·rw[h]at hD
   rcases hw with rfl|⟨f,R2,rfl,_⟩
   ·cases hD
   ·simp at hD
  ·exfalso
   have:=bz R (λx hx=>lt x (by rw[hD];exact List.mem_cons_of_mem _ hx)) (.inl hN);rw[hN]at hsp;exact absurd rfl (lt (md s (a+1) a,a) (by rw[hD,hsp];simp))
  ·exfalso
   rw[hN]at hsp;exact absurd rfl (lt (md s (a+1) a,a) (by rw[hD,hsp];simp))
 ·rcases RU s a with⟨T,hS,hN⟩|⟨g2,R,T,hD,hS,hN⟩|⟨m,g2,R,hD,h12,hN⟩|⟨g2,m,g3,R,hD,hN⟩
  ·exfalso
   rw[h]at hS;obtain⟨n,rfl,_⟩:=SK hS;have:zN s (a+1) g=true:=by
    rcases hN with hN|⟨n2,hN⟩
    ·exact Zr.2 ⟨n,by rw[hN];simp⟩
    ·exact Zr.2 ⟨n,by rw[hN];simp⟩
   rw[this]at hg;cases hg
  ·rw[h]at hD
   cases hD;have:=bz T (AA _ _ hS (λx hx=>lt x (by rw[h];exact List.mem_cons_of_mem _ hx))) hN;rw[this];exact MK T hS
  ·exfalso
   rw[hN]at hsp;exact absurd rfl (lt (md s (a+1) a,a) (by rw[hD,hsp];simp))
  ·exfalso
   rw[hN]at hsp;exact absurd rfl (lt (md s (a+1) a,a) (by rw[hD,hsp];simp))
theorem Af{s:ByteArray}{a:Nat}(ha:a<s.size)(hb:born s a=true):AtB s (prt s a).to (xR s a):=by
 intro hlt;have he:=Ju hb ha;by_cases h12:cnt (md s (eK s a s.size) a)=12
 ·rw[if_pos h12]at he
  obtain⟨hE,hm⟩:=bC hb ha h12;rw[he]at hlt ⊢;simp only at hlt ⊢;by_cases hp:uF s (a+1)=0
  ·right
   rw[hp]at hlt ⊢;refine⟨a,by have:=Jt hb;rw[hm]at this;exact this,?_⟩;have:=ML (s:=s) (f:=a) (k:=s.size) (Nat.le_of_lt ha) (by rw[hE];omega);rw[hE]at this;exact this
  ·left
   exact AB hb hm (by omega) (Nat.le_refl _)
 ·rw[if_neg h12]at he
  rw[he]at hlt ⊢;simp only at hlt ⊢;by_cases hE:eK s a s.size=s.size
  ·rw[if_pos hE]at hlt;omega
  ·rw[if_neg hE]at hlt ⊢
   left;have hle:=RP s (f:=a) (k:=s.size) (Nat.le_of_lt ha);refine zev (mZ hb ha) (ML (Nat.le_of_lt ha) (by omega)) (λe=>h12 ?_);rw[e];rfl
structure Pc where
 ex:Bool
 q:Bool
 t:ByteArray
def uY(x:Pc):List Value:=[.bool x.ex,.bool x.q,.string x.t]
def Rz(x:Pc):Value:=.agg #[.bool x.ex,.bool x.q,.string x.t]
def yG(s:ByteArray)(p:zQ)(zi:Bool):Option ByteArray:=
 if p.mode=14 then some (s.extract p.zh p.to)
 else if p.mode=12 then(if p.to=p.zh+1 then some (s.extract p.zh p.to)else none)
 else if p.mode=13 then
  if p.to=p.zh+1\/by8 s (p.zh+1)=10 then some war
  else if zi=false then none
  else if by8 s (p.zh+1)=36\/by8 s (p.zh+1)=96\/by8 s (p.zh+1)=34\/by8 s (p.zh+1)=92 then some (s.extract (p.zh+1) p.to)
  else some (s.extract p.zh p.to)
 else none
def fl(zi:Bool)(h:ByteArray)(w:Bool):List Pc:=if h.size=0/\w=false then []else [⟨false,zi,h⟩]
def rm(s:ByteArray)(zi:Bool)(sub:Nat->List Pc)(e:Nat):Nat->Nat->ByteArray->Bool->List Pc
 |0,a,h,w=>fl zi h w
 |k+1,a,h,w=>
  if a<e then
   if born s a=true then
    match yG s (prt s a) zi with
    |some t=>rm s zi sub e k (prt s a).to (h++t) w
    |none=>fl zi h false++(sub a++rm s zi sub e k (prt s a).to war false)
   else rm s zi sub e k (a+1) (h++s.extract a (a+1)) w
  else fl zi h w
def Rm(s:ByteArray)(zi:Bool)(sub:Nat->List Pc)(e a:Nat)(h:ByteArray)(w:Bool):List Pc:=rm s zi sub e (e-a) a h w
theorem MM{s:ByteArray}{zi:Bool}{sub:Nat->List Pc}{e:Nat}(he:e<=s.size):∀(k a:Nat) (h:ByteArray) (w:Bool) (j:Nat),e-a<=k->k<=j->rm s zi sub e j a h w=rm s zi sub e k a h w
 |0,a,h,w,0,_,_=>rfl
 |0,a,h,w,j+1,h1,_=>by
  show(if a<e then _ else _)=_;rw[if_neg (by omega)];rfl
 |k+1,a,h,w,0,_,h2=>by omega
 |k+1,a,h,w,j+1,h1,h2=>by
  unfold rm;by_cases hae:a<e
  ·rw[if_pos hae,if_pos hae]
   by_cases hb:born s a=true
   ·rw[if_pos hb,if_pos hb]
    have hg:=qP hb (by omega)
    cases yG s (prt s a) zi with
    |some t=>exact MM he k _ _ _ j (by omega) (by omega)
    |none=>simp only;rw[MM he k _ _ _ j (by omega) (by omega)]
   ·rw[if_neg hb,if_neg hb]
    exact MM he k _ _ _ j (by omega) (by omega)
  ·rw[if_neg hae,if_neg hae]
section
variable{s:ByteArray}{zi:Bool}{sub:Nat->List Pc}{e a:Nat}{h:ByteArray}{w:Bool}
theorem OZ(ha:¬a<e):Rm s zi sub e a h w=fl zi h w:=by
 unfold Rm;rw[show e-a=0 by omega];rfl
theorem bD(ha:a<e):∃k,e-a=k+1:=⟨e-a-1,by omega⟩
theorem OI(he:e<=s.size)(ha:a<e)(hb:born s a=false):Rm s zi sub e a h w=Rm s zi sub e (a+1) (h++s.extract a (a+1)) w:=by
 obtain⟨k,hk⟩:=bD ha;unfold Rm;rw[hk]
 conv=>lhs;unfold rm
 rw[if_pos ha,if_neg (by rw[hb];decide),show e-(a+1)=k by omega]
theorem OL{t:ByteArray}(he:e<=s.size)(ha:a<e)(hb:born s a=true)(ht:yG s (prt s a) zi=some t):Rm s zi sub e a h w=Rm s zi sub e (prt s a).to (h++t) w:=by
 obtain⟨k,hk⟩:=bD ha;have hg:=qP hb (by omega);unfold Rm;rw[hk]
 conv=>lhs;unfold rm
 rw[if_pos ha,if_pos hb,ht];exact MM he _ _ _ _ k (Nat.le_refl _) (by omega)
theorem OM(he:e<=s.size)(ha:a<e)(hb:born s a=true)(ht:yG s (prt s a) zi=none):Rm s zi sub e a h w=fl zi h false++(sub a++Rm s zi sub e (prt s a).to war false):=by
 obtain⟨k,hk⟩:=bD ha;have hg:=qP hb (by omega);unfold Rm;rw[hk]
 conv=>lhs;unfold rm
 rw[if_pos ha,if_pos hb,ht];simp only;rw[MM he (e-(prt s a).to) _ _ _ k (Nat.le_refl _) (by omega)]
end
def Js(s:ByteArray)(a:Nat):List Pc:=[⟨true,true,s.extract a (prt s a).to⟩]
def DB(s:ByteArray)(f e:Nat):List Pc:=Rm s true (Js s) e f war true
def jQ(s:ByteArray)(a:Nat):List Pc:=
 if(prt s a).mode=5 then DB s (a+1) (yY (prt s a))
 else if(prt s a).mode=4\/(prt s a).mode=13 then [⟨false,true,s.extract (a+1) (yY (prt s a))⟩]
 else [⟨true,false,s.extract a (prt s a).to⟩]
def kS(s:ByteArray):List Pc:=Rm s false (jQ s) s.size 0 war false
def vW:List Pc->ByteArray
 | []=>war
 |x::l=>x.t++vW l
theorem RX(a b:List Pc):vW (a++b)=vW a++vW b:=by
 induction a with
 |nil=>simp[vW]
 |cons x a ih=>simp[vW,ih,ByteArray.append_assoc]
theorem Ag{s:ByteArray}{a f:Nat}{R:List Fr}(hat:AtB s a ((5,f)::R))(ha:a<s.size)(hf:zN s (a+1) f=true)(hb:born s a=true):
  xR s a=(5,f)::R/\(prt s a).mode≠4/\(prt s a).mode≠5/\(prt s a).mode≠14:=by
 have h1:=hat.born (.inr ⟨f,R,rfl,hf⟩) ha hb;refine⟨h1,?_⟩;rw[G6 hb ha];exact zeB (Az hb h1 (mZ hb ha))
open Go.Proofs.Tryz
open _root_.Array renaming getElem?_eq_some_iff->waj
open _root_.ByteArray renaming empty->war
open Lib(hid)
set_option maxHeartbeats 8000000
set_option maxRecDepth 100000
def ItP(o:Option ByteArray)(e:Ending):Prop:=∃X b,e=.returned (.tuple #[.string X,.bool b])/\o=(if b=true then some X else none)
section
variable(w:World)
theorem zd0(s:ByteArray)(mb:Nat)(m f t:Nat)(up:Int)(op zi:Bool)(h1:f<t)(h2:t<=s.size)(hs:s.size<=1000000)(h13:m=13->t=f+1\/t=f+2):
  Calls prog 229 #[.agg #[.string s,.map (some mb)],.agg #[.int .i64 (m:Int),.int .i64 (f:Int),.int .i64 (t:Int),.int .i64 up,.bool op],.bool zi] w λe w'=>ItP (yG s ⟨m,f,t,up,op⟩ zi) e/\Below w.heap.size w w':=by
 have hw2:Below w.heap.size w ((w.alloc (.cells #[.string s,.map (some mb)] 184)).alloc (.cells #[.int .i64 (m:Int),.int .i64 (f:Int),.int .i64 (t:Int),.int .i64 up,.bool op] 136)):=((Below.refl _ _).alloc (Nat.le_refl _) _).alloc (by simp) _;obtain⟨X,hX⟩:∃X,s.extract f t=X:=⟨_,rfl⟩;have Yv:X.size=t-f:=by rw[←hX];simp;omega
 by_cases m14:m=14
 ·subst m14
  have he:yG s ⟨14,f,t,up,op⟩ zi=some X:=by unfold yG;dsimp only;rw[if_pos rfl];exact congrArg some hX
  have HE:=hid he;clear he Yv;go_enter func229,ntmps229;go_wp2;go_ret2;exact⟨⟨X,true,rfl,HE.out⟩,hw2⟩
 by_cases m12:m=12
 ·subst m12
  by_cases ht:t=f+1
  ·have he:yG s ⟨12,f,t,up,op⟩ zi=some X:=by unfold yG;dsimp only;rw[if_neg (by decide),if_pos rfl,if_pos ht];exact congrArg some hX
   have HE:=hid he;have hz:X.size=1:=by omega
   clear he Yv ht;go_enter func229,ntmps229;go_wp2;go_ret2;exact⟨⟨X,true,rfl,HE.out⟩,hw2⟩
  ·have he:yG s ⟨12,f,t,up,op⟩ zi=none:=by unfold yG;dsimp only;rw[if_neg (by decide),if_pos rfl,if_neg ht]
   have HE:=hid he;have hz:((X.size:Int)==1)=false:=beq_eq_false_iff_ne.2 (by omega);clear he Yv ht;go_enter func229,ntmps229;go_wp2;go_ret2;exact⟨⟨X,false,rfl,HE.out⟩,hw2⟩
 by_cases m13:m=13
 ·subst m13
  rcases h13 rfl with ht|ht
  ·have he:yG s ⟨13,f,t,up,op⟩ zi=some war:=by unfold yG;dsimp only;rw[if_neg (by decide),if_neg (by decide),if_pos rfl,if_pos (.inl ht)]
   have HE:=hid he;have hz:X.size=1:=by omega
   clear he Yv ht;go_enter func229,ntmps229;go_wp2;go_ret2;exact⟨⟨war,true,rfl,HE.out⟩,hw2⟩
  ·obtain⟨b,hb⟩:∃b,by8 s (f+1)=b:=⟨_,rfl⟩
   have hz:X.size=2:=by omega
   have hX1:∀h:1<X.size,(X[1]'h).toNat=b:=by
    intro h;rw[←hb];subst hX;unfold by8;rw[zT (by omega)];first|rfl|simp[ByteArray.getElem_extract]
   have hX2:X.extract 1 2=s.extract (f+1) t:=by rw[←hX,ht];simp[ByteArray.extract_extract]
   obtain⟨Y,hY⟩:∃Y,s.extract (f+1) t=Y:=⟨_,rfl⟩;rw[hY]at hX2;have hbl:b<256:=hb▸WZ s _;by_cases b10:b=10
   ·have he:yG s ⟨13,f,t,up,op⟩ zi=some war:=by unfold yG;dsimp only;rw[if_neg (by decide),if_neg (by decide),if_pos rfl,if_pos (.inr (hb.trans b10))]
    have HE:=hid he;subst b10;clear he Yv ht hb hY hX2;go_enter func229,ntmps229;go_wp2;go_ret2;exact⟨⟨war,true,rfl,HE.out⟩,hw2⟩
   ·have Ry:((b:Int)==10)=false:=beq_eq_false_iff_ne.2 (by omega)
    have hor:¬(t=f+1\/by8 s (f+1)=10):=by omega
    cases zi with
    |false=>
     have he:yG s ⟨13,f,t,up,op⟩ false=none:=by unfold yG;dsimp only;rw[if_neg (by decide),if_neg (by decide),if_pos rfl,if_neg hor,if_pos rfl]
     have HE:=hid he;clear he Yv ht hb hY hX2 hor;go_enter func229,ntmps229;go_wp2;go_ret2;exact⟨⟨war,false,rfl,HE.out⟩,hw2⟩
    |true=>
     have hin:∀b,b<256->(inB b ⟨#[36,96,34,92]⟩=true↔(b=36\/b=96\/b=34\/b=92)):=by decide+kernel
     by_cases hq:b=36\/b=96\/b=34\/b=92
     ·have he:yG s ⟨13,f,t,up,op⟩ true=some Y:=by
       unfold yG;dsimp only;rw[if_neg (by decide),if_neg (by decide),if_pos rfl,if_neg hor,if_neg (by decide)];simp only[hb];rw[if_pos hq];exact congrArg some hY
      have HE:=hid he;have xP:=hid ((hin b hbl).2 hq);clear he Yv ht hb hY hor hin hq;go_enter func229,ntmps229
      go_wp2_with fail
      refine(lg _ b hbl _).mono ?_;rintro e w3 ⟨⟨x,rfl,hx⟩,rfl⟩;have hx0:(0:Int)<=x:=by rw[xP.out]at hx;simpa using hx
      clear hx;go_wp2;go_ret2;exact⟨⟨Y,true,rfl,HE.out⟩,hw2⟩
     ·have he:yG s ⟨13,f,t,up,op⟩ true=some X:=by
       unfold yG;dsimp only;rw[if_neg (by decide),if_neg (by decide),if_pos rfl,if_neg hor,if_neg (by decide)];simp only[hb];rw[if_neg hq];exact congrArg some hX
      have HE:=hid he;have xP:=hid (λh=>hq ((hin b hbl).1 h));clear he Yv ht hb hY hor hin hq;go_enter func229,ntmps229
      go_wp2_with fail
      refine(lg _ b hbl _).mono ?_;rintro e w3 ⟨⟨x,rfl,hx⟩,rfl⟩;have hx0:¬(0:Int)<=x:=λh=>xP.out (by rw[←hx];simpa using h);clear hx;go_wp2;go_ret2;exact⟨⟨X,true,rfl,HE.out⟩,hw2⟩
 have he:yG s ⟨m,f,t,up,op⟩ zi=none:=by unfold yG;dsimp only;rw[if_neg m14,if_neg m12,if_neg m13]
 have HE:=hid he;have t14:((m:Int)==14)=false:=beq_eq_false_iff_ne.2 (by omega);have t12:((m:Int)==12)=false:=beq_eq_false_iff_ne.2 (by omega);have t13:((m:Int)==13)=false:=beq_eq_false_iff_ne.2 (by omega);clear he Yv;go_enter func229,ntmps229;go_wp2;go_ret2;exact⟨⟨war,false,rfl,HE.out⟩,hw2⟩
end
open Go.RowKit Go.Shelf
attribute [local go_sem] Oper.semAt_some
def Y3(x:Pc):Array Value:=#[Rz x]
theorem zg.id{p:Nat->Prop}(W:World):zg p W W:=zg.refl p W
theorem Y4.same{β:Type}{J:β->(Nat->Prop)->World->Prop}(hJ:Y4 J){s:β}{T:Nat->Prop}{W W':World}(h:J s T W)(hf:zg T W W'):J s T W':=hJ s T W W' T h hf (λ_ h=> .inl h)
theorem Y4.below{β:Type}{J:β->(Nat->Prop)->World->Prop}(hJ:Y4 J){s:β}{T T':Nat->Prop}{W W':World}(h:J s T W)(hf:Below W.heap.size W W')(ht:∀b,T' b->T b\/W.heap.size<=b):J s T' W':=hJ s T W W' T' h (zg.of_below hf) ht
theorem I8(n:Nat)(oa:Option Addr)(m c:Nat)(w:World):
  CallsIn Fence.wide n prog 250 #[.slice oa m c] w λe w'=>e=.returned (.func (.func 259) #[] #[.pointer (some ⟨w.heap.size,0,none⟩)])/\w'=w.alloc (.cells #[.slice oa m c] 116):=by
 have hro:Fence.wide.round=none:=rfl;refine callsIn_of_wp func250 rfl trivial ?_ hro;simp only[ntmps250,List.size_toArray,List.length_cons,List.length_nil,Nat.reduceAdd,Nat.reduceSub,Array.replicate_succ,Array.replicate_zero,List.push_toArray,List.append_toArray,List.nil_append,List.cons_append]
 gi_wp2
 go_ret;exact⟨rfl,rfl⟩
def zd3(J:List Pc->(Nat->Prop)->World->Prop)(x:Pc)(W:World)(v7:Value)(wr:World):Prop:=
 (v7=.int .i64 0/\wr=W)\/(v7=.int .i64 1/\∃T,J [x] T wr)
theorem zd4(n:Nat)(hn:1<=n)(Bx g cap:Nat)(x:Pc)(cs:Array Value)(W:World)(hb:zf W Bx #[.slice (some ⟨g,0,none⟩) 1 cap] 116)(hg:zf W g cs 119)
 (h0:cs[0]?=some (.bool x.ex))(h1:cs[1]?=some (.bool x.q))(h2:cs[2]?=some (.string x.t)):
  Yw n prog 259 #[.pointer (some ⟨Bx,0,none⟩)] Y3 (λ_=>False) [x] W:=by
 intro l J Jx hJ hJx hY hJ0;have hbc:=hb.cell 0;have c0:=(hg.cell 0).trans h0;have c1:=(hg.cell 1).trans h1;have c2:=(hg.cell 2).trans h2;have HY:=hid hY;have HJ:=hid hJ;have Sr:=hid hJx;have mD:=hid hJ0;have hro:Fence.wide.round=none:=rfl;have hfn:Fence.wide.fn 259:=trivial;clear hY hJ hJx hb hg h0 h1 h2 hJ0;refine callsIn_of_wp func259 rfl hfn ?_ hro;simp only[ntmps259,List.size_toArray,List.length_cons,List.length_nil,Nat.reduceAdd,Nat.reduceSub,Array.replicate_succ,Array.replicate_zero,List.push_toArray,List.append_toArray,List.nil_append,List.cons_append]
 gi_wp2
 gi_loopw [7] (λv7 wr=>zd3 J x W v7 wr) (λv _=>1-(intOf v).toNat)
 case atStart=>exact .inl ⟨rfl,rfl⟩
 case round=>
  rcases hrel with⟨rfl,rfl⟩|⟨rfl,T,hj⟩
  ·have hja:=HJ.out.same mD.out (zg.of_below (p:=λ_=>False) ((Below.refl _ wr).alloc (Nat.le_refl _) (.cells #[.bool x.ex,.bool x.q,.string x.t] 119)))
   obtain⟨fn,tmps,assign,body,hy,hR⟩:=HY.out [] x [] _ _ rfl hja (λ_ h=>h.elim);dsimp only[Y3,Rz]at hy
   gi_wp2
   refine hR.mono ?_;rintro e W' ⟨hk3,(⟨rfl,hJ3⟩|⟨rfl,hJx3⟩)⟩
   ·gi_wp2
    go_roundw
    case rel=>exact .inr ⟨rfl,_,hJ3⟩
    case measure=>simp[intOf]
   ·gi_wp2
    refine bodyPost_ret (results_none rfl _ _ _) rfl ?_;exact⟨⟨_,rfl⟩,.inr ⟨_,_,hJx3⟩⟩
  ·gi_wp2
   go_end0
   exact⟨⟨_,rfl⟩,.inl ⟨T,hj⟩⟩
def GX(m f t up:Int)(op:Bool):DataW Unit:=.agg [.lit (.int .i64 m),.lit (.int .i64 f),.lit (.int .i64 t),.lit (.int .i64 up),.lit (.bool op)]
def I9(p:zQ):DataW Unit:=GX p.mode p.zh p.to p.up p.op
def RD(v:Value):Option (DataW Unit×List MemPlace):=
 match v with
 | .agg ⟨[.int .i64 m,.int .i64 f,.int .i64 t,.int .i64 up,.bool op]⟩=>some (GX m f t up op,[])
 |_=>none
theorem ae{v:Value}{m f t up:Int}{op:Bool}{ps:List MemPlace}(h:RD v=some (GX m f t up op,ps)):v=.agg #[.int .i64 m,.int .i64 f,.int .i64 t,.int .i64 up,.bool op]:=by
 unfold RD at h;split at h
 ·simp[GX]at h
  obtain⟨⟨rfl,rfl,rfl,rfl,rfl⟩,_⟩:=h;rfl
 ·cases h
def QH(a:Nat):Lit:=.int .i64 (a:Int)
def ZI(W:World)(mb:Nat)(k:Nat)(q:Nat->Option zQ):Prop:=
 ∃D:DataW Unit,W.ownsMap prog 3 RD mb k D/\Maps.IsMap D/\∀a:Nat,Maps.has D (QH a)=(q a).isSome/\D.atKey (QH a) (GX 0 0 0 0 false)=match q a with
  |some p=>I9 p
  |none=>GX 0 0 0 0 false
theorem ZI.same{W W':World}{mb k:Nat}{q:Nat->Option zQ}(h:ZI W mb k q)(hb:W'.heap[mb]?=W.heap[mb]?):ZI W' mb k q:=by
 obtain⟨D,⟨es,clock,h1,h2⟩,h3⟩:=h;exact⟨D,⟨es,clock,hb.trans h1,h2⟩,h3⟩
theorem ZI.lt{W:World}{mb k:Nat}{q:Nat->Option zQ}(h:ZI W mb k q):mb<W.heap.size:=by
 obtain⟨D,⟨es,clock,h1,h2⟩,h3⟩:=h;exact(waj.1 h1).1
theorem ZI.made(w:World):ZI (w.alloc (.map #[] 0)) w.heap.size 0 (λ_=>none):=
 ⟨.map [],World.ownsMap_made w _ _ _,⟨[],rfl⟩,λa=>⟨rfl,rfl⟩⟩
theorem ZI.ext{W:World}{mb k:Nat}{q r:Nat->Option zQ}(h:ZI W mb k q)(hq:∀a,q a=r a):ZI W mb k r:=by
 obtain rfl:q=r:=funext hq;exact h
theorem af(a:Nat)(ha:a<=1000000):keyOf prog 3 (.int .i64 (a:Int))=some (QH a):=
 Maps.keyOf_int_mk underlying3 (by have h1:IntKind.i64.min= -9223372036854775808:=rfl;have h2:IntKind.i64.max=9223372036854775807:=rfl;simp only[Lit.wf,h1,h2];simp;omega)
def qB(s:ByteArray)(k a:Nat):Option zQ:=if a<k/\born s a=true then some (prt s a)else none
def GY(W:World)(mb:Nat)(s:ByteArray):Prop:=∃k,ZI W mb k (qB s s.size)
theorem zd5{ops:Array Oper}{rest:List Oper}{o:Oper}{a:Act}{Q:Exit->Act->World->Prop}{w:World}(hg:o.guard=none)(m x v:Operand)(hop:o.op=Op.mapUpdate 182 m x v)
 {mb k:Nat}{q:Nat->Option zQ}(hm:a.eval m=.map (some mb))(hown:ZI w mb k q)(hk:k<=1000000)(p:zQ)(hx:a.eval x=.int .i64 (p.zh:Int))(hp:p.zh<=1000000)(hv:a.eval v=.agg #[.int .i64 (p.mode:Int),.int .i64 (p.zh:Int),.int .i64 (p.to:Int),.int .i64 p.up,.bool p.op])
 (hK:∀w',ZI w' mb (k+1) (λb=>if b=p.zh then some p else q b)->w.grownBy w' (some mb)->wpList prog ops Q rest (a.put o.dst undef) w'):
  wpList prog ops Q (o::rest) a w:=by
 obtain⟨D,h1,h2,h3⟩:=hown;refine wpList_mapUpdate_own w hg m x v 182 hop 3 136 (Maps.int_keyed underlying3) underlying182 RD mb k D hm h1 (by unfold maxLen;omega) _ _ (QH p.zh) hx hv (af _ hp) (I9 p) [] rfl ?_;intro w' hw hgr;have hkl:WideAt.IsKeyLit (QH p.zh):=by unfold QH;exact trivial
 refine hK w' ⟨_,hw,?_,λb=>?_⟩ hgr
 ·obtain⟨es,rfl⟩:=h2
  exact⟨_,rfl⟩
 ·by_cases e:b=p.zh
  ·subst e
   rw[Maps.has_put_same h2 hkl,Maps.atKey_put_same h2 hkl];simp
  ·have hne:QH b≠QH p.zh:=by
    unfold QH;intro h;injection h with _ h;omega
   rw[Maps.has_put_other hne,Maps.atKey_put_other hne];simp only[if_neg e];exact h3 b
theorem ag{ops:Array Oper}{rest:List Oper}{o:Oper}{a:Act}{Q:Exit->Act->World->Prop}{w:World}(hg:o.guard=none)(m x:Operand)(hop:o.op=Op.lookup 182 m x true)
 {mb k:Nat}{q:Nat->Option zQ}(hm:a.eval m=.map (some mb))(hown:ZI w mb k q)(b:Nat)(hx:a.eval x=.int .i64 (b:Int))(hb:b<=1000000)
 (hS:∀p,q b=some p->wpList prog ops Q rest (a.put o.dst (.tuple #[.agg #[.int .i64 (p.mode:Int),.int .i64 (p.zh:Int),.int .i64 (p.to:Int),.int .i64 p.up,.bool p.op],.bool true])) w)
 (hN:q b=none->wpList prog ops Q rest (a.put o.dst (.tuple #[.agg #[.int .i64 0,.int .i64 0,.int .i64 0,.int .i64 0,.bool false],.bool false])) w):
  wpList prog ops Q (o::rest) a w:=by
 obtain⟨D,h1,h2,h3⟩:=hown;refine wpList_lookup_own_ok w hg m x 182 hop 3 136 (Maps.int_keyed underlying3) underlying182 RD (z:=.agg #[.int .i64 0,.int .i64 0,.int .i64 0,.int .i64 0,.bool false]) (zeroValue136 w) (GX 0 0 0 0 false) [] rfl mb k D hm h1 _ (QH b) hx (af _ hb) ?_;intro v ps hv;obtain⟨g1,g2⟩:=h3 b;rw[g2]at hv;rw[g1]
 cases hq:q b with
 |none=>
  rw[hq]at hv;rw[ae hv];exact hN hq
 |some p=>
  rw[hq]at hv;rw[ae (show RD v=some (GX p.mode p.zh p.to p.up p.op,ps)from hv)];exact hS p hq
theorem zd6{ops:Array Oper}{rest:List Oper}{o:Oper}{a:Act}{Q:Exit->Act->World->Prop}{w:World}(hg:o.guard=none)(m x:Operand)(hop:o.op=Op.lookup 182 m x true)
 {mb:Nat}{s:ByteArray}(hm:a.eval m=.map (some mb))(hown:GY w mb s)(b md f t:Nat)(up:Int)(op:Bool)(hx:a.eval x=.int .i64 (b:Int))(hb:b<=1000000)(hq:Hid (b<s.size/\born s b=true/\prt s b=⟨md,f,t,up,op⟩))
 (hS:wpList prog ops Q rest (a.put o.dst (.tuple #[.agg #[.int .i64 (md:Int),.int .i64 (f:Int),.int .i64 (t:Int),.int .i64 up,.bool op],.bool true])) w):
  wpList prog ops Q (o::rest) a w:=by
 obtain⟨k,hk⟩:=hown;have e:qB s s.size b=some ⟨md,f,t,up,op⟩:=by unfold qB;rw[if_pos ⟨hq.out.1,hq.out.2.1⟩,hq.out.2.2]
 refine ag hg m x hop hm hk b hx hb (λp hp=>?_) (λhn=>by rw[e]at hn;cases hn);rw[e]at hp;cases hp;exact hS
theorem zd7{ops:Array Oper}{rest:List Oper}{o:Oper}{a:Act}{Q:Exit->Act->World->Prop}{w:World}(hg:o.guard=none)(m x:Operand)(hop:o.op=Op.lookup 182 m x true)
 {mb:Nat}{s:ByteArray}(hm:a.eval m=.map (some mb))(hown:GY w mb s)(b:Nat)(hx:a.eval x=.int .i64 (b:Int))(hb:b<=1000000)(hq:Hid (born s b=false))
 (hS:wpList prog ops Q rest (a.put o.dst (.tuple #[.agg #[.int .i64 0,.int .i64 0,.int .i64 0,.int .i64 0,.bool false],.bool false])) w):
  wpList prog ops Q (o::rest) a w:=by
 obtain⟨k,hk⟩:=hown;have e:qB s s.size b=none:=by unfold qB;rw[if_neg (by rw[hq.out];simp)]
 exact ag hg m x hop hm hk b hx hb (λp hp=>by rw[e]at hp;cases hp) (λ_=>hS)
attribute [local go_sem] Oper.semAt_some
structure Cap(W:World)(Bd Bt Br mb:Nat)(s:ByteArray)(zi:Bool)(e:Nat):Prop where
 d:zf W Bd #[.bool zi] 4
 t:zf W Bt #[.int .i64 (e:Int)] 3
 r:zf W Br #[.string s,.map (some mb)] 184
 m:GY W mb s
def Zd(Bd Bt Br mb:Nat)(b:Nat):Prop:=b=Bd\/b=Bt\/b=Br\/b=mb
theorem Cap.same{W W':World}{Bd Bt Br mb:Nat}{s:ByteArray}{zi:Bool}{e:Nat}(h:Cap W Bd Bt Br mb s zi e)(hb:∀b,Zd Bd Bt Br mb b->W'.heap[b]?=W.heap[b]?):Cap W' Bd Bt Br mb s zi e:=
 ⟨(hb Bd (.inl rfl)).trans h.d,(hb Bt (.inr (.inl rfl))).trans h.t,(hb Br (.inr (.inr (.inl rfl)))).trans h.r,by obtain⟨k,hk⟩:=h.m;exact⟨k,hk.same (hb mb (.inr (.inr (.inr rfl))))⟩⟩
theorem Cap.lt{W:World}{Bd Bt Br mb:Nat}{s:ByteArray}{zi:Bool}{e:Nat}(h:Cap W Bd Bt Br mb s zi e):∀b,Zd Bd Bt Br mb b->b<W.heap.size:=by
 rintro b (rfl|rfl|rfl|rfl)
 ·exact h.d.lt
 ·exact h.t.lt
 ·exact h.r.lt
 ·obtain⟨k,hk⟩:=h.m;exact hk.lt
theorem ah(s:ByteArray)(mb f e:Nat)(zi:Bool)(w:World)(hm:GY w mb s):
  Calls prog 199 #[.agg #[.string s,.map (some mb)],.int .i64 (f:Int),.int .i64 (e:Int),.bool zi] w λe' w'=>
   ∃Bd Bf Bt Br,e'=.returned (.func (.func 227) #[] #[.pointer (some ⟨Bd,0,none⟩),.pointer (some ⟨Bf,0,none⟩),.pointer (some ⟨Bt,0,none⟩),.pointer (some ⟨Br,0,none⟩)])/\Below w.heap.size w w'/\
    Cap w' Bd Bt Br mb s zi e/\zf w' Bf #[.int .i64 (f:Int)] 3/\w.heap.size<=Bd/\w.heap.size<=Bt/\w.heap.size<=Br/\w.heap.size<=Bf:=by
 have b0:=(((zf.new w #[.string s,.map (some mb)] 184).alloc (.cells #[.int .i64 (f:Int)] 3)).alloc (.cells #[.int .i64 (e:Int)] 3)).alloc (.cells #[.bool zi] 4);have b1:=((zf.new (w.alloc (.cells #[.string s,.map (some mb)] 184)) #[.int .i64 (f:Int)] 3).alloc (.cells #[.int .i64 (e:Int)] 3)).alloc (.cells #[.bool zi] 4);have b2:=(zf.new ((w.alloc (.cells #[.string s,.map (some mb)] 184)).alloc (.cells #[.int .i64 (f:Int)] 3)) #[.int .i64 (e:Int)] 3).alloc (.cells #[.bool zi] 4);have b3:=zf.new (((w.alloc (.cells #[.string s,.map (some mb)] 184)).alloc (.cells #[.int .i64 (f:Int)] 3)).alloc (.cells #[.int .i64 (e:Int)] 3)) #[.bool zi] 4;have hB:Below w.heap.size w ((((w.alloc (.cells #[.string s,.map (some mb)] 184)).alloc (.cells #[.int .i64 (f:Int)] 3)).alloc (.cells #[.int .i64 (e:Int)] 3)).alloc (.cells #[.bool zi] 4)):=
  ((((Below.refl _ w).alloc (Nat.le_refl _) _).alloc (by simp) _).alloc (by simp;omega) _).alloc (by simp;omega) _
 simp only[World.size_alloc]at b1 b2 b3;go_enter func199,ntmps199;go_wp2;go_ret;refine⟨_,_,_,_,rfl,hB,⟨b3,b2,b0,?_⟩,b1,?_,?_,?_,?_⟩
 ·obtain⟨k,hk⟩:=hm;exact⟨k,hk.same (hB.block mb hk.lt)⟩
 all_goals omega
def RF(R:Ending->World->Prop)(W:World)(h:ByteArray)(wv:Bool)(e:Ending)(W':World):Prop:=
 if h.size=0/\wv=false then e=.returned (.bool true)/\W'=W else R e W'
theorem zd8(h:ByteArray){j:Nat}(hj:j<h.data.toList.length):(Lib.strCells h)[j]?=some (.int .u8 (h.data.toList[j].toNat:Int)):=by
 have hj':j<h.data.size:=by simpa using hj
 simp[Lib.strCells];exact⟨_,Array.getElem?_eq_getElem hj',rfl⟩
theorem zd9(n:Nat)(hn:1<=n)(l Bp Bw By Bd B0:Nat)(h:ByteArray)(wv zi:Bool)(v:Value)(W:World)(R:Ending->World->Prop)(hs:h.size<=1000000)
 (hp:zf W Bp #[v] 127)(hrow:W.ownsRow B0 5 1 v h.size (Lib.strCells h))(hw:zf W Bw #[.bool wv] 4)(hy:zf W By #[.func (.yield l) #[] #[]] 207)(hd:zf W Bd #[.bool zi] 4)
 (hne:Bp≠Bw/\Bp≠By/\Bp≠Bd)
 (hR:¬(h.size=0/\wv=false)->∀v' W',(∃oa m c,v=.slice oa m c/\v'=.slice oa 0 c)->W'=W.setCell ⟨Bp,0,none⟩ v'->YieldAt Fence.wide (n-1) prog l (Y3 ⟨false,zi,h⟩) W' R)
 (hRb:∀e W',R e W'->∃b,e=.returned (.bool b)):
  CallsIn Fence.wide n prog 228 #[.pointer (some ⟨Bp,0,none⟩),.pointer (some ⟨Bw,0,none⟩),.pointer (some ⟨By,0,none⟩),.pointer (some ⟨Bd,0,none⟩)] W (RF R W h wv):=by
 have hro:Fence.wide.round=none:=rfl;have hfn:Fence.wide.fn 228:=trivial;obtain⟨oa,oc,rfl⟩:∃oa oc,v=.slice oa h.size oc:=by
  rcases hrow.2 with⟨h1,h2⟩|⟨g,cap,cur,h1,_⟩
  ·exact⟨none,0,by rw[h1,h2]⟩
  ·exact⟨_,_,h1⟩
 have cp:=hp.cell 0;have cw:=hw.cell 0;have cy:=hy.cell 0;have cd:=hd.cell 0;have fp:=hp.frozen 0;refine callsIn_of_wp func228 rfl hfn ?_ hro;simp only[ntmps228,List.size_toArray,List.length_cons,List.length_nil,Nat.reduceAdd,Nat.reduceSub,Array.replicate_succ,Array.replicate_zero,List.push_toArray,List.append_toArray,List.nil_append,List.cons_append];by_cases h0:h.size=0/\wv=false
 ·obtain⟨h1,rfl⟩:=h0
  have HR:Hid (RF R W h false (.returned (.bool true)) W):=hid (by unfold RF;rw[if_pos ⟨h1,rfl⟩];exact⟨rfl,rfl⟩);rw[h1]at cp;clear hR hRb hrow hp hw hy hd
  gi_wp2
  go_ret;exact HR.out
 ·have hlt:∀e W',R e W'->RF R W h wv e W':=λe W' hr=>by unfold RF;rw[if_neg h0];exact hr
  have lh:=hid hlt;have hconv:∀W',W'=W->(convert 127 9 (.slice oa h.size oc)).run prog W'=.ok (.string h) W':=by
   rintro W' rfl;rcases hrow.2 with⟨h1,h2⟩|⟨g,cap,cur,h1,_,hg,hcap,_,hcs,htake⟩
   ·have e:h=war:=by
     have:h.data.size=0:=h2
     cases h with
     |mk d=>simp at this;rw[this];rfl
    have h3:oa=none:=by injection h1
    subst e h3;exact run_convert_bytes_nil (P:=prog) W' 127 5 underlying127 underlying5 _ _ 9 underlying9
   ·have h3:oa=some ⟨g,0,none⟩:=by injection h1
    subst h3;have hl:h.data.toList.length=h.size:=by simp
    have:=run_convert_bytes_back (P:=prog) W' 127 9 5 ⟨g,0,none⟩ oc h.data.toList underlying127 underlying5 underlying9 (λj hj=>by
     rw[Addr.add_lit,Nat.zero_add,cell_of_row W' g j cur _ _ hg];have h5:=zd8 h hj;have hj2:j<h.size*1:=by rw[Nat.mul_one,←hl];exact hj
     rw[←htake,List.getElem?_take_of_lt hj2]at h5;simpa using h5)
    rw[hl]at this;rw[this]
  have ai:=hid hRb;have hconv:=hconv W rfl;obtain⟨fn,tmps,assign,body,Su,hRR⟩:=hR h0 (.slice oa 0 oc) _ ⟨oa,_,oc,rfl,rfl⟩ rfl;dsimp only[Y3,Rz]at Su;obtain⟨z,hz⟩:∃z,h.size=z:=⟨_,rfl⟩;have HZ:=hid hz;rw[hz]at cp hconv h0;have hnn:(0:Int)<=(z:Int):=by omega
  have HHS:=hid hs;have HR:=hid hRR;by_cases h00:z=0
  ·have hwt:wv=true:=by cases wv with
    |true=>rfl
    |false=>exact absurd ⟨h00,rfl⟩ h0
   subst h00 hwt;clear hR hRb hlt hrow hp hw hy hd hz hs h0 hRR
   gi_wp2
   refine HR.out.mono ?_;intro e W' hr;obtain⟨b,rfl⟩:=ai.out e W' hr;have HL:=hid (lh.out _ _ hr);clear hr
   gi_wp2
   go_ret;exact HL.out
  ·have hz0:((z:Int)==0)=false:=beq_eq_false_iff_ne.2 (by omega)
   clear hR hRb hlt hrow hp hw hy hd hz hs h0 hRR h00
   gi_wp2
   refine HR.out.mono ?_;intro e W' hr;obtain⟨b,rfl⟩:=ai.out e W' hr;have HL:=hid (lh.out _ _ hr);clear hr
   gi_wp2
   go_ret;exact HL.out
structure V7(B0 Bp Bw By Bl Bd l:Nat)(W:World)(h:ByteArray)(wv:Bool)(T yK:Nat->Prop):Prop where
 p:∃v,zf W Bp #[v] 127/\W.ownsRow B0 5 1 v h.size (Lib.strCells h)/\∀g,v.ownBlock=some g->T g/\¬yK g
 w:zf W Bw #[.bool wv] 4
 y:zf W By #[.func (.yield l) #[] #[]] 207
 f:zf W Bl #[.func (.func 228) #[] #[.pointer (some ⟨Bp,0,none⟩),.pointer (some ⟨Bw,0,none⟩),.pointer (some ⟨By,0,none⟩),.pointer (some ⟨Bd,0,none⟩)]] 23
 own:∀b,(b=Bp\/b=Bw\/b=By\/b=Bl)->T b/\¬yK b
section
variable{B0 Bp Bw By Bl Bd l:Nat}{W W':World}{h:ByteArray}{wv:Bool}{T T' yK QI:Nat->Prop}
theorem V7.zh{p:Nat->Prop}(S:V7 B0 Bp Bw By Bl Bd l W h wv T yK)(hf:zg p W W')(hp:∀b,b<W.heap.size->T b->p b->yK b)(hT:∀b,b<W.heap.size->T b->T' b)(Sv:∀b,b<W.heap.size->QI b->yK b):V7 B0 Bp Bw By Bl Bd l W' h wv T' QI:=by
 obtain⟨v,h1,h2,h3⟩:=S.p;have no:∀b,b<W.heap.size->(b=Bp\/b=Bw\/b=By\/b=Bl)->¬p b:=λb hb hh hpb=>(S.own b hh).2 (hp b hb (S.own b hh).1 hpb);have o2:∀b,b<W.heap.size->(b=Bp\/b=Bw\/b=By\/b=Bl)->T' b/\¬QI b:=λb hb hh=>⟨hT b hb (S.own b hh).1,λht=>(S.own b hh).2 (Sv b hb ht)⟩;refine⟨⟨v,h1.zh hf (no _ h1.lt (.inl rfl)),xq hf h2 (λg hg hpg=>(h3 g hg).2 (hp g (kK h2 g hg) (h3 g hg).1 hpg)),λg hg=>⟨hT g (kK h2 g hg) (h3 g hg).1,λht=>(h3 g hg).2 (Sv g (kK h2 g hg) ht)⟩⟩,
  S.w.zh hf (no _ S.w.lt (.inr (.inl rfl))),S.y.zh hf (no _ S.y.lt (.inr (.inr (.inl rfl)))),S.f.zh hf (no _ S.f.lt (.inr (.inr (.inr rfl)))),?_⟩
 rintro b (rfl|rfl|rfl|rfl)
 ·exact o2 _ h1.lt (.inl rfl)
 ·exact o2 _ S.w.lt (.inr (.inl rfl))
 ·exact o2 _ S.y.lt (.inr (.inr (.inl rfl)))
 ·exact o2 _ S.f.lt (.inr (.inr (.inr rfl)))
theorem V7.kept{C:Nat->Prop}(S:V7 B0 Bp Bw By Bl Bd l W h wv T yK)(k:zO C T W W'):V7 B0 Bp Bw By Bl Bd l W' h wv T yK:=by
 obtain⟨v,h1,h2,h3⟩:=S.p;have same:∀b,b<W.heap.size->T b->W'.heap[b]?=W.heap[b]?:=λb hb ht=>k.same b hb (.inl ht);refine⟨⟨v,(same _ h1.lt (S.own _ (.inl rfl)).1).trans h1,?_,h3⟩,(same _ S.w.lt (S.own _ (.inr (.inl rfl))).1).trans S.w,(same _ S.y.lt (S.own _ (.inr (.inr (.inl rfl)))).1).trans S.y,(same _ S.f.lt (S.own _ (.inr (.inr (.inr rfl)))).1).trans S.f,S.own⟩;refine⟨h2.1,?_⟩;rcases h2.2 with g0|⟨g,cap,cur,g1,g2,g3,g4⟩
 ·exact .inl g0
 ·exact .inr ⟨g,cap,cur,g1,g2,(same g (waj.1 g3).1 (h3 g (by rw[g1];rfl)).1).trans g3,g4⟩
end
theorem Cap.kept{C T:Nat->Prop}{W W':World}{Bd Bt Br mb:Nat}{s:ByteArray}{zi:Bool}{e:Nat}(h:Cap W Bd Bt Br mb s zi e)(k:zO C T W W')(hC:∀b,Zd Bd Bt Br mb b->C b):Cap W' Bd Bt Br mb s zi e:=
 h.same (λb hb=>k.same b (h.lt b hb) (.inr (hC b hb)))
theorem Cap.zh{p:Nat->Prop}{W W':World}{Bd Bt Br mb:Nat}{s:ByteArray}{zi:Bool}{e:Nat}(h:Cap W Bd Bt Br mb s zi e)(k:zg p W W')(hC:∀b,Zd Bd Bt Br mb b->¬p b):Cap W' Bd Bt Br mb s zi e:=
 h.same (λb hb=>k.block b (h.lt b hb) (hC b hb))
def qO(ds:List Deferred)(W:World)(T yK:Nat->Prop):Prop:=
 ∃Ds:List Nat,ds=Ds.map (λD=>{target:=.collected D,args:=#[]})/\Ds.Nodup/\∀D∈Ds,T D/\¬yK D/\W.heap[D]?=some (.deferred (some []))
theorem qO.nil(W:World)(T yK:Nat->Prop):qO [] W T yK:=⟨[],rfl,List.nodup_nil,λ_ h=>by cases h⟩
theorem qO.cons{ds:List Deferred}{W:World}{T yK:Nat->Prop}(h:qO ds W T yK){D z:Nat}(hz:∀E:Nat,(∃d∈ds,d.target=.collected E)->E<z)(hD:z<=D)(ht:T D/\¬yK D)(hw:W.heap[D]?=some (.deferred (some []))):qO ({target:=.collected D,args:=#[]}::ds) W T yK:=by
 obtain⟨Ds,rfl,h2,h3⟩:=h;refine⟨D::Ds,rfl,List.nodup_cons.2 ⟨λhm=>?_,h2⟩,λE hE=>?_⟩
 ·have:=hz D ⟨_,List.mem_map.2 ⟨D,hm,rfl⟩,rfl⟩
  omega
 ·rcases List.mem_cons.1 hE with rfl|hE
  ·exact⟨ht.1,ht.2,hw⟩
  ·exact h3 E hE
theorem qO.lt{ds:List Deferred}{W:World}{T yK:Nat->Prop}(h:qO ds W T yK):∀E:Nat,(∃d∈ds,d.target=.collected E)->E<W.heap.size:=by
 obtain⟨Ds,rfl,h2,h3⟩:=h;rintro E ⟨d,hd,e⟩;obtain⟨D,hD,rfl⟩:=List.mem_map.1 hd;have e2:D=E:=by simpa using e
 subst e2;exact(waj.1 (h3 D hD).2.2).1
theorem qO.zh{ds:List Deferred}{W W':World}{T T' yK QI p:Nat->Prop}(h:qO ds W T yK)(hf:zg p W W')(hp:∀b,b<W.heap.size->T b->p b->yK b)(hT:∀b,b<W.heap.size->T b->T' b)(Sv:∀b,b<W.heap.size->QI b->yK b):qO ds W' T' QI:=by
 obtain⟨Ds,rfl,h2,h3⟩:=h;refine⟨Ds,rfl,h2,λD hD=>?_⟩;obtain⟨a,b,c⟩:=h3 D hD;have hlt:=(waj.1 c).1;exact⟨hT D hlt a,λht=>b (Sv D hlt ht),(hf.block D hlt (λhh=>b (hp D hlt a hh))).trans c⟩
theorem qO.kept{ds:List Deferred}{W W':World}{T yK C:Nat->Prop}(h:qO ds W T yK)(k:zO C T W W'):qO ds W' T yK:=by
 obtain⟨Ds,rfl,h2,h3⟩:=h;refine⟨Ds,rfl,h2,λD hD=>?_⟩;obtain⟨a,b,c⟩:=h3 D hD;exact⟨a,b,(k.same D (waj.1 c).1 (.inl a)).trans c⟩
theorem Sz{F:Fence}{n:Nat}{P:Program}{fn:Func}{tmps:Array Value}{R:Ending->World->Prop}(hres:fn.results=#[]):∀(Ds:List Nat) (W:World),Ds.Nodup->(∀D∈Ds,W.heap[D]?=some (.deferred (some [])))->
  (∀W',zg (λb=>b∈Ds) W W'->R (.returned (.tuple #[])) W')->LeavesInM F n P fn tmps R (Ds.map (λD=>{target:=.collected D,args:=#[]})) .returning W
 | [],W,_,_,h=>⟨_,results_none hres _ _ _,h W (zg.refl _ _)⟩
 |D::Ds,W,hn,hD,h=>by
  have h1:=hD D (by simp);refine⟨by simp,.inl ⟨D,_,rfl,run_takeDeferred h1,?_⟩⟩;have hn2:=List.nodup_cons.1 hn;refine Sz hres Ds _ hn2.2 (λE hE=>?_) (λW' hf=>h W' ?_)
  ·exact(World.putObj_heap_other (λe=>by subst e;exact hn2.1 hE)).trans (hD E (List.mem_cons_of_mem _ hE))
  ·exact zg.trans (jA (p:=λb=>b∈D::Ds) W _ (by simp)) hf (λi _ hi=>List.mem_cons_of_mem _ hi)
theorem zea{w:World}{B0 z:Nat}{oa:Option Addr}{m c:Nat}{xs:List Value}(h:w.ownsRow B0 5 1 (.slice oa m c) z xs):w.ownsRow B0 5 1 (.slice oa 0 c) (war).size (Lib.strCells war):=by
 refine⟨rfl,?_⟩;rcases h.2 with⟨h1,h2⟩|⟨g,cap,cur,h1,h2,h3,h4,h5,h6,h7⟩
 ·injection h1 with a b c
  subst a c;exact .inl ⟨rfl,rfl⟩
 ·injection h1 with a b c
  subst a c;exact .inr ⟨g,_,cur,rfl,h2,h3,Nat.zero_le _,h5,h6,rfl⟩
def OE(s:ByteArray)(zi:Bool)(e:Nat)(J Jx:List Pc->(Nat->Prop)->World->Prop)(B0 Bp Bw By Bl Bd Bt Br mb l:Nat)(q:List Pc)(wv:Bool)(T yK:Nat->Prop)(ds:List Deferred)(W:World)(en:Ending)(W':World):Prop:=
 (zO (Zd Bd Bt Br mb) (λb=>T b/\b≠Bp) W W'/\qO ds W' T yK/\W.heap.size<=W'.heap.size)/\((en=.returned (.bool true)/\J q T W'/\V7 B0 Bp Bw By Bl Bd l W' war wv T yK/\Cap W' Bd Bt Br mb s zi e)\/(en=.returned (.bool false)/\∃pp,Jx pp T W'))
theorem aj(n:Nat)(hn:1<=n){s:ByteArray}{zi:Bool}{e:Nat}{L:List Pc}{J Jx:List Pc->(Nat->Prop)->World->Prop}{B0 Bp Bw By Bl Bd Bt Br mb l:Nat}{h:ByteArray}{wv:Bool}{pre:List Pc}{T yK:Nat->Prop}{ds:List Deferred}{W:World}
 (hJ:Y4 J)
 (hY:∀pre x rest T W1,L=pre++x::rest->J pre T W1->(∀b,T b->b<W1.heap.size)->YieldAt Fence.wide (n-1) prog l (Y3 x) W1 λe W'=>
   zO (Zd Bd Bt Br mb) T W1 W'/\((e=.returned (.bool true)/\J (pre++ [x]) T W')\/(e=.returned (.bool false)/\Jx (pre++ [x]) T W')))
  (S:V7 B0 Bp Bw By Bl Bd l W h wv T yK) (hcap:Cap W Bd Bt Br mb s zi e) (hmk:qO ds W T yK) (hj:J pre T W) (hT:∀b,T b->b<W.heap.size) (hh:h.size<=1000000)
  (hne:Bp≠Bw/\Bp≠By/\Bp≠Bd) (hne2:Bp≠Bl/\B0<=Bp) (lq:∀b,Zd Bd Bt Br mb b->b<B0) (hL:∃rest,L=(pre++fl zi h wv)++rest):
  CallsIn Fence.wide n prog 228 #[.pointer (some ⟨Bp,0,none⟩),.pointer (some ⟨Bw,0,none⟩),.pointer (some ⟨By,0,none⟩),.pointer (some ⟨Bd,0,none⟩)] W (OE s zi e J Jx B0 Bp Bw By Bl Bd Bt Br mb l (pre++fl zi h wv) wv T yK ds W):=by
 obtain⟨v,hv,hrow,Xr⟩:=S.p;obtain⟨rest,hL⟩:=hL;have RG:=(S.own Bp (.inl rfl));have key:¬(h.size=0/\wv=false)->∀oa m c,v=.slice oa m c->YieldAt Fence.wide (n-1) prog l (Y3 ⟨false,zi,h⟩) (W.setCell ⟨Bp,0,none⟩ (.slice oa 0 c)) (λen W'=>OE s zi e J Jx B0 Bp Bw By Bl Bd Bt Br mb l (pre++fl zi h wv) wv T yK ds W en W'):=by
  intro h0 oa m c hvv;have hfl:fl zi h wv=[⟨false,zi,h⟩]:=by unfold fl;rw[if_neg h0]
  have hF:zg (λb=>b=Bp) W (W.setCell ⟨Bp,0,none⟩ (.slice oa 0 c)):=zg.setCell (p:=λb=>b=Bp) (zg.refl _ W) 0 (.inl rfl) _;have hsz:(W.setCell ⟨Bp,0,none⟩ (.slice oa 0 c)).heap.size=W.heap.size:=by simp[World.setCell]
  have hj1:J pre T (W.setCell ⟨Bp,0,none⟩ (.slice oa 0 c)):=hJ.same hj (hF.mono (λb _ hb=>hb▸RG.1));have k1:=hv.set 0 (.slice oa 0 c);rw[hvv]at hrow Xr;have hgm:¬(Value.slice oa m c).ownBlock=some Bp:=λe2=>by
   rcases hrow.2 with⟨g1,_⟩|⟨g,cap,cur,g1,_,g3,_⟩
   ·rw[g1]at e2;cases e2
   ·rw[g1]at e2
    have e':g=Bp:=by simpa[Value.ownBlock]using e2
    subst e';rw[show W.heap[g]?=_ from hv]at g3;injection g3 with g3;injection g3 with _ g5 _;exact absurd g5 (by decide)
  have hob:(Value.slice oa 0 c).ownBlock=(Value.slice oa m c).ownBlock:=by cases oa<;>rfl
  have r1:=xq hF (zea hrow) (λk hk e2=>hgm (by subst e2;rw[←hob];exact hk));have S1:V7 B0 Bp Bw By Bl Bd l (W.setCell ⟨Bp,0,none⟩ (.slice oa 0 c)) war wv T yK:=
   ⟨⟨_,k1,r1,λg hg=>Xr g (by rw[←hob];exact hg)⟩,S.w.zh hF (λe=>hne.1 e.symm),S.y.zh hF (λe=>hne.2.1 e.symm),S.f.zh hF (λe=>hne2.1 e.symm),S.own⟩
  have c1:Cap (W.setCell ⟨Bp,0,none⟩ (.slice oa 0 c)) Bd Bt Br mb s zi e:=hcap.zh hF (λb hb e=>by have:=lq b hb;omega);have m1:qO ds (W.setCell ⟨Bp,0,none⟩ (.slice oa 0 c)) T yK:=by
   obtain⟨Ds,e1,e2,e3⟩:=hmk;refine⟨Ds,e1,e2,λD hD=>?_⟩;obtain⟨d1,d2,d3⟩:=e3 D hD;exact⟨d1,d2,(hF.block D (waj.1 d3).1 (λe=>by subst e;rw[show W.heap[D]?=_ from hv]at d3;cases d3)).trans d3⟩
  rw[hfl]at hL ⊢;rw[List.append_assoc]at hL;refine(hY pre ⟨false,zi,h⟩ rest T _ hL hj1 (λb hb=>by rw[hsz];exact hT b hb)).mono ?_;rintro en W' ⟨hk,hr⟩;refine⟨⟨⟨by rw[←hsz];exact hk.size,λb hb hbb=>?_⟩,m1.kept hk,by rw[←hsz];exact hk.size⟩,?_⟩
  ·have hb2:b≠Bp:=by
    rcases hbb with h|h
    ·exact h.2
    ·have:=lq b h;omega
   exact(hk.same b (by rw[hsz];exact hb) (by rcases hbb with h|h;exact .inl h.1;exact .inr h)).trans (hF.block b hb hb2)
  ·rcases hr with⟨he,hj2⟩|⟨he,hj2⟩
   ·exact .inl ⟨he,hj2,S1.kept hk,c1.kept hk (λb h=>h)⟩
   ·exact .inr ⟨he,_,hj2⟩
 refine CallsIn.mono (zd9 n hn l Bp Bw By Bd B0 h wv zi v W (λen W'=>OE s zi e J Jx B0 Bp Bw By Bl Bd Bt Br mb l (pre++fl zi h wv) wv T yK ds W en W') hh hv hrow S.w S.y hcap.d hne ?_ ?_) ?_
 ·rintro h0 v' W' ⟨oa,m,c,e1,rfl⟩ rfl
  exact key h0 oa m c e1
 ·rintro en W' ⟨_,⟨he,_⟩|⟨he,_⟩⟩
  ·exact⟨_,he⟩
  ·exact⟨_,he⟩
 ·intro en W' hr
  unfold RF at hr;by_cases h0:h.size=0/\wv=false
  ·rw[if_pos h0]at hr
   obtain⟨rfl,rfl⟩:=hr;have hfl:fl zi h wv=[]:=by unfold fl;rw[if_pos h0]
   have he0:h=war:=by
    have:h.data.size=0:=h0.1
    cases h with
    |mk d=>simp at this;rw[this];rfl
   rw[hfl,List.append_nil];exact⟨⟨zO.refl _ _ _,hmk,Nat.le_refl _⟩,.inl ⟨rfl,hj,he0▸S,hcap⟩⟩
  ·rw[if_neg h0]at hr
   exact hr
end Go.Proofs.YtkolpaonccmgiaaGreatDoor

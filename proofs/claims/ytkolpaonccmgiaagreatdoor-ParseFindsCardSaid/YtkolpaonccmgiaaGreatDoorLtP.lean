/- A range over a function whose iterator keeps state -/
import Derived.RangeFuncBound
import Derived.Test.YtkolpaonccmgiaaGreatDoorQg
set_option linter.unusedVariables false
namespace Go.Proofs.YtkolpaonccmgiaaGreatDoor
set_option linter.unusedSectionVars false
set_option linter.unusedVariables false
open Go.RowKit
def Abid {β:Type} (J:β→(Nat→Prop)→World→Prop):Prop:=
 ∀s T W W' T',J s T W→Frm T W W'→(∀b,T' b→T b∨W.heap.size≤b)→J s T' W'
def AbidL {β:Type} (l:Nat) (J:β→(Nat→Prop)→World→Prop):Prop:=
 ∀s T W W' T',J s T W→Frm (fun b=>T b∨b=l) W W'→(∀b,T' b→T b∨W.heap.size≤b)→J s T' W'
structure KpT (C T:Nat→Prop) (W W':World):Prop where
 size:W.heap.size≤W'.heap.size
 same:∀b,b<W.heap.size→(T b∨C b)→W'.heap[b]?=W.heap[b]?
theorem KpT.refl (C T:Nat→Prop) (W:World):KpT C T W W:=⟨Nat.le_refl _,fun _ _ _=>rfl⟩
theorem KpT.trans {C T:Nat→Prop} {X Y Z:World} (h:KpT C T X Y) (k:KpT C T Y Z):KpT C T X Z:=
 ⟨Nat.le_trans h.size k.size,fun b hb ht=>(k.same b (Nat.lt_of_lt_of_le hb h.size) ht).trans (h.same b hb ht)⟩
theorem KpT.of_frm {C T p:Nat→Prop} {X Y:World} (h:Frm p X Y) (hp:∀b,b<X.heap.size→p b→¬T b∧¬C b):KpT C T X Y:=
 ⟨h.size,fun b hb ht=>h.block b hb (fun hh=>by have:=hp b hb hh;rcases ht with h|h;exact this.1 h;exact this.2 h)⟩
theorem KpT.putObj {C T:Nat→Prop} {W:World} {l:Nat} (o:Obj) (ht:¬T l) (hc:¬C l):KpT C T W (W.putObj l o):=
 ⟨by simp,fun b hb h=>World.putObj_heap_other (fun e=>by subst e;rcases h with h|h;exact ht h;exact hc h)⟩
theorem frm_put {p:Nat→Prop} (W:World) {l:Nat} (o:Obj) (hp:p l):Frm p W (W.putObj l o):=
 ⟨rfl,rfl,rfl,by simp,fun k hk h=>World.putObj_heap_other (fun e=>by subst e;exact h hp)⟩
theorem YieldAt.any {n m:Nat} {P:Program} {l:Nat} {args:Array Value} {W:World} {R:Ending→World→Prop} (h:YieldAt Fence.wide n P l args W R):YieldAt Fence.wide m P l args W R:=by
 obtain⟨fn,tmps,assign,body,h1,h2,h3⟩:=h
 exact⟨fn,tmps,assign,body,h1,h2,fun c cs _=>h3 c cs (by simp [Fence.room,Fence.wide])⟩
def SeqT {α:Type} (n:Nat) (P:Program) (g:Nat) (lb:Array Value) (encs:α→Array Value) (C:Nat→Prop) (L:List α) (W:World):Prop:=
 ∀(l:Nat) (J Jx:List α→(Nat→Prop)→World→Prop),Abid J→Abid Jx→
  (∀pre x rest T W1,L=pre++x::rest→J pre T W1→(∀b,T b→b<W1.heap.size)→YieldAt Fence.wide (n - 1) P l (encs x) W1 fun e W'=>
   KpT C T W1 W'∧((e=.returned (.bool true)∧J (pre++ [x]) T W')∨(e=.returned (.bool false)∧Jx (pre++ [x]) T W')))→
  J [] (fun _=>False) W→
  CallsIn Fence.wide n P g (#[.func (.yield l) #[] #[]]++lb) W fun e W'=>(∃v,e=.returned v)∧((∃T,J L T W')∨(∃pre T,Jx pre T W'))
def postT {α:Type} (C:Nat→Prop) (l D:Nat) (I:List α→(Nat→Prop)→World→Prop) (Ix:Code→List α→(Nat→Prop)→World→Prop) (xs:List α) (T:Nat→Prop) (W:World):Exit→Act→World→Prop
 | .normal,_,W'=>W'.heap[l]?=W.heap[l]?∧W'.heap[D]?=W.heap[D]?∧KpT C T W W'∧I xs T W'
 | .ret,_,W'=>W'.heap[l]?=W.heap[l]?∧W'.heap[D]?=W.heap[D]?∧KpT C T W W'∧Ix .ret xs T W'
 | .exit id,_,W'=>W'.heap[l]?=W.heap[l]?∧W'.heap[D]?=W.heap[D]?∧KpT C T W W'∧Ix (.exit id) xs T W'
 | .goto t,_,W'=>W'.heap[l]?=W.heap[l]?∧W'.heap[D]?=W.heap[D]?∧KpT C T W W'∧Ix (.goto t) xs T W'
 | .panic _,_,_=>False
 | .outgrown,_,_=>False
variable {n:Nat} {P:Program} {w:World}
theorem wpT {α:Type} {g:Operand} {ps:Array Tmp} {assign body:Code} {Q:Exit→Act→World→Prop} {a:Act}
  {gf:Nat} {lb:Array Value} (hg:a.eval g=.func (.func gf) #[] lb) (eg:∀args w,(callFunc gf args).run P w=.ok (.enter gf args) w)
  {encs:α→Array Value} {C:Nat→Prop} {L:List α} (hseq:∀W,Below w.heap.size w W→SeqT (n - 1) P gf lb encs C L W)
  (hC:∀b,C b→b<w.heap.size) (hps:∀x,(encs x).size=ps.size)
  (I:List α→(Nat→Prop)→World→Prop) (Ix:Code→List α→(Nat→Prop)→World→Prop) (hI:AbidL (w.heap.size+1) I) (hIx:∀c,AbidL (w.heap.size+1) (Ix c))
  (h0:∀W,Below w.heap.size w W→W.heap.size=w.heap.size+2→I [] (fun _=>False) W)
  (hround:∀pre x rest T W,L=pre++x::rest→I pre T W→(∀b,T b→b<W.heap.size)→w.heap.size+2≤W.heap.size→(∃r,W.heap[w.heap.size+1]?=some (.loop r))→W.heap[w.heap.size]?=some (.deferred (some []))→¬T (w.heap.size+1)→¬T w.heap.size→
   assign.wpIn (Fence.wide.inRound (w.heap.size+1)) (n - 1 - 1) P (Exit.then (fun a' W'=>W'.heap[w.heap.size+1]?=W.heap[w.heap.size+1]?∧W'.heap[w.heap.size]?=W.heap[w.heap.size]?∧KpT C T W W'∧
    ∀r,body.wpIn (Fence.wide.inRound (w.heap.size+1)) (n - 1 - 1) P (postT C (w.heap.size+1) w.heap.size I Ix (pre++ [x]) T (W'.putObj (w.heap.size+1) (.loop r))) a' (W'.putObj (w.heap.size+1) (.loop r))) (fun _ _ _=>False)) { tmps:=(ps.zip (encs x)).foldl (fun t (p,v)=>t.setIfInBounds p v) a.tmps,defers:=[] } W)
  (hdone:∀T W,I L T W→w.heap.size+2≤W.heap.size→W.heap[w.heap.size]?=some (.deferred (some []))→Q .normal { a with defers:={ target:=.collected w.heap.size,args:=#[] }::a.defers } W)
  (hstop:∀c pre T W,Ix c pre T W→w.heap.size+2≤W.heap.size→W.heap[w.heap.size]?=some (.deferred (some []))→c.wpIn Fence.wide n P Q { a with defers:={ target:=.collected w.heap.size,args:=#[] }::a.defers } W):
  (Code.rangeFunc g ps assign body).wpIn Fence.wide n P Q a w:=by
 refine wpIn_rangeFunc ?_
 intro fn hfn
 rw [show Fence.wide.round=none from rfl]
 obtain⟨rec,hrec⟩:∃rec:LoopState→Option Code→Loop,rec=fun st pe=>{ state:=st,pending:=pe,fn,tmps:=a.tmps,params:=ps,assign,body,defers:=w.heap.size }:=⟨_,rfl⟩
 obtain⟨W1,hW1⟩:∃W1,(w.alloc (.deferred (some []))).alloc (.loop (rec .ready none))=W1:=⟨_,rfl⟩
 have hL1:W1.heap[w.heap.size+1]?=some (.loop (rec .ready none)):=by
  rw [←hW1];have:=World.alloc_heap_new (w.alloc (.deferred (some []))) (.loop (rec .ready none));rwa [World.size_alloc]at this
 have hD1:W1.heap[w.heap.size]?=some (.deferred (some [])):=by
  rw [←hW1];exact(Below.heap_alloc _ _ _ (by simp)).trans (World.alloc_heap_new w _)
 have hs1:W1.heap.size=w.heap.size+2:=by rw [←hW1];simp
 have hb1:Below w.heap.size w W1:=by rw [←hW1];exact((Below.refl _ w).alloc (Nat.le_refl _) _).alloc (by simp) _
 refine⟨w.heap.size+1,[{ target:=.collected w.heap.size,args:=#[] }],W1,{ target:=.fn (.func gf) lb,args:=#[.func (.yield (w.heap.size+1)) #[] #[]] },W1,gf,
  #[.func (.yield (w.heap.size+1)) #[] #[]]++lb,W1,?_,?_,?_,?_,(fun h=>by cases h),?_⟩
 ·rw [←hW1,hrec];exact run_enterLoop_outer _ _ _ _ _
 ·simp only [resolve,hg]
  simp [go_sem]
 ·intro f' hf';trivial
 ·simp [invoke,go_sem,eg]
 ·refine(hseq W1 hb1 (w.heap.size+1)
   (fun pre T W=>I pre T W∧W.heap[w.heap.size+1]?=some (.loop (rec .ready none))∧W.heap[w.heap.size]?=some (.deferred (some []))∧¬T (w.heap.size+1)∧¬T w.heap.size)
   (fun pre T W=>∃c,Ix c pre T W∧W.heap[w.heap.size+1]?=some (.loop (rec .done (some c)))∧W.heap[w.heap.size]?=some (.deferred (some []))∧¬T (w.heap.size+1)∧¬T w.heap.size)
   ?_ ?_ ?_ ⟨h0 W1 hb1 hs1,hL1,hD1,fun h=>h,fun h=>h⟩).mono ?_
  ·rintro s T A B T' ⟨hi,hl,hd,t1,t2⟩ hf hT
   have l1:=(Array.getElem?_eq_some_iff.1 hl).1
   exact⟨hI s T A B T' hi (hf.mono fun _ _ h=> .inl h) hT,(hf.block _ l1 t1).trans hl,(hf.block _ (by omega) t2).trans hd,fun h=>by rcases hT _ h with h|h;exact t1 h;omega,fun h=>by rcases hT _ h with h|h;exact t2 h;omega⟩
  ·rintro s T A B T' ⟨c,hi,hl,hd,t1,t2⟩ hf hT
   have l1:=(Array.getElem?_eq_some_iff.1 hl).1
   exact⟨c,hIx c s T A B T' hi (hf.mono fun _ _ h=> .inl h) hT,(hf.block _ l1 t1).trans hl,(hf.block _ (by omega) t2).trans hd,fun h=>by rcases hT _ h with h|h;exact t1 h;omega,fun h=>by rcases hT _ h with h|h;exact t2 h;omega⟩
  ·rintro pre x rest T W hLx ⟨hi,hl,hd,t1,t2⟩ hTb
   have c1:¬C (w.heap.size+1):=fun h=>by have:=hC _ h;omega
   have l1:=(Array.getElem?_eq_some_iff.1 hl).1
   have hy:=run_yield (P:=P) (args:=encs x) hl (by rw [hrec];exact hps x)
   rw [hrec]at hy
   refine⟨fn,_,assign,body,hy,roundIn_of_wpIn hfn (wpIn_mono (hround pre x rest T W hLx hi hTb (by omega) ⟨_,hl⟩ hd t1 t2) ?_)⟩
   clear hy
   rintro e0 a' Wa he0
   cases e0 with
   |normal=>?_
   |ret=>exact he0.elim
   |exit id=>exact he0.elim
   |goto t=>exact he0.elim
   |panic ch=>exact he0.elim
   |outgrown=>exact he0.elim
   obtain⟨hla,hda,hka,hbody⟩:=he0
   have hl2:=hla.trans hl
   have hd2:=hda.trans hd
   have l2:=(Array.getElem?_eq_some_iff.1 hl2).1
   refine⟨_,run_beginRound hl2 (by rw [hrec]),?_⟩
   have hl3:(Wa.putObj (w.heap.size+1) (.loop { rec .ready none with state:=.busy })).heap[w.heap.size+1]?=some (.loop { rec .ready none with state:=.busy }):=World.putObj_heap_same l2
   have hd3:(Wa.putObj (w.heap.size+1) (.loop { rec .ready none with state:=.busy })).heap[w.heap.size]?=some (.deferred (some [])):=(World.putObj_heap_other (by omega)).trans hd2
   have hsame:∀b,T b→T b∨Wa.heap.size≤b:=fun _ h=> .inl h
   refine wpIn_mono (hbody { rec .ready none with state:=.busy }) ?_
   have fin:∀(jump:Option Code) (W3:World),W3.heap[w.heap.size+1]?=(Wa.putObj (w.heap.size+1) (.loop { rec .ready none with state:=.busy })).heap[w.heap.size+1]?→W3.heap[w.heap.size]?=(Wa.putObj (w.heap.size+1) (.loop { rec .ready none with state:=.busy })).heap[w.heap.size]?→
     (Instr.endRound (w.heap.size+1) jump).run P W3=.ok (.bool jump.isNone) (W3.putObj (w.heap.size+1) (.loop (rec (if jump.isNone then .ready else .done) jump)))∧
     (W3.putObj (w.heap.size+1) (.loop (rec (if jump.isNone then .ready else .done) jump))).heap[w.heap.size+1]?=some (.loop (rec (if jump.isNone then .ready else .done) jump))∧
     (W3.putObj (w.heap.size+1) (.loop (rec (if jump.isNone then .ready else .done) jump))).heap[w.heap.size]?=some (.deferred (some [])):=fun jump W3 h1 h2=>by
    have hl4:=h1.trans hl3
    have:=run_endRound (P:=P) jump hl4
    rw [hrec]at this ⊢
    exact⟨this,World.putObj_heap_same (Array.getElem?_eq_some_iff.1 hl4).1,(World.putObj_heap_other (by omega)).trans (h2.trans hd3)⟩
   rintro e a3 W3 hp
   cases e with
   |normal=>
    obtain⟨h1,h2,hk3,hi3⟩:=hp
    obtain⟨hr,hl4,hd4⟩:=fin none W3 h1 h2
    exact⟨_,_,hr,hka.trans (((KpT.putObj _ t1 c1).trans hk3).trans (KpT.putObj _ t1 c1)),.inl ⟨rfl,hI _ T _ _ T hi3 (frm_put W3 _ (.inr rfl)) (fun _ h=> .inl h),hl4,hd4,t1,t2⟩⟩
   |ret=>
    obtain⟨h1,h2,hk3,hi3⟩:=hp
    obtain⟨hr,hl4,hd4⟩:=fin (some .ret) W3 h1 h2
    exact⟨_,_,hr,hka.trans (((KpT.putObj _ t1 c1).trans hk3).trans (KpT.putObj _ t1 c1)),.inr ⟨rfl,.ret,hIx _ _ T _ _ T hi3 (frm_put W3 _ (.inr rfl)) (fun _ h=> .inl h),hl4,hd4,t1,t2⟩⟩
   |exit id=>
    obtain⟨h1,h2,hk3,hi3⟩:=hp
    obtain⟨hr,hl4,hd4⟩:=fin (some (.exit id)) W3 h1 h2
    exact⟨_,_,hr,hka.trans (((KpT.putObj _ t1 c1).trans hk3).trans (KpT.putObj _ t1 c1)),.inr ⟨rfl,.exit id,hIx _ _ T _ _ T hi3 (frm_put W3 _ (.inr rfl)) (fun _ h=> .inl h),hl4,hd4,t1,t2⟩⟩
   |goto t=>
    obtain⟨h1,h2,hk3,hi3⟩:=hp
    obtain⟨hr,hl4,hd4⟩:=fin (some (.goto t)) W3 h1 h2
    exact⟨_,_,hr,hka.trans (((KpT.putObj _ t1 c1).trans hk3).trans (KpT.putObj _ t1 c1)),.inr ⟨rfl,.goto t,hIx _ _ T _ _ T hi3 (frm_put W3 _ (.inr rfl)) (fun _ h=> .inl h),hl4,hd4,t1,t2⟩⟩
   |panic ch=>exact hp.elim
   |outgrown=>exact hp.elim
  ·rintro e W2 ⟨⟨v,rfl⟩,(⟨T,hi,hl,hd,t1,t2⟩|⟨pre,T,c,hi,hl,hd,t1,t2⟩)⟩
   ·have l1:=(Array.getElem?_eq_some_iff.1 hl).1
    exact⟨none,_,by have:=run_endLoop (P:=P) hl (by rw [hrec];simp);rw [hrec]at this;exact this,hdone T _ (hI _ T _ _ T hi (frm_put W2 _ (.inr rfl)) (fun _ h=> .inl h)) (by simp;omega) ((World.putObj_heap_other (by omega)).trans hd)⟩
   ·have l1:=(Array.getElem?_eq_some_iff.1 hl).1
    exact⟨some c,_,by have:=run_endLoop (P:=P) hl (by rw [hrec];simp);rw [hrec]at this;exact this,hstop c pre T _ (hIx c _ T _ _ T hi (frm_put W2 _ (.inr rfl)) (fun _ h=> .inl h)) (by simp;omega) ((World.putObj_heap_other (by omega)).trans hd)⟩
end Go.Proofs.YtkolpaonccmgiaaGreatDoor
namespace Go.Proofs.YtkolpaonccmgiaaGreatDoor
set_option linter.unusedSectionVars false
set_option linter.unusedVariables false
open Go.RowKit
theorem md_mem {s:ByteArray} {k m f:Nat} (h:(m,f)∈nt s k):md s k f=m:=by
 obtain⟨A,R,e⟩:=List.append_of_mem h
 exact md_at e
theorem mem_md {s:ByteArray} {k f:Nat} (h:pres s k f=true):(md s k f,f)∈nt s k:=by
 obtain⟨A,R,e⟩:=pres_split h
 rw [e];simp
theorem feed_gone (x:Ms) (hI:Inv x) (b p:Nat):
  (∃T,Sim T x.st∧((feed x b p).st=T∨∃n,(feed x b p).st=(n,p)::T))∨
  (top x.st=12∧∃T,Sim T x.st.tail∧((feed x b p).st=T∨∃n,(feed x b p).st=(n,p)::T))∨
  (top x.st≠12∧(feed x b p).st=x.st.tail)∨(top x.st=12∧(feed x b p).st=x.st.tail.tail):=by
 obtain⟨st,fresh⟩:=x
 have hg:=hI.good
 cases st with
 |nil=>exact absurd hg (by simp [good])
 |cons a r=>
  obtain⟨m,f⟩:=a
  simp only at hg
  have ht:top ((m,f)::r)=m:=rfl
  have htl:((m,f)::r).tail=r:=rfl
  simp only [ht,htl]
  have pl:∀(m1 f1 m0:Nat) (r1:List Fr),(m0=m1∨turns m0 m1)→(m1=9→m0=9∨m0=11)→
    (∃T,Sim T ((m0,f1)::r1)∧((plainF ((m1,f1)::r1) fresh b p).st=T∨∃n,(plainF ((m1,f1)::r1) fresh b p).st=(n,p)::T))∨(plainF ((m1,f1)::r1) fresh b p).st=r1:=by
   intro m1 f1 m0 r1 h01 h9
   have hs:Sim ((m1,f1)::r1) ((m0,f1)::r1):=by
    rcases h01 with rfl|h
    ·exact .inl rfl
    ·exact .inr ⟨m0,m1,f1,r1,rfl,rfl,h⟩
   rcases plain_cases m1 f1 r1 fresh b p with h|⟨n,h,hn⟩|⟨h0,h⟩|⟨h0,h⟩
   ·exact .inl ⟨_,hs,.inl h⟩
   ·exact .inl ⟨_,hs,.inr ⟨n,h⟩⟩
   ·exact .inr h
   ·subst h0
    refine .inl ⟨(11,f1)::r1,?_,.inl h⟩
    rcases h9 rfl with rfl|rfl
    ·exact .inr ⟨9,11,f1,r1,rfl,rfl,.inr (.inr (.inl ⟨rfl,rfl⟩))⟩
    ·exact .inl rfl
  unfold feed
  simp only
  by_cases h12:m=12
  ·rw [if_pos h12]
   split
   ·exact .inl ⟨_,.inr ⟨m,3,f,r,rfl,rfl,.inl ⟨h12,.inl rfl⟩⟩,.inl rfl⟩
   split
   ·refine .inl ⟨_,.inr ⟨m,brace (top r),f,r,rfl,rfl,.inl ⟨h12,?_⟩⟩,.inl rfl⟩
    unfold brace
    split
    ·exact .inr (.inr rfl)
    ·exact .inr (.inl rfl)
   split
   ·exact .inr (.inl ⟨h12,r,.inl rfl,.inl rfl⟩)
   ·obtain⟨m2,f2,r2,rfl,h1,h2⟩:=good_more hg (by omega)
    rcases pl m2 f2 m2 r2 (.inl rfl) (fun h=> .inl h)with h|h
    ·exact .inr (.inl ⟨h12,h⟩)
    ·exact .inr (.inr (.inr ⟨h12,h⟩))
  rw [if_neg h12]
  by_cases h3:m=3
  ·rw [if_pos h3]
   split
   ·exact .inl ⟨_,.inr ⟨m,9,f,r,rfl,rfl,.inr (.inl ⟨h3,.inl rfl⟩)⟩,.inl rfl⟩
   ·rcases pl 1 f m r (.inr (.inr (.inl ⟨h3,.inr rfl⟩))) (fun h=>by omega)with h|h
    ·exact .inl h
    ·exact .inr (.inr (.inl ⟨h12,h⟩))
  rw [if_neg h3]
  by_cases h11:m=11
  ·rw [if_pos h11]
   split
   ·exact .inr (.inr (.inl ⟨h12,rfl⟩))
   ·rcases pl 9 f m r (.inr (.inr (.inr (.inr ⟨h11,rfl⟩)))) (fun h=> .inr h11)with h|h
    ·exact .inl h
    ·exact .inr (.inr (.inl ⟨h12,h⟩))
  rw [if_neg h11]
  rcases pl m f m r (.inl rfl) (fun h=> .inl h)with h|h
  ·exact .inl h
  ·exact .inr (.inr (.inl ⟨h12,h⟩))
theorem nt_gone (s:ByteArray) (k:Nat):
  (∃T,Sim T (nt s k)∧(nt s (k+1)=T∨∃n,nt s (k+1)=(n,k)::T))∨
  (∃g R T,nt s k=(12,g)::R∧Sim T R∧(nt s (k+1)=T∨∃n,nt s (k+1)=(n,k)::T))∨
  (∃m g R,nt s k=(m,g)::R∧m≠12∧nt s (k+1)=R)∨(∃g m g2 R,nt s k=(12,g)::(m,g2)::R∧nt s (k+1)=R):=by
 have h:=feed_gone (runK s k) (runK_inv s k) (by8 s k) k
 have hpw:=dsc_run s (k+1)
 rw [←runK_succ,nt_st s (k+1),nt_st s k]at h
 have sim2:∀{T D:List Fr},Sim T (D++ [(0,0)])→∃T2,T=T2++ [(0,0)]∧Sim T2 D:=by
  intro T D hS
  rcases hS with rfl|⟨m,n,f,r,hD,rfl,ht⟩
  ·exact⟨_,rfl,.inl rfl⟩
  ·cases D with
   |nil=>
    simp at hD
    exact absurd hD.1.1.symm (turns_ne ht)
   |cons a D=>
    simp at hD
    obtain⟨rfl,rfl⟩:=hD
    exact⟨(n,f)::D,rfl,.inr ⟨m,n,f,D,rfl,rfl,ht⟩⟩
 have fin2:∀{T2:List Fr},(nt s (k+1)++ [(0,0)]=T2++ [(0,0)]∨∃n,nt s (k+1)++ [(0,0)]=(n,k)::(T2++ [(0,0)]))→(nt s (k+1)=T2∨∃n,nt s (k+1)=(n,k)::T2):=by
  intro T2 hh
  rcases hh with hh|⟨n,hh⟩
  ·exact .inl (List.append_cancel_right hh)
  ·rw [←List.cons_append]at hh
   exact .inr ⟨n,List.append_cancel_right hh⟩
 have hlen:nt s (k+1)++ [(0,0)]≠ []:=by simp
 cases hD:nt s k with
 |nil=>
  rw [hD]at h
  rcases h with⟨T,hS,hN⟩|⟨h12,_⟩|⟨_,h⟩|⟨h12,_⟩
  ·obtain⟨T2,rfl,hS2⟩:=sim2 hS
   exact .inl ⟨T2,hS2,fin2 hN⟩
  ·simp [top]at h12
  ·simp at h
  ·simp [top]at h12
 |cons a D=>
  obtain⟨m,g⟩:=a
  rw [hD]at h
  rcases h with⟨T,hS,hN⟩|⟨h12,T,hS,hN⟩|⟨h12,h⟩|⟨h12,h⟩
  ·obtain⟨T2,rfl,hS2⟩:=sim2 hS
   exact .inl ⟨T2,hS2,fin2 hN⟩
  ·have e12:m=12:=h12
   subst e12
   obtain⟨T2,rfl,hS2⟩:=sim2 (D:=D) hS
   exact .inr (.inl ⟨g,D,T2,rfl,hS2,fin2 hN⟩)
  ·exact .inr (.inr (.inl ⟨m,g,D,rfl,h12,List.append_cancel_right h⟩))
  ·have e12:m=12:=h12
   subst e12
   cases D with
   |nil=>simp at h
   |cons c D=>exact .inr (.inr (.inr ⟨g,c.1,c.2,D,rfl,List.append_cancel_right h⟩))
theorem sim_cons {T D:List Fr} {m g:Nat} (h:Sim T ((m,g)::D)):∃n,T=(n,g)::D∧(n=m∨turns m n):=by
 rcases h with rfl|⟨m1,n,f,r,hD,rfl,ht⟩
 ·exact⟨m,rfl,.inl rfl⟩
 ·cases hD
  exact⟨n,rfl,.inr ht⟩
theorem sim_nil {T:List Fr} (h:Sim T []):T=[]:=by
 rcases h with rfl|⟨m1,n,f,r,hD,rfl,ht⟩
 ·rfl
 ·cases hD
theorem md_next {s:ByteArray} {k f:Nat} (h:pres s (k+1) f=true) (hf:f<k):md s (k+1) f=md s k f∨turns (md s k f) (md s (k+1) f):=by
 have hm:=mem_md h
 have fresh:∀T,(nt s (k+1)=T∨∃n,nt s (k+1)=(n,k)::T)→(md s (k+1) f,f)∈T:=by
  intro T hN
  rcases hN with hN|⟨n,hN⟩
  ·rw [hN]at hm;exact hm
  ·rw [hN]at hm
   rcases List.mem_cons.1 hm with e|e
   ·simp at e;omega
   ·exact e
 have simm:∀T D:List Fr,(∀x∈D,x∈nt s k)→Sim T D→(md s (k+1) f,f)∈T→md s (k+1) f=md s k f∨turns (md s k f) (md s (k+1) f):=by
  intro T D hD hS hmem
  rcases hS with rfl|⟨m1,n,f1,r,rfl,rfl,ht⟩
  ·exact .inl (md_mem (hD _ hmem)).symm
  ·rcases List.mem_cons.1 hmem with e|e
   ·simp at e
    obtain⟨e1,rfl⟩:=e
    have:=md_mem (hD (m1,f) (by simp))
    rw [e1,this]
    exact .inr ht
   ·exact .inl (md_mem (hD _ (List.mem_cons_of_mem _ e))).symm
 rcases nt_gone s k with⟨T,hS,hN⟩|⟨g,R,T,hD,hS,hN⟩|⟨m,g,R,hD,_,hN⟩|⟨g,m,g2,R,hD,hN⟩
 ·exact simm T _ (fun _ h=>h) hS (fresh T hN)
 ·exact simm T R (fun x hx=>by rw [hD];exact List.mem_cons_of_mem _ hx) hS (fresh T hN)
 ·exact simm R R (fun x hx=>by rw [hD];exact List.mem_cons_of_mem _ hx) (.inl rfl) (fresh R (.inl hN))
 ·exact simm R R (fun x hx=>by rw [hD];exact List.mem_cons_of_mem _ (List.mem_cons_of_mem _ hx)) (.inl rfl) (fresh R (.inl hN))
theorem shut_nt {s:ByteArray} {k f:Nat} (hp:pres s k f=true) (h:pres s (k+1) f=false) (hm:md s k f≠12):nt s (k+1)=blw s f:=by
 obtain⟨⟨A,hA⟩,_⟩:=pres_all hp
 have no:∀{B:List Fr} {m:Nat},nt s (k+1)=B++(m,f)::blw s f→False:=fun e=>by rw [pres_at e]at h;cases h
 have no2:∀{T D A:List Fr},D=A++(md s k f,f)::blw s f→Sim T D→(nt s (k+1)=T∨∃n,nt s (k+1)=(n,k)::T)→False:=by
  intro T D A hD hS hN
  have:∃B m,T=B++(m,f)::blw s f:=by
   rcases hS with rfl|⟨m1,n,f1,r,hD2,rfl,ht⟩
   ·exact⟨A,_,hD⟩
   ·rw [hD]at hD2
    cases A with
    |nil=>simp at hD2;obtain⟨⟨_,rfl⟩,rfl⟩:=hD2;exact⟨[],n,rfl⟩
    |cons a A=>simp at hD2;obtain⟨rfl,rfl⟩:=hD2;exact⟨(n,f1)::A,_,rfl⟩
  obtain⟨B,m,hT⟩:=this
  rcases hN with hN|⟨n,hN⟩
  ·exact no (hN.trans hT)
  ·exact no (B:=(n,k)::B) (m:=m) (by rw [hN,hT];rfl)
 rcases nt_gone s k with⟨T,hS,hN⟩|⟨g,R,T,hD,hS,hN⟩|⟨m,g,R,hD,_,hN⟩|⟨g,m,g2,R,hD,hN⟩
 ·exact(no2 hA hS hN).elim
 ·rw [hA]at hD
  cases A with
  |nil=>simp at hD;exact absurd hD.1.1 hm
  |cons a A=>simp at hD;exact(no2 hD.2.symm hS hN).elim
 ·rw [hA]at hD
  cases A with
  |nil=>simp at hD;rw [hN,hD.2]
  |cons a A=>simp at hD;exact(no (hN.trans hD.2.symm)).elim
 ·rw [hA]at hD
  cases A with
  |nil=>simp at hD;exact absurd hD.1.1 hm
  |cons a A=>
   simp at hD
   cases A with
   |nil=>simp at hD;rw [hN,hD.2.2]
   |cons c A=>simp at hD;exact(no (hN.trans hD.2.2.symm)).elim
theorem push_mv (x:Ms) (hI:Inv x) (b p n:Nat) (T:List Fr) (hp:∀y∈x.st,y.2<p∨y=(0,0)) (hn:n≠0) (h:(feed x b p).st=(n,p)::T) (hTn:∀y∈x.st,y.2=p→y=(0,0)):
  ∃m f r fr,T=(m,f)::r∧(mv m b fr).1=.push n:=by
 obtain⟨st,fresh⟩:=x
 have hg:=hI.good
 cases st with
 |nil=>exact absurd hg (by simp [good])
 |cons a r=>
  obtain⟨m,f⟩:=a
  simp only at hg hp hTn
  have pl:∀(m1 f1:Nat) (r1:List Fr),(∀y∈r1,y∈((m,f)::r))→(f1=p→f=p∧m=0)→(f1=p→m1=0)→(plainF ((m1,f1)::r1) fresh b p).st=(n,p)::T→∃m f r fr,T=(m,f)::r∧(mv m b fr).1=.push n:=by
   intro m1 f1 r1 hr1 hf1 hf2 hh
   have hh2:(mv m1 b fresh).1.run ((m1,f1)::r1) p=(n,p)::T:=hh
   cases hv:(mv m1 b fresh).1 with
   |keep=>
    rw [hv]at hh2
    simp [Mv.run]at hh2
    obtain⟨⟨rfl,rfl⟩,rfl⟩:=hh2
    exact absurd (hf2 rfl) hn
   |push n2=>
    rw [hv]at hh2
    simp [Mv.run]at hh2
    obtain⟨rfl,rfl⟩:=hh2
    exact⟨m1,f1,r1,fresh,rfl,hv⟩
   |pop=>
    rw [hv]at hh2
    have e:r1=(n,p)::T:=hh2
    have hm:(n,p)∈((m,f)::r):=hr1 _ (by rw [e];simp)
    have:=hTn _ hm rfl
    simp at this
    exact absurd this.1 hn
   |turn n2=>
    rw [hv]at hh2
    simp [Mv.run]at hh2
    obtain⟨⟨rfl,rfl⟩,rfl⟩:=hh2
    have h0:=hf2 rfl
    subst h0
    rcases mv_cases 0 b fresh with h|⟨_,h,_⟩|⟨h0,h⟩|⟨h0,h⟩
    ·rw [h]at hv;cases hv
    ·rw [h]at hv;cases hv
    ·exact absurd rfl h0
    ·omega
  have h0p:f=p→m=0:=fun e=>by have:=hTn (m,f) (by simp) e;simp at this;exact this.1
  have hmem:∀y∈r,y∈((m,f)::r):=fun y hy=>List.mem_cons_of_mem _ hy
  unfold feed at h
  simp only at h
  by_cases h12:m=12
  ·rw [if_pos h12]at h
   have hne:f≠p:=fun e=>by have:=h0p e;omega
   split at h
   ·simp at h;exact absurd h.1.2 hne
   split at h
   ·simp at h;exact absurd h.1.2 hne
   split at h
   ·have hm:(n,p)∈((m,f)::r):=hmem _ (by rw [show r=(n,p)::T from h];simp)
    have:=hTn _ hm rfl
    simp at this
    exact absurd this.1 hn
   ·obtain⟨m2,f2,r2,rfl,h1,h2⟩:=good_more hg (by omega)
    refine pl m2 f2 r2 (fun y hy=>by simp [hy]) (fun e=>?_) (fun e=>?_) h
    ·have:=hTn (m2,f2) (by simp) e
     simp at this
     obtain⟨rfl,rfl⟩:=this
     have:=hp (m,f) (by simp)
     rcases this with h|h
     ·simp at h;omega
     ·simp at h;omega
    ·have:=hTn (m2,f2) (by simp) e
     simp at this
     exact this.1
  rw [if_neg h12]at h
  by_cases h3:m=3
  ·rw [if_pos h3]at h
   have hne:f≠p:=fun e=>by have:=h0p e;omega
   split at h
   ·simp at h;exact absurd h.1.2 hne
   ·exact pl 1 f r hmem (fun e=>absurd e hne) (fun e=>absurd e hne) h
  rw [if_neg h3]at h
  by_cases h11:m=11
  ·rw [if_pos h11]at h
   have hne:f≠p:=fun e=>by have:=h0p e;omega
   split at h
   ·have hm:(n,p)∈((m,f)::r):=hmem _ (by rw [show r=(n,p)::T from h];simp)
    have:=hTn _ hm rfl
    simp at this
    exact absurd this.1 hn
   ·exact pl 9 f r hmem (fun e=>absurd e hne) (fun e=>absurd e hne) h
  rw [if_neg h11]at h
  exact pl m f r hmem (fun e=>⟨e,h0p e⟩) h0p h
theorem born_mv {s:ByteArray} {a:Nat} (hb:born s a=true):∃m f r fr,blw s a++ [(0,0)]=(m,f)::r∧(mv m (by8 s a) fr).1=.push (md s (a+1) a):=by
 have h1:=born_split hb
 have h2:(feed (runK s a) (by8 s a) a).st=(md s (a+1) a,a)::(blw s a++ [(0,0)]):=by
  rw [←runK_succ,nt_st s (a+1),h1];rfl
 have hpl:∀y∈(runK s a).st,y.2<a∨y=(0,0):=by
  intro y hy
  rw [nt_st]at hy
  rcases List.mem_append.1 hy with h|h
  ·exact .inl (nt_lt s a h)
  ·right;simpa using h
 refine push_mv (runK s a) (runK_inv s a) (by8 s a) a (md s (a+1) a) _ hpl ?_ h2 ?_
 ·intro e
  have hm:=mem_md hb
  have hg:=(runK_inv s (a+1)).good
  rw [nt_st,h1,e]at hg
  have:=good_zero hg
  simp at this
 ·intro y hy e
  rcases hpl y hy with h|h
  ·omega
  ·exact h
theorem born_in5 {s:ByteArray} {a f:Nat} {R:List Fr} (hb:born s a=true) (h:blw s a=(5,f)::R):md s (a+1) a=13∨md s (a+1) a=12∨md s (a+1) a=6:=by
 obtain⟨m,f2,r,fr,e,hv⟩:=born_mv hb
 rw [h]at e
 simp at e
 obtain⟨⟨rfl,rfl⟩,_⟩:=e
 rcases mv_cases 5 (by8 s a) fr with h1|⟨n,h1,h2⟩|⟨_,h1⟩|⟨h0,h1⟩
 ·rw [h1]at hv;cases hv
 ·have:(mv 5 (by8 s a) fr).1=.push (md s (a+1) a):=hv
  unfold mv at this
  simp [isProg]at this
  split at this
  ·split at this<;>cases this
  ·have e:opn (by8 s a)=md s (a+1) a:=by injection this
   rcases opn_cases (by8 s a)with h|h|h|h<;>omega
 ·rw [h1]at hv;cases hv
 ·omega
theorem esc_next {s:ByteArray} {k f:Nat} (h:pres s k f=true) (hm:md s k f=13):pres s (k+1) f=false:=by
 obtain⟨A,R,hA⟩:=pres_split h
 rw [hm]at hA
 have hg:=(runK_inv s k).good
 have hA0:A=[]:=by
  cases hr:A.reverse with
  |nil=>simpa using hr
  |cons c A2=>
   exfalso
   have e:A=A2.reverse++ [c]:=by have:=congrArg List.reverse hr;simpa using this
   rw [nt_st,hA,e]at hg
   have hd:∀(B C:List Fr),good (B++c::(13,f)::C)→False:=by
    intro B
    induction B with
    |nil=>
     intro C h
     have:=over_base (good_two (m:=c.1) (f:=c.2) h).1
     simp [base]at this
    |cons b B ih=>
     intro C h
     refine ih C ?_
     cases hB:B++c::(13,f)::C with
     |nil=>simp at hB
     |cons d D=>
      rw [List.cons_append,hB]at h
      exact(good_two (m:=b.1) (f:=b.2) (m2:=d.1) (f2:=d.2) h).2
   exact hd A2.reverse (R++ [(0,0)]) (by simpa using hg)
 subst hA0
 have hlt:=pres_lt h
 have h2:(runK s (k+1)).st=R++ [(0,0)]:=by
  have hst:(runK s k).st=(13,f)::(R++ [(0,0)]):=by rw [nt_st,hA];rfl
  rw [runK_succ]
  cases hq:runK s k with
  |mk st fr=>
   rw [hq]at hst
   simp at hst
   subst hst
   rfl
 have h3:nt s (k+1)=R:=by rw [nt_st]at h2;exact List.append_cancel_right h2
 cases hp:pres s (k+1) f with
 |false=>rfl
 |true=>
  obtain⟨m,hm⟩:=pres_iff.1 hp
  rw [h3]at hm
  have:=nt_pw s k
  rw [hA]at this
  have:=(List.pairwise_cons.1 this).1 _ hm
  simp at this
def K5 (m:Nat):Prop:=m=13∨m=12∨m=6∨m=3∨m=7∨m=8∨m=9∨m=1∨m=11
theorem k5_next {m n:Nat} (h:K5 m) (ht:n=m∨turns m n):K5 n:=by
 unfold K5 turns at*
 omega
theorem k5_at {s:ByteArray} {a f:Nat} {R:List Fr} (hb:born s a=true) (h:blw s a=(5,f)::R):∀{k:Nat},pres s k a=true→K5 (md s k a)
 |0,hp=>by have:=pres_lt hp;omega
 |k+1,hp=>by
  rcases Nat.eq_or_lt_of_le (Nat.le_of_lt_succ (pres_lt hp))with e|e
  ·subst e
   have:=born_in5 hb h
   unfold K5
   omega
  ·exact k5_next (k5_at hb h (pres_back hp e)) (md_next hp e)
theorem k5_cnt {m:Nat} (h:K5 m):cnt m≠4∧cnt m≠5∧cnt m≠14:=by
 unfold K5 at h
 unfold cnt
 repeat' split
 all_goals omega
theorem esc_born {s:ByteArray} {f:Nat}:∀{k:Nat},pres s k f=true→md s k f=13→k=f+1
 |0,h,_=>by have:=pres_lt h;omega
 |k+1,h,hm=>by
  rcases Nat.eq_or_lt_of_le (Nat.le_of_lt_succ (pres_lt h))with e|e
  ·rw [e]
  ·exfalso
   rcases md_next h e with e2|e2
   ·have:=esc_next (pres_back h e) (e2.symm.trans hm)
    rw [this]at h;cases h
   ·rw [hm]at e2
    unfold turns at e2
    omega
theorem eK_pres2 {s:ByteArray} {f:Nat} (hb:born s f=true) (hf:f<s.size):pres s (eK s f s.size) f=true:=by
 have h1:f+1≤eK s f s.size:=eK_born hb hf
 exact eK_pres (k:=s.size) (by omega) (Nat.le_refl _)
theorem esc_prt {s:ByteArray} {f:Nat} (hb:born s f=true) (hf:f<s.size) (hm:(prt s f).mode=13):(prt s f).to=if f+1=s.size then s.size else f+2:=by
 have he:=prt_eq hb hf
 by_cases h12:cnt (md s (eK s f s.size) f)=12
 ·rw [if_pos h12]at he
  rw [he]at hm
  simp at hm
 ·rw [if_neg h12]at he
  rw [he]at hm ⊢
  simp only at hm ⊢
  have h13:md s (eK s f s.size) f=13:=by
   unfold cnt at hm
   split at hm
   ·omega
   ·split at hm
    ·omega
    ·exact hm
  have:=esc_born (eK_pres2 hb hf) h13
  rw [this]
theorem prt_mo {s:ByteArray} {f:Nat} (hb:born s f=true) (hf:f<s.size):(prt s f).mode=cnt (md s (eK s f s.size) f):=by
 rw [prt_eq hb hf]
 split
 ·rename_i h;exact h.symm
 ·rfl
def AtB (s:ByteArray) (a:Nat) (B:List Fr):Prop:=a<s.size→nt s a=B∨∃g,nt s a=(12,g)::B∧pres s (a+1) g=false
def Wi (s:ByteArray) (a:Nat) (B:List Fr):Prop:=B=[]∨∃f R,B=(5,f)::R∧pres s (a+1) f=true
theorem AtB.none {s:ByteArray} {a:Nat} {B:List Fr} (h:AtB s a B) (hw:Wi s a B) (ha:a<s.size) (hb:born s a=false):nt s (a+1)=B:=by
 have nb:∀n T,nt s (a+1)=(n,a)::T→False:=fun n T e=>by
  have:born s a=true:=pres_at (A:=[]) e
  rw [this]at hb;cases hb
 have keepB:∀T,Sim T B→T=B:=by
  intro T hS
  rcases hw with rfl|⟨f,R,rfl,_⟩
  ·exact sim_nil hS
  ·obtain⟨n,rfl,hn⟩:=sim_cons hS
   rcases hn with rfl|hn
   ·rfl
   ·unfold turns at hn;omega
 rcases h ha with h|⟨g,h,hg⟩
 ·rcases nt_gone s a with⟨T,hS,hN⟩|⟨g,R,T,hD,hS,hN⟩|⟨m,g,R,hD,h12,hN⟩|⟨g,m,g2,R,hD,hN⟩
  ·rw [h]at hS
   rcases hN with hN|⟨n,hN⟩
   ·rw [hN];exact keepB T hS
   ·exact(nb _ _ hN).elim
  ·rw [h]at hD
   rcases hw with rfl|⟨f,R2,rfl,_⟩
   ·cases hD
   ·simp at hD
  ·rw [h]at hD
   rcases hw with rfl|⟨f,R2,rfl,hf⟩
   ·cases hD
   ·exfalso
    cases hD
    obtain⟨m2,hm2⟩:=pres_iff.1 hf
    rw [hN]at hm2
    have:=nt_pw s a
    rw [h]at this
    have:=(List.pairwise_cons.1 this).1 _ hm2
    simp at this
  ·rw [h]at hD
   rcases hw with rfl|⟨f,R2,rfl,_⟩
   ·cases hD
   ·simp at hD
 ·have gone:∀T m,(nt s (a+1)=T∨∃n,nt s (a+1)=(n,a)::T)→(m,g)∈T→False:=by
   intro T m hN hm
   rcases hN with hN|⟨n,hN⟩
   ·rw [pres_iff.2 ⟨m,by rw [hN];exact hm⟩]at hg;cases hg
   ·exact nb _ _ hN
  rcases nt_gone s a with⟨T,hS,hN⟩|⟨g2,R,T,hD,hS,hN⟩|⟨m,g2,R,hD,h12,hN⟩|⟨g2,m,g3,R,hD,hN⟩
  ·rw [h]at hS
   obtain⟨n,rfl,_⟩:=sim_cons hS
   exact(gone _ n hN (by simp)).elim
  ·rw [h]at hD
   cases hD
   rcases hN with hN|⟨n,hN⟩
   ·rw [hN];exact keepB T hS
   ·exact(nb _ _ hN).elim
  ·rw [h]at hD
   cases hD
   exact absurd rfl h12
  ·rw [h]at hD
   cases hD
   rcases hw with hw|⟨f,R2,e,hf⟩
   ·cases hw
   ·exfalso
    cases e
    obtain⟨m2,hm2⟩:=pres_iff.1 hf
    rw [hN]at hm2
    have:=nt_pw s a
    rw [h]at this
    have:=(List.pairwise_cons.1 (List.pairwise_cons.1 this).2).1 _ hm2
    simp at this
theorem AtB.born {s:ByteArray} {a:Nat} {B:List Fr} (h:AtB s a B) (hw:Wi s a B) (ha:a<s.size) (hb:born s a=true):blw s a=B:=by
 have hsp:=born_split hb
 have keepB:∀T,Sim T B→T=B:=by
  intro T hS
  rcases hw with rfl|⟨f,R,rfl,_⟩
  ·exact sim_nil hS
  ·obtain⟨n,rfl,hn⟩:=sim_cons hS
   rcases hn with rfl|hn
   ·rfl
   ·unfold turns at hn;omega
 have lt:∀x∈nt s a,x.2≠a:=fun x hx e=>by have:=nt_lt s a hx;omega
 have isT:∀T,(∀x∈T,x.2≠a)→(nt s (a+1)=T∨∃n,nt s (a+1)=(n,a)::T)→blw s a=T:=by
  intro T hT hN
  rcases hN with hN|⟨n,hN⟩
  ·rw [hN]at hsp
   exact absurd rfl (hT (md s (a+1) a,a) (by rw [hsp];simp))
  ·rw [hN]at hsp
   simp at hsp
   exact hsp.2.symm
 have simlt:∀T D:List Fr,Sim T D→(∀x∈D,x.2≠a)→∀x∈T,x.2≠a:=by
  intro T D hS hD x hx
  rcases hS with rfl|⟨m1,n,f1,r,rfl,rfl,ht⟩
  ·exact hD x hx
  ·rcases List.mem_cons.1 hx with e|e
   ·rw [e];exact hD (m1,f1) (by simp)
   ·exact hD x (List.mem_cons_of_mem _ e)
 rcases h ha with h|⟨g,h,hg⟩
 ·rcases nt_gone s a with⟨T,hS,hN⟩|⟨g,R,T,hD,hS,hN⟩|⟨m,g,R,hD,h12,hN⟩|⟨g,m,g2,R,hD,hN⟩
  ·have:=isT T (simlt _ _ hS lt) hN
   rw [h]at hS
   rw [this];exact keepB T hS
  ·rw [h]at hD
   rcases hw with rfl|⟨f,R2,rfl,_⟩
   ·cases hD
   ·simp at hD
  ·exfalso
   have:=isT R (fun x hx=>lt x (by rw [hD];exact List.mem_cons_of_mem _ hx)) (.inl hN)
   rw [hN]at hsp
   exact absurd rfl (lt (md s (a+1) a,a) (by rw [hD,hsp];simp))
  ·exfalso
   rw [hN]at hsp
   exact absurd rfl (lt (md s (a+1) a,a) (by rw [hD,hsp];simp))
 ·rcases nt_gone s a with⟨T,hS,hN⟩|⟨g2,R,T,hD,hS,hN⟩|⟨m,g2,R,hD,h12,hN⟩|⟨g2,m,g3,R,hD,hN⟩
  ·exfalso
   rw [h]at hS
   obtain⟨n,rfl,_⟩:=sim_cons hS
   have:pres s (a+1) g=true:=by
    rcases hN with hN|⟨n2,hN⟩
    ·exact pres_iff.2 ⟨n,by rw [hN];simp⟩
    ·exact pres_iff.2 ⟨n,by rw [hN];simp⟩
   rw [this]at hg;cases hg
  ·rw [h]at hD
   cases hD
   have:=isT T (simlt _ _ hS (fun x hx=>lt x (by rw [h];exact List.mem_cons_of_mem _ hx))) hN
   rw [this];exact keepB T hS
  ·exfalso
   rw [hN]at hsp
   exact absurd rfl (lt (md s (a+1) a,a) (by rw [hD,hsp];simp))
  ·exfalso
   rw [hN]at hsp
   exact absurd rfl (lt (md s (a+1) a,a) (by rw [hD,hsp];simp))
theorem at_behind {s:ByteArray} {a:Nat} (ha:a<s.size) (hb:born s a=true):AtB s (prt s a).to (blw s a):=by
 intro hlt
 have he:=prt_eq hb ha
 by_cases h12:cnt (md s (eK s a s.size) a)=12
 ·rw [if_pos h12]at he
  obtain⟨hE,hm⟩:=is_dollar hb ha h12
  rw [he]at hlt ⊢
  simp only at hlt ⊢
  by_cases hp:paramN s (a+1)=0
  ·right
   rw [hp]at hlt ⊢
   refine⟨a,by have:=born_split hb;rw [hm]at this;exact this,?_⟩
   have:=eK_stop (s:=s) (f:=a) (k:=s.size) (Nat.le_of_lt ha) (by rw [hE];omega)
   rw [hE]at this
   exact this
  ·left
   exact dollar_nt hb hm (by omega) (Nat.le_refl _)
 ·rw [if_neg h12]at he
  rw [he]at hlt ⊢
  simp only at hlt ⊢
  by_cases hE:eK s a s.size=s.size
  ·rw [if_pos hE]at hlt;omega
  ·rw [if_neg hE]at hlt ⊢
   left
   have hle:=eK_le s (f:=a) (k:=s.size) (Nat.le_of_lt ha)
   refine shut_nt (eK_pres2 hb ha) (eK_stop (Nat.le_of_lt ha) (by omega)) (fun e=>h12 ?_)
   rw [e];rfl
structure Pc where
 ex:Bool
 q:Bool
 t:ByteArray
def cellC (x:Pc):List Value:=[.bool x.ex,.bool x.q,.string x.t]
def aggC (x:Pc):Value:=.agg #[.bool x.ex,.bool x.q,.string x.t]
def itself (s:ByteArray) (p:Prt) (dbl:Bool):Option ByteArray:=
 if p.mode=14 then some (s.extract p.frm p.to)
 else if p.mode=12 then(if p.to=p.frm+1 then some (s.extract p.frm p.to)else none)
 else if p.mode=13 then
  if p.to=p.frm+1∨by8 s (p.frm+1)=10 then some ByteArray.empty
  else if dbl=false then none
  else if by8 s (p.frm+1)=36∨by8 s (p.frm+1)=96∨by8 s (p.frm+1)=34∨by8 s (p.frm+1)=92 then some (s.extract (p.frm+1) p.to)
  else some (s.extract p.frm p.to)
 else none
def fl (dbl:Bool) (h:ByteArray) (w:Bool):List Pc:=if h.size=0∧w=false then []else [⟨false,dbl,h⟩]
def rm (s:ByteArray) (dbl:Bool) (sub:Nat→List Pc) (e:Nat):Nat→Nat→ByteArray→Bool→List Pc
 |0,a,h,w=>fl dbl h w
 |k+1,a,h,w=>
  if a<e then
   if born s a=true then
    match itself s (prt s a) dbl with
    |some t=>rm s dbl sub e k (prt s a).to (h++t) w
    |none=>fl dbl h false++(sub a++rm s dbl sub e k (prt s a).to ByteArray.empty false)
   else rm s dbl sub e k (a+1) (h++s.extract a (a+1)) w
  else fl dbl h w
def Rm (s:ByteArray) (dbl:Bool) (sub:Nat→List Pc) (e a:Nat) (h:ByteArray) (w:Bool):List Pc:=rm s dbl sub e (e - a) a h w
theorem rm_more {s:ByteArray} {dbl:Bool} {sub:Nat→List Pc} {e:Nat} (he:e≤s.size):∀(k a:Nat) (h:ByteArray) (w:Bool) (j:Nat),e - a≤k→k≤j→rm s dbl sub e j a h w=rm s dbl sub e k a h w
 |0,a,h,w,0,_,_=>rfl
 |0,a,h,w,j+1,h1,_=>by
  show(if a<e then _ else _)=_
  rw [if_neg (by omega)]
  rfl
 |k+1,a,h,w,0,_,h2=>by omega
 |k+1,a,h,w,j+1,h1,h2=>by
  unfold rm
  by_cases hae:a<e
  ·rw [if_pos hae,if_pos hae]
   by_cases hb:born s a=true
   ·rw [if_pos hb,if_pos hb]
    have hg:=to_gt hb (by omega)
    cases itself s (prt s a) dbl with
    |some t=>exact rm_more he k _ _ _ j (by omega) (by omega)
    |none=>simp only;rw [rm_more he k _ _ _ j (by omega) (by omega)]
   ·rw [if_neg hb,if_neg hb]
    exact rm_more he k _ _ _ j (by omega) (by omega)
  ·rw [if_neg hae,if_neg hae]
section
variable {s:ByteArray} {dbl:Bool} {sub:Nat→List Pc} {e a:Nat} {h:ByteArray} {w:Bool}
theorem Rm_end (ha:¬a<e):Rm s dbl sub e a h w=fl dbl h w:=by
 unfold Rm
 rw [show e - a=0 by omega]
 rfl
theorem Rm_unf (ha:a<e):∃k,e - a=k+1:=⟨e - a - 1,by omega⟩
theorem Rm_plain (he:e≤s.size) (ha:a<e) (hb:born s a=false):Rm s dbl sub e a h w=Rm s dbl sub e (a+1) (h++s.extract a (a+1)) w:=by
 obtain⟨k,hk⟩:=Rm_unf ha
 unfold Rm
 rw [hk]
 conv=>lhs;unfold rm
 rw [if_pos ha,if_neg (by rw [hb];decide),show e - (a+1)=k by omega]
theorem Rm_self {t:ByteArray} (he:e≤s.size) (ha:a<e) (hb:born s a=true) (ht:itself s (prt s a) dbl=some t):Rm s dbl sub e a h w=Rm s dbl sub e (prt s a).to (h++t) w:=by
 obtain⟨k,hk⟩:=Rm_unf ha
 have hg:=to_gt hb (by omega)
 unfold Rm
 rw [hk]
 conv=>lhs;unfold rm
 rw [if_pos ha,if_pos hb,ht]
 exact rm_more he _ _ _ _ k (Nat.le_refl _) (by omega)
theorem Rm_sub (he:e≤s.size) (ha:a<e) (hb:born s a=true) (ht:itself s (prt s a) dbl=none):Rm s dbl sub e a h w=fl dbl h false++(sub a++Rm s dbl sub e (prt s a).to ByteArray.empty false):=by
 obtain⟨k,hk⟩:=Rm_unf ha
 have hg:=to_gt hb (by omega)
 unfold Rm
 rw [hk]
 conv=>lhs;unfold rm
 rw [if_pos ha,if_pos hb,ht]
 simp only
 rw [rm_more he (e - (prt s a).to) _ _ _ k (Nat.le_refl _) (by omega)]
end
def subD (s:ByteArray) (a:Nat):List Pc:=[⟨true,true,s.extract a (prt s a).to⟩]
def DB (s:ByteArray) (f e:Nat):List Pc:=Rm s true (subD s) e f ByteArray.empty true
def subT (s:ByteArray) (a:Nat):List Pc:=
 if(prt s a).mode=5 then DB s (a+1) (insT (prt s a))
 else if(prt s a).mode=4∨(prt s a).mode=13 then [⟨false,true,s.extract (a+1) (insT (prt s a))⟩]
 else [⟨true,false,s.extract a (prt s a).to⟩]
def PCs (s:ByteArray):List Pc:=Rm s false (subT s) s.size 0 ByteArray.empty false
def bareL:List Pc→ByteArray
 | []=>ByteArray.empty
 |x::l=>x.t++bareL l
theorem bareL_append (a b:List Pc):bareL (a++b)=bareL a++bareL b:=by
 induction a with
 |nil=>simp [bareL]
 |cons x a ih=>simp [bareL,ih,ByteArray.append_assoc]
theorem double_at {s:ByteArray} {a f:Nat} {R:List Fr} (hat:AtB s a ((5,f)::R)) (ha:a<s.size) (hf:pres s (a+1) f=true) (hb:born s a=true):
  blw s a=(5,f)::R∧(prt s a).mode≠4∧(prt s a).mode≠5∧(prt s a).mode≠14:=by
 have h1:=hat.born (.inr ⟨f,R,rfl,hf⟩) ha hb
 refine⟨h1,?_⟩
 rw [prt_mo hb ha]
 exact k5_cnt (k5_at hb h1 (eK_pres2 hb ha))
end Go.Proofs.YtkolpaonccmgiaaGreatDoor

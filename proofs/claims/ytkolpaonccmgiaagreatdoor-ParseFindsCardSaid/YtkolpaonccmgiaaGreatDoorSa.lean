/- A range over a function whose iterator keeps state -/
import Derived.RangeFuncBound
import Derived.Shelf.RegionOpen
import Derived.Test.YtkolpaonccmgiaaGreatDoorSc
set_option linter.unusedVariables false
namespace Go.Proofs.YtkolpaonccmgiaaGreatDoor.Q
set_option linter.unusedSectionVars false
set_option linter.unusedVariables false
open Go.RowKit
def Abid {β:Type} (J:β→(Nat→Prop)→World→Prop):Prop:=
 ∀s T W W' T',J s T W→Frm T W W'→(∀b,T' b→T b∨W.heap.size≤b)→J s T' W'
def AbidL {β:Type} (l:Nat) (J:β→(Nat→Prop)→World→Prop):Prop:=
 ∀s T W W' T',J s T W→Frm (fun b=>T b∨b=l) W W'→(∀b,T' b→T b∨W.heap.size≤b)→J s T' W'
structure KpT (C T:Nat→Prop) (W W':World):Prop where
 size:W.heap.size≤W'.heap.size
 same:∀b,b<W.heap.size→(T b∨C b)→W'.heap[b]?=W.heap[b]?
theorem KpT.refl (C T:Nat→Prop) (W:World):KpT C T W W:=⟨Nat.le_refl _,fun _ _ _=>rfl⟩
theorem KpT.trans {C T:Nat→Prop} {X Y Z:World} (h:KpT C T X Y) (k:KpT C T Y Z):KpT C T X Z:=
 ⟨Nat.le_trans h.size k.size,fun b hb ht=>(k.same b (Nat.lt_of_lt_of_le hb h.size) ht).trans (h.same b hb ht)⟩
theorem KpT.of_frm {C T p:Nat→Prop} {X Y:World} (h:Frm p X Y) (hp:∀b,b<X.heap.size→p b→¬T b∧¬C b):KpT C T X Y:=
 ⟨h.size,fun b hb ht=>h.block b hb (fun hh=>by have:=hp b hb hh;rcases ht with h|h;exact this.1 h;exact this.2 h)⟩
theorem KpT.putObj {C T:Nat→Prop} {W:World} {l:Nat} (o:Obj) (ht:¬T l) (hc:¬C l):KpT C T W (W.putObj l o):=
 ⟨by simp,fun b hb h=>World.putObj_heap_other (fun e=>by subst e;rcases h with h|h;exact ht h;exact hc h)⟩
theorem frm_put {p:Nat→Prop} (W:World) {l:Nat} (o:Obj) (hp:p l):Frm p W (W.putObj l o):=
 ⟨rfl,rfl,rfl,by simp,fun k hk h=>World.putObj_heap_other (fun e=>by subst e;exact h hp)⟩
theorem YieldAt.any {n m:Nat} {P:Program} {l:Nat} {args:Array Value} {W:World} {R:Ending→World→Prop} (h:YieldAt Fence.wide n P l args W R):YieldAt Fence.wide m P l args W R:=by
 obtain⟨fn,tmps,assign,body,h1,h2,h3⟩:=h
 exact⟨fn,tmps,assign,body,h1,h2,fun c cs _=>h3 c cs (by simp [Fence.room,Fence.wide])⟩
def SeqT {α:Type} (n:Nat) (P:Program) (g:Nat) (lb:Array Value) (encs:α→Array Value) (C:Nat→Prop) (L:List α) (W:World):Prop:=
 ∀(l:Nat) (J Jx:List α→(Nat→Prop)→World→Prop),Abid J→Abid Jx→
  (∀pre x rest T W1,L=pre++x::rest→J pre T W1→(∀b,T b→b<W1.heap.size)→YieldAt Fence.wide (n - 1) P l (encs x) W1 fun e W'=>
   KpT C T W1 W'∧((e=.returned (.bool true)∧J (pre++ [x]) T W')∨(e=.returned (.bool false)∧Jx (pre++ [x]) T W')))→
  J [] (fun _=>False) W→
  CallsIn Fence.wide n P g (#[.func (.yield l) #[] #[]]++lb) W fun e W'=>(∃v,e=.returned v)∧((∃T,J L T W')∨(∃pre T,Jx pre T W'))
def postT {α:Type} (C:Nat→Prop) (l D:Nat) (I:List α→(Nat→Prop)→World→Prop) (Ix:Code→List α→(Nat→Prop)→World→Prop) (xs:List α) (T:Nat→Prop) (W:World):Exit→Act→World→Prop
 | .normal,_,W'=>W'.heap[l]?=W.heap[l]?∧W'.heap[D]?=W.heap[D]?∧KpT C T W W'∧I xs T W'
 | .ret,_,W'=>W'.heap[l]?=W.heap[l]?∧W'.heap[D]?=W.heap[D]?∧KpT C T W W'∧Ix .ret xs T W'
 | .exit id,_,W'=>W'.heap[l]?=W.heap[l]?∧W'.heap[D]?=W.heap[D]?∧KpT C T W W'∧Ix (.exit id) xs T W'
 | .goto t,_,W'=>W'.heap[l]?=W.heap[l]?∧W'.heap[D]?=W.heap[D]?∧KpT C T W W'∧Ix (.goto t) xs T W'
 | .panic _,_,_=>False
 | .outgrown,_,_=>False
variable {n:Nat} {P:Program} {w:World}
theorem wpT {α:Type} {g:Operand} {ps:Array Tmp} {assign body:Code} {Q:Exit→Act→World→Prop} {a:Act}
  {gf:Nat} {lb:Array Value} (hg:a.eval g=.func (.func gf) #[] lb) (eg:∀args w,(callFunc gf args).run P w=.ok (.enter gf args) w)
  {encs:α→Array Value} {C:Nat→Prop} {L:List α} (hseq:∀W,Below w.heap.size w W→SeqT (n - 1) P gf lb encs C L W)
  (hC:∀b,C b→b<w.heap.size) (hps:∀x,(encs x).size=ps.size)
  (I:List α→(Nat→Prop)→World→Prop) (Ix:Code→List α→(Nat→Prop)→World→Prop) (hI:AbidL (w.heap.size+1) I) (hIx:∀c,AbidL (w.heap.size+1) (Ix c))
  (h0:∀W,Below w.heap.size w W→W.heap.size=w.heap.size+2→I [] (fun _=>False) W)
  (hround:∀pre x rest T W,L=pre++x::rest→I pre T W→(∀b,T b→b<W.heap.size)→w.heap.size+2≤W.heap.size→(∃r,W.heap[w.heap.size+1]?=some (.loop r))→W.heap[w.heap.size]?=some (.deferred (some []))→¬T (w.heap.size+1)→¬T w.heap.size→
   assign.wpIn (Fence.wide.inRound (w.heap.size+1)) (n - 1 - 1) P (Exit.then (fun a' W'=>W'.heap[w.heap.size+1]?=W.heap[w.heap.size+1]?∧W'.heap[w.heap.size]?=W.heap[w.heap.size]?∧KpT C T W W'∧
    ∀r,body.wpIn (Fence.wide.inRound (w.heap.size+1)) (n - 1 - 1) P (postT C (w.heap.size+1) w.heap.size I Ix (pre++ [x]) T (W'.putObj (w.heap.size+1) (.loop r))) a' (W'.putObj (w.heap.size+1) (.loop r))) (fun _ _ _=>False)) { tmps:=(ps.zip (encs x)).foldl (fun t (p,v)=>t.setIfInBounds p v) a.tmps,defers:=[] } W)
  (hdone:∀T W,I L T W→w.heap.size+2≤W.heap.size→W.heap[w.heap.size]?=some (.deferred (some []))→Q .normal { a with defers:={ target:=.collected w.heap.size,args:=#[] }::a.defers } W)
  (hstop:∀c pre T W,Ix c pre T W→w.heap.size+2≤W.heap.size→W.heap[w.heap.size]?=some (.deferred (some []))→c.wpIn Fence.wide n P Q { a with defers:={ target:=.collected w.heap.size,args:=#[] }::a.defers } W):
  (Code.rangeFunc g ps assign body).wpIn Fence.wide n P Q a w:=by
 refine wpIn_rangeFunc ?_
 intro fn hfn
 rw [show Fence.wide.round=none from rfl]
 obtain⟨rec,hrec⟩:∃rec:LoopState→Option Code→Loop,rec=fun st pe=>{ state:=st,pending:=pe,fn,tmps:=a.tmps,params:=ps,assign,body,defers:=w.heap.size }:=⟨_,rfl⟩
 obtain⟨W1,hW1⟩:∃W1,(w.alloc (.deferred (some []))).alloc (.loop (rec .ready none))=W1:=⟨_,rfl⟩
 have hL1:W1.heap[w.heap.size+1]?=some (.loop (rec .ready none)):=by
  rw [←hW1];have:=World.alloc_heap_new (w.alloc (.deferred (some []))) (.loop (rec .ready none));rwa [World.size_alloc]at this
 have hD1:W1.heap[w.heap.size]?=some (.deferred (some [])):=by
  rw [←hW1];exact(Below.heap_alloc _ _ _ (by simp)).trans (World.alloc_heap_new w _)
 have hs1:W1.heap.size=w.heap.size+2:=by rw [←hW1];simp
 have hb1:Below w.heap.size w W1:=by rw [←hW1];exact((Below.refl _ w).alloc (Nat.le_refl _) _).alloc (by simp) _
 refine⟨w.heap.size+1,[{ target:=.collected w.heap.size,args:=#[] }],W1,{ target:=.fn (.func gf) lb,args:=#[.func (.yield (w.heap.size+1)) #[] #[]] },W1,gf,
  #[.func (.yield (w.heap.size+1)) #[] #[]]++lb,W1,?_,?_,?_,?_,(fun h=>by cases h),?_⟩
 ·rw [←hW1,hrec];exact run_enterLoop_outer _ _ _ _ _
 ·simp only [resolve,hg]
  simp [go_sem]
 ·intro f' hf';trivial
 ·simp [invoke,go_sem,eg]
 ·refine(hseq W1 hb1 (w.heap.size+1)
   (fun pre T W=>I pre T W∧W.heap[w.heap.size+1]?=some (.loop (rec .ready none))∧W.heap[w.heap.size]?=some (.deferred (some []))∧¬T (w.heap.size+1)∧¬T w.heap.size)
   (fun pre T W=>∃c,Ix c pre T W∧W.heap[w.heap.size+1]?=some (.loop (rec .done (some c)))∧W.heap[w.heap.size]?=some (.deferred (some []))∧¬T (w.heap.size+1)∧¬T w.heap.size)
   ?_ ?_ ?_ ⟨h0 W1 hb1 hs1,hL1,hD1,fun h=>h,fun h=>h⟩).mono ?_
  ·rintro s T A B T' ⟨hi,hl,hd,t1,t2⟩ hf hT
   have l1:=(Array.getElem?_eq_some_iff.1 hl).1
   exact⟨hI s T A B T' hi (hf.mono fun _ _ h=> .inl h) hT,(hf.block _ l1 t1).trans hl,(hf.block _ (by omega) t2).trans hd,fun h=>by rcases hT _ h with h|h;exact t1 h;omega,fun h=>by rcases hT _ h with h|h;exact t2 h;omega⟩
  ·rintro s T A B T' ⟨c,hi,hl,hd,t1,t2⟩ hf hT
   have l1:=(Array.getElem?_eq_some_iff.1 hl).1
   exact⟨c,hIx c s T A B T' hi (hf.mono fun _ _ h=> .inl h) hT,(hf.block _ l1 t1).trans hl,(hf.block _ (by omega) t2).trans hd,fun h=>by rcases hT _ h with h|h;exact t1 h;omega,fun h=>by rcases hT _ h with h|h;exact t2 h;omega⟩
  ·rintro pre x rest T W hLx ⟨hi,hl,hd,t1,t2⟩ hTb
   have c1:¬C (w.heap.size+1):=fun h=>by have:=hC _ h;omega
   have l1:=(Array.getElem?_eq_some_iff.1 hl).1
   have hy:=run_yield (P:=P) (args:=encs x) hl (by rw [hrec];exact hps x)
   rw [hrec]at hy
   refine⟨fn,_,assign,body,hy,roundIn_of_wpIn hfn (wpIn_mono (hround pre x rest T W hLx hi hTb (by omega) ⟨_,hl⟩ hd t1 t2) ?_)⟩
   clear hy
   rintro e0 a' Wa he0
   cases e0 with
   |normal=>?_
   |ret=>exact he0.elim
   |exit id=>exact he0.elim
   |goto t=>exact he0.elim
   |panic ch=>exact he0.elim
   |outgrown=>exact he0.elim
   obtain⟨hla,hda,hka,hbody⟩:=he0
   have hl2:=hla.trans hl
   have hd2:=hda.trans hd
   have l2:=(Array.getElem?_eq_some_iff.1 hl2).1
   refine⟨_,run_beginRound hl2 (by rw [hrec]),?_⟩
   have hl3:(Wa.putObj (w.heap.size+1) (.loop { rec .ready none with state:=.busy })).heap[w.heap.size+1]?=some (.loop { rec .ready none with state:=.busy }):=World.putObj_heap_same l2
   have hd3:(Wa.putObj (w.heap.size+1) (.loop { rec .ready none with state:=.busy })).heap[w.heap.size]?=some (.deferred (some [])):=(World.putObj_heap_other (by omega)).trans hd2
   have hsame:∀b,T b→T b∨Wa.heap.size≤b:=fun _ h=> .inl h
   refine wpIn_mono (hbody { rec .ready none with state:=.busy }) ?_
   have fin:∀(jump:Option Code) (W3:World),W3.heap[w.heap.size+1]?=(Wa.putObj (w.heap.size+1) (.loop { rec .ready none with state:=.busy })).heap[w.heap.size+1]?→W3.heap[w.heap.size]?=(Wa.putObj (w.heap.size+1) (.loop { rec .ready none with state:=.busy })).heap[w.heap.size]?→
     (Instr.endRound (w.heap.size+1) jump).run P W3=.ok (.bool jump.isNone) (W3.putObj (w.heap.size+1) (.loop (rec (if jump.isNone then .ready else .done) jump)))∧
     (W3.putObj (w.heap.size+1) (.loop (rec (if jump.isNone then .ready else .done) jump))).heap[w.heap.size+1]?=some (.loop (rec (if jump.isNone then .ready else .done) jump))∧
     (W3.putObj (w.heap.size+1) (.loop (rec (if jump.isNone then .ready else .done) jump))).heap[w.heap.size]?=some (.deferred (some [])):=fun jump W3 h1 h2=>by
    have hl4:=h1.trans hl3
    have:=run_endRound (P:=P) jump hl4
    rw [hrec]at this ⊢
    exact⟨this,World.putObj_heap_same (Array.getElem?_eq_some_iff.1 hl4).1,(World.putObj_heap_other (by omega)).trans (h2.trans hd3)⟩
   rintro e a3 W3 hp
   cases e with
   |normal=>
    obtain⟨h1,h2,hk3,hi3⟩:=hp
    obtain⟨hr,hl4,hd4⟩:=fin none W3 h1 h2
    exact⟨_,_,hr,hka.trans (((KpT.putObj _ t1 c1).trans hk3).trans (KpT.putObj _ t1 c1)),.inl ⟨rfl,hI _ T _ _ T hi3 (frm_put W3 _ (.inr rfl)) (fun _ h=> .inl h),hl4,hd4,t1,t2⟩⟩
   |ret=>
    obtain⟨h1,h2,hk3,hi3⟩:=hp
    obtain⟨hr,hl4,hd4⟩:=fin (some .ret) W3 h1 h2
    exact⟨_,_,hr,hka.trans (((KpT.putObj _ t1 c1).trans hk3).trans (KpT.putObj _ t1 c1)),.inr ⟨rfl,.ret,hIx _ _ T _ _ T hi3 (frm_put W3 _ (.inr rfl)) (fun _ h=> .inl h),hl4,hd4,t1,t2⟩⟩
   |exit id=>
    obtain⟨h1,h2,hk3,hi3⟩:=hp
    obtain⟨hr,hl4,hd4⟩:=fin (some (.exit id)) W3 h1 h2
    exact⟨_,_,hr,hka.trans (((KpT.putObj _ t1 c1).trans hk3).trans (KpT.putObj _ t1 c1)),.inr ⟨rfl,.exit id,hIx _ _ T _ _ T hi3 (frm_put W3 _ (.inr rfl)) (fun _ h=> .inl h),hl4,hd4,t1,t2⟩⟩
   |goto t=>
    obtain⟨h1,h2,hk3,hi3⟩:=hp
    obtain⟨hr,hl4,hd4⟩:=fin (some (.goto t)) W3 h1 h2
    exact⟨_,_,hr,hka.trans (((KpT.putObj _ t1 c1).trans hk3).trans (KpT.putObj _ t1 c1)),.inr ⟨rfl,.goto t,hIx _ _ T _ _ T hi3 (frm_put W3 _ (.inr rfl)) (fun _ h=> .inl h),hl4,hd4,t1,t2⟩⟩
   |panic ch=>exact hp.elim
   |outgrown=>exact hp.elim
  ·rintro e W2 ⟨⟨v,rfl⟩,(⟨T,hi,hl,hd,t1,t2⟩|⟨pre,T,c,hi,hl,hd,t1,t2⟩)⟩
   ·have l1:=(Array.getElem?_eq_some_iff.1 hl).1
    exact⟨none,_,by have:=run_endLoop (P:=P) hl (by rw [hrec];simp);rw [hrec]at this;exact this,hdone T _ (hI _ T _ _ T hi (frm_put W2 _ (.inr rfl)) (fun _ h=> .inl h)) (by simp;omega) ((World.putObj_heap_other (by omega)).trans hd)⟩
   ·have l1:=(Array.getElem?_eq_some_iff.1 hl).1
    exact⟨some c,_,by have:=run_endLoop (P:=P) hl (by rw [hrec];simp);rw [hrec]at this;exact this,hstop c pre T _ (hIx c _ T _ _ T hi (frm_put W2 _ (.inr rfl)) (fun _ h=> .inl h)) (by simp;omega) ((World.putObj_heap_other (by omega)).trans hd)⟩
end Go.Proofs.YtkolpaonccmgiaaGreatDoor.Q
namespace Go.Proofs.YtkolpaonccmgiaaGreatDoor.Q
set_option linter.unusedSectionVars false
set_option linter.unusedVariables false
open Go.RowKit
attribute [local go_sem] Oper.semAt_some
theorem own_allocI {w:World} {base:Nat} {e:TypeId} {k n:Nat} {v:Value} {xs:List Value} (h:w.ownsRow base e k v n xs) (o:Obj):(w.alloc o).ownsRow base e k v n xs:=own_below h ((Below.refl _ _).alloc (Nat.le_refl _) o)
theorem src_oneI (w:World) (x:Value) (t:TypeId):Src (w.alloc (.cells #[x] t)) (.slice (some ⟨w.heap.size,0,none⟩) 1 1) 1 [x]:=by
 refine .inr ⟨w.heap.size,0,1,rfl,by simp,fun j u hj=>?_⟩
 cases j with
 |zero=>
  simp at hj
  subst hj
  simp
 |succ j=>simp at hj
theorem wplIn_app_gen {F:Fence} {fn:Nat} {ops:Array Oper} {rest:List Oper} {o:Oper} {a:Act} {w:World} {Q:Exit→Act→World→Prop} (hgd:o.guard=none) (s x:Operand) (t e:TypeId) (k bytes:Nat) (z:Value)
  (ho:o.op=.call { callee:=.builtin .append,args:=#[s,x],argTypes:=#[t,t] })
  (hu:Tryz.prog.underlying t=some (.slice e)) (hinfo:(Tryz.prog.info? e).map (fun i=>(i.zero,i.size,i.bytes))=some (some z,k,bytes)) (hzk:z.cells.size=k) (hk:0<k) (hby:bytes≤1000)
  (base:Nat) (v0:Value) (n0:Nat) (xs0:List Value) (hs:a.eval s=v0) (hown:w.ownsRow base e k v0 n0 xs0) (v1:Value) (m:Nat) (news:List Value) (hx:a.eval x=v1) (hsrc:Src w v1 m news) (hlen:news.length=m*k) (h1:∀u∈news,u.oneCell'=true) (hl:n0+m≤1000000) (hbase:base≤w.heap.size) (nn:Nat) (hnn:n0+m=nn)
  (h:∀oa c w',w'.ownsRow base e k (.slice oa nn c) nn (xs0++news)→w.grownBy w' v0.ownBlock→((Value.slice oa nn c).ownBlock=v0.ownBlock∨(Value.slice oa nn c).ownBlock=some w.heap.size)→wpListIn F fn Tryz.prog ops Q rest (a.put o.dst (.slice oa nn c)) w'):wpListIn F fn Tryz.prog ops Q (o::rest) a w:=by
 refine wpListIn_plain hgd fun K hK'=>?_
 obtain⟨oa,c,w',hrun,h2,h3,h4⟩:=run_app_gen w t e o.type k bytes z hu hinfo hzk hk hby base v0 n0 xs0 hown v1 m news hsrc hlen h1 hl hbase nn hnn
 unfold Oper.wpIn
 refine⟨?_,?_⟩
 ·simp [Oper.about,ho,resolve,Target.leads,Sem.run_pure]
 ·rw [Oper.semAt_plain F _ _ (by rw [ho];intro c hc';cases hc')]
  simp [execOp,ho,resolve,invoke,builtin,hs,hx,hrun,Result.andThen]
  exact hK' _ _ (h oa c w' h2 h3 h4)
open Go.RowKit Go.Shelf
attribute [local go_sem] Oper.semAt_some
def CapN (Bx:Nat) (ao:Option Addr) (n b:Nat):Prop:=b=Bx∨(0<n∧∃off,ao=some ⟨b,off,none⟩)
def fltB (nv:Nat→Nd) (i:Nat):Bool:=decide ((nv i).k=17)||decide ((nv i).k=18)
def FlRl (n:Nat) (Bx:Nat) (ao:Option Addr) (nv:Nat→Nd) (J:List Nat→(Nat→Prop)→World→Prop) (W:World) (v7:Value) (wr:World):Prop:=
 ∃k:Nat,k≤n∧v7=.int .i64 (k:Int)∧J (selN (fltB nv) k) (fun _=>False) wr∧W.heap.size≤wr.heap.size∧∀b,b<W.heap.size→CapN Bx ao n b→wr.heap[b]?=W.heap[b]?
theorem selN_cut {P:Nat→Bool} {i n:Nat} (h:P i=true) (hi:i<n):∃rest,selN P n=selN P i++i::rest:=by
 have h1:selN P (i+1)=selN P i++ [i]:=by rw [selN_succ,if_pos h]
 have h2:=selN_pre P (i+1) (n - (i+1))
 rw [show i+1+(n - (i+1))=n from by omega,h1]at h2
 obtain⟨r,hr⟩:=h2
 exact⟨r,by rw [←hr,List.append_assoc];rfl⟩
set_option maxRecDepth 100000 in
set_option maxHeartbeats 2000000 in
theorem faults_seq (m:Nat) (hm:1≤m) (Bx:Nat) (ao:Option Addr) (n c:Nat) (nv:Nat→Nd) (hn:n≤10000) (W:World) (hb:Blk W Bx #[.slice ao n c] 26) (hrow:NRow W ao n nv):
  SeqT m Tryz.prog 69 #[.pointer (some ⟨Bx,0,none⟩)] (fun x:Nat=> #[.int .i64 (x:Int)]) (CapN Bx ao n) (selN (fltB nv) n) W:=by
 intro l J Jx hJ hJx hY h0
 have hro:Fence.wide.round=none:=rfl
 have hfn:Fence.wide.fn 69:=trivial
 have HROW:=Lib.hid hrow
 have HB:=Lib.hid hb
 have hcb:=hb.cell 0
 simp at hcb
 clear hrow hb
 refine callsIn_of_wp Tryz.func69 rfl hfn ?_ hro
 simp only [Tryz.ntmps69,List.size_toArray,List.length_cons,List.length_nil,Nat.reduceAdd,Nat.reduceSub,Array.replicate_succ,Array.replicate_zero,List.push_toArray,List.append_toArray,List.nil_append,List.cons_append]
 gi_wp2
 clear hcb
 gi_loopw [7] (fun v7 wr=>FlRl n Bx ao nv J W v7 wr) (fun v7 _=>n - (intOf v7).toNat)
 case atStart=>exact⟨0,Nat.zero_le _,rfl,h0,Nat.le_refl _,fun _ _ _=>rfl⟩
 case round=>
  obtain⟨k,hk,rfl,hJs,hsz,hsame⟩:=hrel
  by_cases hlt:k<n
  ·obtain⟨b,off,hao,hbw,c0,c1,c2,c3⟩:=(HROW.out.kept hsz (fun b off h1 h2=>hsame b h2 (.inr ⟨by omega,off,h1⟩))) k hlt
   subst hao
   obtain⟨P,hP⟩:∃P,nv k=P:=⟨_,rfl⟩
   rw [hP]at c0 c1 c2 c3
   obtain⟨pk,pf,pt,pu⟩:=P
   simp only at c0 c1 c2 c3
   have q0:(0:Int)≤(k:Int):=by omega
   have q1:(k:Int)<(n:Int):=by omega
   have e1:IntKind.i64.wrap ((k:Int)+1)=((k+1:Nat):Int):=by rw [IntWalk.i64_in _ (by omega)];rfl
   have hbW:Frm (fun _=>False) wr (wr.alloc (.cells #[.int .i64 pk,.int .i64 pf,.int .i64 pt,.int .i64 pu] 32)):=(Frm.refl _ wr).alloc _
   have hnb:=Blk.new wr #[.int .i64 pk,.int .i64 pf,.int .i64 pt,.int .i64 pu] 32
   obtain⟨W2,hW2⟩:∃W2,wr.alloc (.cells #[.int .i64 pk,.int .i64 pf,.int .i64 pt,.int .i64 pu] 32)=W2:=⟨_,rfl⟩
   rw [hW2]at hbW hnb
   have m0:W2.cell? ⟨wr.heap.size,0,none⟩=some (.int .i64 pk):=hnb.cell 0
   have hJ2:=hJ _ _ _ _ (fun _=>False) hJs hbW (fun _ h=> .inl h)
   have hs2:=hbW.size
   have hsm2:∀b',b'<W.heap.size→CapN Bx (some ⟨b,off,none⟩) n b'→W2.heap[b']?=W.heap[b']?:=fun b' h1 h2=>(hbW.block b' (by omega) (fun h=>h)).trans (hsame b' h1 h2)
   have HSM:=Lib.hid hsm2
   have HJ2:=Lib.hid hJ2
   have HP:=Lib.hid hP
   have hfb:fltB nv k=(decide (pk=17)||decide (pk=18)):=by unfold fltB;rw [hP]
   have hss:=selN_succ (fltB nv) k
   clear hP hnb hbW hJs hsame hsm2 hJ2
   by_cases h17:pk=17
   ·subst h17
    have hfb2:fltB nv k=true:=by rw [hfb];rfl
    rw [if_pos hfb2]at hss
    obtain⟨rest,hcut⟩:=selN_cut hfb2 hlt
    obtain⟨fn,tmps,assign,body,hy,hR⟩:=hY _ k _ _ W2 hcut HJ2.out (fun b h=>h.elim)
    have HSS:=Lib.hid hss
    clear hfb hfb2 hcut hss
    gi_wp2
    refine hR.mono ?_
    rintro e W3 ⟨hk3,(⟨rfl,hJ3⟩|⟨rfl,hJx3⟩)⟩
    ·have hs3:=hk3.size
     have HK3:=Lib.hid hk3
     clear hk3
     gi_wp2
     go_roundw
     case rel=>exact⟨k+1,by omega,rfl,by rw [HSS.out];exact hJ3,by omega,fun b' h1 h2=>(HK3.out.same b' (by omega) (.inr h2)).trans (HSM.out b' h1 h2)⟩
     case measure=>simp [intOf]<;>omega
    ·gi_wp2
     refine bodyPost_ret (results_none rfl _ _ _) rfl ?_
     exact⟨⟨_,rfl⟩,.inr ⟨_,_,hJx3⟩⟩
   ·have t17:(pk==17)=false:=by simpa using h17
    by_cases h18:pk=18
    ·subst h18
     have hfb2:fltB nv k=true:=by rw [hfb];rfl
     rw [if_pos hfb2]at hss
     obtain⟨rest,hcut⟩:=selN_cut hfb2 hlt
     obtain⟨fn,tmps,assign,body,hy,hR⟩:=hY _ k _ _ W2 hcut HJ2.out (fun b h=>h.elim)
     have HSS:=Lib.hid hss
     clear hfb hfb2 hcut hss t17 h17
     gi_wp2
     refine hR.mono ?_
     rintro e W3 ⟨hk3,(⟨rfl,hJ3⟩|⟨rfl,hJx3⟩)⟩
     ·have hs3:=hk3.size
      have HK3:=Lib.hid hk3
      clear hk3
      gi_wp2
      go_roundw
      case rel=>exact⟨k+1,by omega,rfl,by rw [HSS.out];exact hJ3,by omega,fun b' h1 h2=>(HK3.out.same b' (by omega) (.inr h2)).trans (HSM.out b' h1 h2)⟩
      case measure=>simp [intOf]<;>omega
     ·gi_wp2
      refine bodyPost_ret (results_none rfl _ _ _) rfl ?_
      exact⟨⟨_,rfl⟩,.inr ⟨_,_,hJx3⟩⟩
    ·have t18:(pk==18)=false:=by simpa using h18
     have hfb2:fltB nv k=false:=by rw [hfb,decide_eq_false h17,decide_eq_false h18];rfl
     rw [if_neg (by rw [hfb2];decide),List.append_nil]at hss
     have HSS:=Lib.hid hss
     clear hfb hfb2 hss h17 h18
     gi_wp2
     refine⟨(fun f h=>by cases h),?_⟩
     gi_wp2
     go_roundw
     case rel=>exact⟨k+1,by omega,rfl,by rw [HSS.out];exact HJ2.out,by omega,HSM.out⟩
     case measure=>simp [intOf]<;>omega
  ·obtain rfl:k=n:=by omega
   have hneg:¬(k:Int)<(k:Int):=by omega
   gi_wp2
   go_end0
   exact⟨⟨_,rfl⟩,.inl ⟨_,hJs⟩⟩
attribute [local go_sem] Oper.semAt_some
theorem own_lowerI {w:World} {base b:Nat} {e:TypeId} {k n:Nat} {v:Value} {xs:List Value} (h:w.ownsRow base e k v n xs) (hb:b≤base):w.ownsRow b e k v n xs:=
 owns_base h (fun g hg=>Nat.le_trans hb (own_ge h g hg))
def AfI (w:World) (z Ba:Nat) (pre:List Nat) (T:Nat→Prop) (W:World):Prop:=
 ∃v,Blk W Ba #[v] 39∧W.ownsRow (z+2) 3 1 v pre.length (cellsO pre)∧(∀g,v.ownBlock=some g→¬T g)∧(∀b,T b→z+2≤b)∧z+2≤W.heap.size∧Below w.heap.size w W
theorem AfI.abid {w:World} {z Ba:Nat} (hb:Ba<z) (hw:w.heap.size≤z):AbidL (z+1) (AfI w z Ba):=by
 rintro pre T W W' T' ⟨v,h1,h3,h2,hT,hzW,hB⟩ hf hT'
 have no:∀b,b<z→¬(T b∨b=z+1):=fun b hb hh=>by rcases hh with g|g;have:=hT b g;omega;omega
 refine⟨v,h1.frm hf (no _ hb),own_frm hf h3 (fun g hg hh=>?_),fun g hg hh=>?_,fun b hb=>?_,?_,?_⟩
 ·rcases hh with e|e
  ·exact h2 g hg e
  ·have:=own_ge h3 g hg;omega
 ·rcases hT' g hh with e|e
  ·exact h2 g hg e
  ·have:=own_lt h3 g hg;omega
 ·rcases hT' b hb with e|e
  ·exact hT b e
  ·omega
 ·have:=hf.size;omega
 ·exact hB.trans ((hf.below (n:=w.heap.size) hB.size (fun b hh=>by rcases hh with e|e;have:=hT b e;omega;omega)))
def ClI (w:World) (z:Nat) (pre:List Nat) (T:Nat→Prop) (W:World):Prop:=(∀b,T b→z+2≤b)∧z+2≤W.heap.size∧Below w.heap.size w W
theorem ClI.abid {w:World} {z:Nat} (hw:w.heap.size≤z):AbidL (z+1) (ClI w z):=by
 rintro pre T W W' T' ⟨hT,hzW,hB⟩ hf hT'
 refine⟨fun b hb=>?_,?_,?_⟩
 ·rcases hT' b hb with e|e
  ·exact hT b e
  ·omega
 ·have:=hf.size;omega
 ·exact hB.trans ((hf.below (n:=w.heap.size) hB.size (fun b hh=>by rcases hh with e|e;have:=hT b e;omega;omega)))
section
variable (w:World)
set_option maxRecDepth 100000 in
set_option maxHeartbeats 8000000 in
theorem appendseq_any (Bx:Nat) (ao:Option Addr) (len cap:Nat) (nv:Nat→Nd) (hbx:Blk w Bx #[.slice ao len cap] 26) (hrow:NRow w ao len nv) (hl:len≤10000):
  Calls Tryz.prog 68 #[.slice none 0 0,.func (.func 69) #[] #[.pointer (some ⟨Bx,0,none⟩)]] w fun e w'=>∃v,e=.returned v∧w'.ownsRow w.heap.size 3 1 v (selN (fltB nv) len).length (cellsO (selN (fltB nv) len))∧Below w.heap.size w w':=by
 have HROW:=Lib.hid hrow
 have HBX:=Lib.hid hbx
 have hll:=selN_len (fltB nv) len
 refine(callsIn_wide (n:=5)).1 ?_
 have hfn:Fence.wide.fn 68:=trivial
 have bb:=Blk.new w #[.slice none 0 0] 39
 have hB0:Below w.heap.size w (w.alloc (.cells #[.slice none 0 0] 39)):=(Below.refl _ w).alloc (Nat.le_refl _) _
 have hz0:(w.alloc (.cells #[.slice none 0 0] 39)).heap.size=w.heap.size+1:=by simp
 clear hrow hbx
 refine callsIn_of_wp_marks Tryz.func68 rfl hfn ?_ rfl
 refine(wpIn_wide (n:=5)).2 ?_
 simp only [Tryz.ntmps68,List.size_toArray,List.length_cons,List.length_nil,Nat.reduceAdd,Nat.reduceSub,Array.replicate_succ,Array.replicate_zero,List.push_toArray,List.append_toArray,List.nil_append,List.cons_append]
 obtain⟨W1,hW1⟩:∃X,w.alloc (.cells #[.slice none 0 0] 39)=X:=⟨_,rfl⟩
 rw [hW1]at bb hB0 hz0
 obtain⟨Ba,h6⟩:∃x,w.heap.size=x:=⟨_,rfl⟩
 have H6:=Lib.hid h6
 have hbxl:=HBX.out.lt
 rw [h6]at bb hz0 hbxl
 have hBw:Below w.heap.size w W1:=hB0
 have hrow1:NRow W1 ao len nv:=HROW.out.below hBw
 have hbx1:=HBX.out.below hBw
 have hseq:∀W,Below W1.heap.size W1 W→SeqT (5 - 1) Tryz.prog 69 #[.pointer (some ⟨Bx,0,none⟩)] (fun x:Nat=> #[.int .i64 (x:Int)]) (CapN Bx ao len) (selN (fltB nv) len) W:=fun W hW=>
  faults_seq 4 (by omega) Bx ao len cap nv hl W (hbx1.below hW) (hrow1.below hW)
 have hord:Ba<W1.heap.size∧w.heap.size≤W1.heap.size:=by omega
 have hcge:∀b,CapN Bx ao len b→(b<Ba∨Ba<b)∧b<W1.heap.size:=by
  rintro b (rfl|⟨h1,off,h2⟩)
  ·omega
  ·obtain⟨b',off',e,hlt,_⟩:=HROW.out 0 h1
   rw [h2]at e
   injection e with e
   injection e with e1 e2
   omega
 have HSEQ:=Lib.hid hseq
 have HCG:=Lib.hid hcge
 have HL:=Lib.hid (And.intro hl hll)
 have cb:=bb
 clear hseq hcge bb hB0 hz0 hrow1 hbx1 hl hll
 go_wp2
 refine(wpIn_wide (n:=5)).1 (wpT (L:=selN (fltB nv) len) (encs:=fun x:Nat=> #[.int .i64 (x:Int)]) (C:=CapN Bx ao len) (gf:=69) (lb:=#[.pointer (some ⟨Bx,0,none⟩)]) rfl (enters_of Tryz.func69 (by kernel_rfl) rfl) HSEQ.out (fun b hb=>(HCG.out b hb).2) ?hps
  (AfI w W1.heap.size Ba) (fun _ _ _ _=>False) (AfI.abid hord.1 hord.2) (fun _ _ _ _ _ _ h _ _=>h) ?start ?round ?fin ?stop)
 case hps=>intro x;rfl
 case start=>
  intro W hB hz
  exact⟨.slice none 0 0,cb.below hB,World.ownsRow_nil _ _ _ _,(fun g hg=>by cases hg),(fun b hb=>hb.elim),by omega,hBw.trans (hB.mono hBw.size)⟩
 case stop=>rintro c pre T W h;exact h.elim
 case fin=>
  rintro T W ⟨v,h1,h3,h2,hT,hzW,hB⟩ hWz hWd
  have c0:=h1.cell 0
  have H3:=Lib.hid h3
  have HD:=Lib.hid hWd
  clear h2 h3
  dsimp only
  go_wp2
  refine⟨by simp,.inl ⟨_,_,rfl,run_takeDeferred HD.out,?_⟩⟩
  refine⟨v,?_,⟨v,rfl,?_,?_⟩⟩
  ·simp [results,Tryz.f68,go_sem]
  ·have hne:∀g,v.ownBlock=some g→g≠W1.heap.size:=fun g hg=>by have:=own_ge H3.out g hg;omega
   have:=own_frm (p:=fun b=>b=W1.heap.size) (frm_put W (l:=W1.heap.size) (.deferred none) rfl) H3.out hne
   exact own_lowerI this (by omega)
  ·exact hB.trans (belowK_b (w:=w) (Nat.le_refl _) W W1.heap.size _ _ (by omega) HD.out rfl rfl)
 case round=>
  rintro pre x rest T W hLx ⟨v,h1,h3,h2,hT,hzW,hB⟩ hTb hWz hrec hdef t1 t2
  gi_wp2
  refine⟨trivial,trivial,KpT.refl _ _ _,fun r=>?_⟩
  obtain⟨W3,hW3⟩:∃X,W.putObj (W1.heap.size+1) (.loop r)=X:=⟨_,rfl⟩
  have z3:W3.heap.size=W.heap.size:=by rw [←hW3];simp
  have hF3:Frm (fun b=>b=W1.heap.size+1) W W3:=by
   rw [←hW3]
   exact frm_put (p:=fun b=>b=W1.heap.size+1) W _ rfl
  rw [hW3]
  clear hW3 hrec hdef
  have hb3:=h1.frm hF3 (by omega)
  have ho3:=own_frm hF3 h3 (fun g hg e=>by have:=own_ge h3 g hg;omega)
  have hBW3:Below w.heap.size w W3:=hB.trans (hF3.below (by omega) (fun b hb=>by omega))
  have hlpre:pre.length+1≤10000:=by
   have h5:=HL.out
   rw [hLx,List.length_append,List.length_cons]at h5
   omega
  obtain⟨z,hz⟩:∃z,pre.length=z:=⟨_,rfl⟩
  rw [hz]at ho3 hlpre
  have c3:=hb3.cell 0
  have f3:=hb3.frozen 0
  have hvl:=own_lt h3
  have hvg:=own_ge h3
  have HO3:=Lib.hid ho3
  have HZ:=Lib.hid hz
  have HB3:=Lib.hid hb3
  have HZ3:=Lib.hid z3
  have HVL:=Lib.hid hvl
  have HVG:=Lib.hid hvg
  have H2:=Lib.hid h2
  clear h1 h2 h3 hLx ho3 hz hb3 z3 hvl hvg
  simp only [List.getElem?_toArray,List.getElem?_cons_zero]at c3
  gi_wp2_with (gi_at_builtin;go_must (refine wplIn_app_gen rfl _ _ 39 3 1 8 _ rfl Tryz.underlying39 infoI rfl (by omega) (by omega) (W1.heap.size+2) v z (cellsO pre) rfl (own_allocI HO3.out _) _ 1 [.int .i64 (x:Int)] rfl (src_oneI _ _ _) rfl (by simp [Value.oneCell']) (by omega) (by rw [World.size_alloc,HZ3.out];omega) (z+1) rfl ?_);intro oa8 c8 W8 hown8 hgr8 hg8;have b8:=(HB3.out.alloc (.cells #[.int .i64 (x:Int)] 3)).grown hgr8 (fun e=>by have:=HVG.out _ e.symm;have:=hord.1;omega);have d8:=b8.cell 0;have e8:=b8.frozen 0)
  have hF8:Frm (fun b=>b=Ba∨v.ownBlock=some b) W3 W8:=((Frm.refl (fun b=>b=Ba∨v.ownBlock=some b) W3).alloc _).grown hgr8 (fun k hk=> .inl (.inr hk))
  have hF9:Frm (fun b=>b=Ba∨v.ownBlock=some b) W3 (W8.setCell ⟨Ba,0,none⟩ (.slice oa8 (z+1) c8)):=hF8.setCell 0 (.inl (.inl rfl)) _
  have hno:∀b,b<W1.heap.size+2→b≠Ba→¬(b=Ba∨v.ownBlock=some b):=fun b hb hn hh=>by
   rcases hh with e|e
   ·exact hn e
   ·have:=HVG.out b e;omega
  have hs8:=hF8.size
  have hz3:=HZ3.out
  have k9:=b8.set 0 (.slice oa8 (z+1) c8)
  have hge8:=own_ge hown8
  have ho9:=own_frm (p:=fun b=>b=Ba) (Frm.setCell (p:=fun b=>b=Ba) (Frm.refl _ W8) 0 (.inl rfl) (.slice oa8 (z+1) c8)) hown8 (fun g hg e=>by have:=hge8 g hg;omega)
  refine⟨hF9.block _ (by omega) (hno _ (by omega) (by omega)),hF9.block _ (by omega) (hno _ (by omega) (by omega)),KpT.of_frm hF9 (fun b _ hb=>⟨fun ht=>?_,fun hc=>?_⟩),⟨.slice oa8 (z+1) c8,k9,?_,fun g hg ht=>?_,hT,?_,?_⟩⟩
  ·rcases hb with e|e
   ·have:=hT b ht;omega
   ·exact H2.out b e ht
  ·have h1:=HCG.out b hc
   rcases hb with e|e
   ·omega
   ·have:=HVG.out b e;omega
  ·rw [List.length_append,HZ.out,cellsO_append]
   exact ho9
  ·rcases hg8 with e|e
   ·exact H2.out g (e.symm.trans hg) ht
   ·rw [e,World.size_alloc,HZ3.out]at hg
    injection hg with hg
    have:=hTb g ht
    omega
  ·have:=hF9.size;omega
  ·exact hBW3.trans (hF9.below (by have:=hBW3.size;omega) (fun b hb=>by
    have:=H6.out
    rcases hb with e|e
    ·omega
    ·have:=HVG.out b e;omega))
theorem faultsf_any (ao:Option Addr) (len cap:Nat):Calls Tryz.prog 43 #[.slice ao len cap] w fun e w'=>e=.returned (.func (.func 69) #[] #[.pointer (some ⟨w.heap.size,0,none⟩)])∧w'=w.alloc (.cells #[.slice ao len cap] 26):=by
 have hmf:∀(fn:Fn) (first cap:Array Value) (W:World),(Instr.makeFunc fn first cap).run Tryz.prog W=.ok (.func fn first cap) W:=fun _ _ _ _=>rfl
 go_enter Tryz.func43,Tryz.ntmps43
 go_wp2
 go_ret
 exact⟨rfl,rfl⟩
theorem collect_any (Bx:Nat) (ao:Option Addr) (len cap:Nat) (nv:Nat→Nd) (hbx:Blk w Bx #[.slice ao len cap] 26) (hrow:NRow w ao len nv) (hl:len≤10000):
  Calls Tryz.prog 42 #[.func (.func 69) #[] #[.pointer (some ⟨Bx,0,none⟩)]] w fun e w'=>∃v,e=.returned v∧w'.ownsRow w.heap.size 3 1 v (selN (fltB nv) len).length (cellsO (selN (fltB nv) len))∧Below w.heap.size w w':=by
 have HC:=Lib.hid (appendseq_any w Bx ao len cap nv hbx hrow hl)
 clear hbx hrow hl
 go_enter Tryz.func42,Tryz.ntmps42
 go_wp2_with fail
 refine HC.out.mono ?_
 rintro e w1 ⟨v,rfl,hO,hB⟩
 have H:=Lib.hid (And.intro hO hB)
 clear hO hB
 go_wp2
 go_ret
 exact⟨v,rfl,H.out⟩
theorem faults_any (ao:Option Addr) (len cap:Nat) (nv:Nat→Nd) (hrow:NRow w ao len nv) (hl:len≤10000):
  Calls Tryz.prog 19 #[.slice ao len cap] w fun e w'=>∃v,e=.returned v∧w'.ownsRow w.heap.size 3 1 v (selN (fltB nv) len).length (cellsO (selN (fltB nv) len))∧Below w.heap.size w w':=by
 have hb:Below w.heap.size w (w.alloc (.cells #[.slice ao len cap] 26)):=(Below.refl _ w).alloc (Nat.le_refl _) _
 have HF:=Lib.hid (faultsf_any w ao len cap)
 have HC:=Lib.hid (collect_any _ w.heap.size ao len cap nv (Blk.new w _ _) (hrow.below hb) hl)
 have HB:=Lib.hid hb
 clear hb hrow hl
 go_enter Tryz.func19,Tryz.ntmps19
 go_wp2_with fail
 refine HF.out.mono ?_
 rintro e w1 ⟨rfl,rfl⟩
 go_wp2_with fail
 refine HC.out.mono ?_
 rintro e w2 ⟨v,rfl,hO,hB⟩
 have H:=Lib.hid (And.intro (own_lowerI (b:=w.heap.size) hO (by simp)) (HB.out.trans (hB.mono (by simp))))
 clear hO hB
 go_wp2
 go_ret
 exact⟨v,rfl,H.out⟩
end
def CnI (w:World) (z Br:Nat) (pre:List Nat) (T:Nat→Prop) (W:World):Prop:=pre=[]∧Blk W Br #[.bool false] 4∧ClI w z pre T W
def CnX (w:World) (z Br:Nat) (L:List Nat) (c:Code) (pre:List Nat) (T:Nat→Prop) (W:World):Prop:=c=.ret∧L≠ []∧Blk W Br #[.bool false] 4∧ClI w z pre T W
theorem CnI.abid {w:World} {z Br:Nat} (hb:Br<z) (hw:w.heap.size≤z):AbidL (z+1) (CnI w z Br):=by
 rintro pre T W W' T' ⟨h0,h1,h2⟩ hf hT'
 refine⟨h0,h1.frm hf (fun hh=>?_),ClI.abid hw pre T W W' T' h2 hf hT'⟩
 rcases hh with g|g
 ·have:=h2.1 _ g;omega
 ·omega
theorem CnX.abid {w:World} {z Br:Nat} {L:List Nat} (hb:Br<z) (hw:w.heap.size≤z) (c:Code):AbidL (z+1) (CnX w z Br L c):=by
 rintro pre T W W' T' ⟨h0,h00,h1,h2⟩ hf hT'
 refine⟨h0,h00,h1.frm hf (fun hh=>?_),ClI.abid hw pre T W W' T' h2 hf hT'⟩
 rcases hh with g|g
 ·have:=h2.1 _ g;omega
 ·omega
section
variable (w:World)
set_option maxRecDepth 100000 in
set_option maxHeartbeats 8000000 in
theorem clean_any (ao:Option Addr) (len cap:Nat) (nv:Nat→Nd) (hrow:NRow w ao len nv) (hl:len≤10000):
  Calls Tryz.prog 20 #[.slice ao len cap] w fun e w'=>e=.returned (.bool (decide (selN (fltB nv) len=[])))∧Below w.heap.size w w':=by
 have HROW:=Lib.hid hrow
 obtain⟨bo,hbo⟩:∃bo,decide (selN (fltB nv) len=[])=bo:=⟨_,rfl⟩
 rw [hbo]
 have HBO:=Lib.hid hbo
 clear hbo
 refine(callsIn_wide (n:=5)).1 ?_
 have hfn:Fence.wide.fn 20:=trivial
 have bb:=Blk.new w #[.bool false] 4
 have hB0:Below w.heap.size w (w.alloc (.cells #[.bool false] 4)):=(Below.refl _ w).alloc (Nat.le_refl _) _
 have hz0:(w.alloc (.cells #[.bool false] 4)).heap.size=w.heap.size+1:=by simp
 clear hrow
 refine callsIn_of_wp_marks Tryz.func20 rfl hfn ?_ rfl
 refine(wpIn_wide (n:=5)).2 ?_
 simp only [Tryz.ntmps20,List.size_toArray,List.length_cons,List.length_nil,Nat.reduceAdd,Nat.reduceSub,Array.replicate_succ,Array.replicate_zero,List.push_toArray,List.append_toArray,List.nil_append,List.cons_append]
 obtain⟨W0,hW0⟩:∃X,w.alloc (.cells #[.bool false] 4)=X:=⟨_,rfl⟩
 rw [hW0]at bb hB0 hz0
 have HFF:=Lib.hid (faultsf_any W0 ao len cap)
 obtain⟨Br,h6⟩:∃x,w.heap.size=x:=⟨_,rfl⟩
 have H6:=Lib.hid h6
 rw [h6]at bb hz0
 go_wp2_with fail
 refine HFF.out.mono ?_
 rintro en W1 ⟨rfl,hW1⟩
 obtain⟨Bx,h5⟩:∃x,W0.heap.size=x:=⟨_,rfl⟩
 have bx:=Blk.new W0 #[.slice ao len cap] 26
 rw [←hW1]at bx
 have hB1:Below W0.heap.size W0 W1:=by rw [hW1];exact(Below.refl _ _).alloc (Nat.le_refl _) _
 have hz1:W1.heap.size=W0.heap.size+1:=by rw [hW1];simp
 rw [h5]at bx hz1 ⊢
 have hBw:Below w.heap.size w W1:=hB0.trans (hB1.mono hB0.size)
 have hrow1:NRow W1 ao len nv:=HROW.out.below hBw
 have hseq:∀W,Below W1.heap.size W1 W→SeqT (5 - 1) Tryz.prog 69 #[.pointer (some ⟨Bx,0,none⟩)] (fun x:Nat=> #[.int .i64 (x:Int)]) (CapN Bx ao len) (selN (fltB nv) len) W:=fun W hW=>
  faults_seq 4 (by omega) Bx ao len cap nv hl W (bx.below hW) (hrow1.below hW)
 have hord:Br<W1.heap.size∧w.heap.size≤W1.heap.size:=by omega
 have hcge:∀b,CapN Bx ao len b→(b<Br∨Br<b)∧b<W1.heap.size:=by
  rintro b (rfl|⟨h1,off,h2⟩)
  ·omega
  ·obtain⟨b',off',e,hlt,_⟩:=HROW.out 0 h1
   rw [h2]at e
   injection e with e
   injection e with e1 e2
   omega
 have HSEQ:=Lib.hid hseq
 have HCG:=Lib.hid hcge
 have cb:=bb.below (hB1.mono (Nat.le_refl _))
 clear hseq hcge h6 bb hB0 hz0 hB1 hz1 hrow1 bx h5 hl hW1 hW0
 go_wp2
 refine(wpIn_wide (n:=5)).1 (wpT (L:=selN (fltB nv) len) (encs:=fun x:Nat=> #[.int .i64 (x:Int)]) (C:=CapN Bx ao len) (gf:=69) (lb:=#[.pointer (some ⟨Bx,0,none⟩)]) rfl (enters_of Tryz.func69 (by kernel_rfl) rfl) HSEQ.out (fun b hb=>(HCG.out b hb).2) ?hps
  (CnI w W1.heap.size Br) (CnX w W1.heap.size Br (selN (fltB nv) len)) (CnI.abid hord.1 hord.2) (CnX.abid hord.1 hord.2) ?start ?round ?fin ?stop)
 case hps=>intro x;rfl
 case start=>
  intro W hB hz
  exact⟨rfl,cb.below hB,fun b hb=>hb.elim,by omega,hBw.trans (hB.mono hBw.size)⟩
 case round=>
  rintro pre x rest T W hLx ⟨rfl,h1,hT,hzW,hB⟩ hTb hWz hrec hdef t1 t2
  gi_wp2
  refine⟨trivial,trivial,KpT.refl _ _ _,fun r=>?_⟩
  obtain⟨W3,hW3⟩:∃X,W.putObj (W1.heap.size+1) (.loop r)=X:=⟨_,rfl⟩
  have z3:W3.heap.size=W.heap.size:=by rw [←hW3];simp
  have hF3:Frm (fun b=>b=W1.heap.size+1) W W3:=by
   rw [←hW3]
   exact frm_put (p:=fun b=>b=W1.heap.size+1) W _ rfl
  rw [hW3]
  clear hW3 hrec hdef
  have hb3:=h1.frm hF3 (by omega)
  have hBW3:Below w.heap.size w W3:=hB.trans (hF3.below (by omega) (fun b hb=>by omega))
  have c3:=hb3.cell 0
  have f3:=hb3.frozen 0
  simp only [List.getElem?_toArray,List.getElem?_cons_zero]at c3
  have k4:=hb3.set 0 (.bool false)
  have hF4:Frm (fun b=>b=Br) W3 (W3.setCell ⟨Br,0,none⟩ (.bool false)):=(Frm.refl _ _).put 0 _
  have HK4:=Lib.hid k4
  have HF4:=Lib.hid hF4
  have HBW3:=Lib.hid hBW3
  have HLX:=Lib.hid (show selN (fltB nv) len≠ []from by rw [hLx];simp)
  clear hb3 k4 hF4 hBW3 h1 hLx hF3
  gi_wp2
  have hs4:=HF4.out.size
  refine⟨HF4.out.block _ (by omega) (by omega),HF4.out.block _ (by omega) (by omega),KpT.of_frm HF4.out (fun b _ hb=>⟨fun ht=>?_,fun hc=>?_⟩),rfl,HLX.out,HK4.out,hT,by omega,HBW3.out.trans (HF4.out.below (by have:=HBW3.out.size;omega) (fun b hb=>by have:=H6.out;omega))⟩
  ·have:=hT b ht;omega
  ·have:=HCG.out b hc;omega
 case fin=>
  rintro T W ⟨h0,h1,hT,hzW,hB⟩ hWz hWd
  have f0:=h1.frozen 0
  have c0:=h1.cell 0
  simp only [List.getElem?_toArray,List.getElem?_cons_zero]at c0
  have k1:=h1.set 0 (.bool true)
  have c1:=k1.cell 0
  simp at c1
  have hF:=(Frm.refl (fun b=>b=Br) W).put 0 (.bool true)
  have hbt:bo=true:=by rw [←HBO.out];exact decide_eq_true h0
  subst hbt
  have hWd2:=(hF.block W1.heap.size (by omega) (by omega)).trans hWd
  have HD:=Lib.hid hWd2
  have HX:=Lib.hid (show Below w.heap.size w (W.setCell ⟨Br,0,none⟩ (.bool true))from hB.trans (hF.below hB.size (fun b hb=>by have:=H6.out;omega)))
  have HC1:=Lib.hid c1
  clear h0 h1 hWd hWd2 hF k1 c1 hB
  dsimp only
  go_wp2
  have hcc:((W.setCell ⟨Br,0,none⟩ (.bool true)).putObj W1.heap.size (.deferred none)).cell? ⟨Br,0,none⟩=some (.bool true):=(World.cell?_of_block (show((W.setCell ⟨Br,0,none⟩ (.bool true)).putObj W1.heap.size (.deferred none)).heap[Br]?=(W.setCell ⟨Br,0,none⟩ (.bool true)).heap[Br]? from World.putObj_heap_other (by omega))).trans HC1.out
  refine⟨by simp,.inl ⟨_,_,rfl,run_takeDeferred HD.out,?_⟩⟩
  refine⟨.bool true,?_,rfl,?_⟩
  ·simp [results,Tryz.f20,go_sem,hcc]
  ·exact HX.out.trans (belowK_b (w:=w) (Nat.le_refl _) _ W1.heap.size _ _ (by omega) HD.out rfl rfl)
 case stop=>
  rintro c pre T W ⟨rfl,h0,h1,hT,hzW,hB⟩ hWz hWd
  have c0:=h1.cell 0
  simp only [List.getElem?_toArray,List.getElem?_cons_zero]at c0
  have HD:=Lib.hid hWd
  have hbt:bo=false:=by rw [←HBO.out];exact decide_eq_false h0
  subst hbt
  dsimp only
  gi_wp2
  have hcc:(W.putObj W1.heap.size (.deferred none)).cell? ⟨Br,0,none⟩=some (.bool false):=(World.cell?_of_block (show(W.putObj W1.heap.size (.deferred none)).heap[Br]?=W.heap[Br]? from World.putObj_heap_other (by omega))).trans c0
  refine⟨by simp,.inl ⟨_,_,rfl,run_takeDeferred HD.out,?_⟩⟩
  refine⟨.bool false,?_,rfl,?_⟩
  ·simp [results,Tryz.f20,go_sem,hcc]
  ·exact hB.trans (belowK_b (w:=w) (Nat.le_refl _) _ W1.heap.size _ _ (by omega) HD.out rfl rfl)
end
end Go.Proofs.YtkolpaonccmgiaaGreatDoor.Q

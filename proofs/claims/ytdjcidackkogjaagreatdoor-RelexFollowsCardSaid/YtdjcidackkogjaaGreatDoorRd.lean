/- A range over a function whose iterator shares a bl -/
import Derived.Test.YtdjcidackkogjaaGreatDoorRm
namespace Go.Proofs.YtdjcidackkogjaaGreatDoor
set_option linter.unusedSectionVars false
set_option linter.unusedVariables false
open Go.RowKit
def bn{β:Type}(S:Nat→Prop)(KI:World→World→Prop)(J:β→(Nat→Prop)→World→Prop):Prop:=
 ∀s T W W' T',J s T W→zg (λb=>T b∨S b) W W'→KI W W'→(∀b,T' b→T b∨W.heap.size≤b)→J s T' W'
def UH{β:Type}(S:Nat→Prop)(KI:World→World→Prop)(l:Nat)(J:β→(Nat→Prop)→World→Prop):Prop:=
 ∀s T W W' T',J s T W→zg (λb=>(T b∨S b)∨b=l) W W'→KI W W'→(∀b,T' b→T b∨W.heap.size≤b)→J s T' W'
def UI{β:Type}(l:Nat)(J:β→(Nat→Prop)→World→Prop):Prop:=
 ∀s T W W',J s T W→zg (λb=>b=l) W W'→J s T W'
def zj5{α:Type}(C:Nat→Prop)(KS:World→World→Prop)(l D:Nat)(I:List α→(Nat→Prop)→World→Prop)(Ix:Code→List α→(Nat→Prop)→World→Prop)(xs:List α)(T:Nat→Prop)(W:World):Exit→Act→World→Prop
 | .normal,_,W'=>W'.heap[l]?=W.heap[l]?∧W'.heap[D]?=W.heap[D]?∧zM C T W W'∧KS W W'∧I xs T W'
 | .ret,_,W'=>W'.heap[l]?=W.heap[l]?∧W'.heap[D]?=W.heap[D]?∧zM C T W W'∧Ix .ret xs T W'
 | .exit id,_,W'=>W'.heap[l]?=W.heap[l]?∧W'.heap[D]?=W.heap[D]?∧zM C T W W'∧Ix (.exit id) xs T W'
 | .goto t,_,W'=>W'.heap[l]?=W.heap[l]?∧W'.heap[D]?=W.heap[D]?∧zM C T W W'∧Ix (.goto t) xs T W'
 | .panic _,_,_=>False
 | .outgrown,_,_=>False
def Uy{α:Type}(n:Nat)(P:Program)(g:Nat)(lb:Array Value)(St:List (α×Array Value)→(Nat→Prop)→World→Prop)(C T0 S:Nat→Prop)(KI KS:World→World→Prop)(L:List α)(W:World):Prop:=
 ∀(l:Nat) (J Jx:List (α×Array Value)→(Nat→Prop)→World→Prop),bn S KI J→
  (∀pre x vs rest T W1,L=pre.map Prod.fst++x::rest→J pre T W1→(∀b,T b→b<W1.heap.size)→St (pre++ [(x,vs)]) T W1→YieldAt Fence.wide (n-1) P l vs W1 λe W'=>
   zM C T W1 W'∧((e=.returned (.bool true)∧KS W1 W'∧J (pre++ [(x,vs)]) T W')∨(e=.returned (.bool false)∧Jx (pre++ [(x,vs)]) T W')))→
  J [] T0 W→
  CallsIn Fence.wide n P g (#[.func (.yield l) #[] #[]]++lb) W λe W'=>(∃v,e=.returned v)∧((∃zq T,zq.map Prod.fst=L∧J zq T W'∧St zq T W')∨(∃pre T,Jx pre T W'))
variable{n:Nat}{P:Program}{w:World}
theorem zi6{α:Type}{g:Operand}{ps:Array Tmp}{assign body:Code}{Q:Exit→Act→World→Prop}{a:Act}
 {gf:Nat}{lb:Array Value}(hg:a.eval g=.func (.func gf) #[] lb)(eg:∀args w,(callFunc gf args).run P w=.ok (.enter gf args) w)
 {St:List (α×Array Value)→(Nat→Prop)→World→Prop}{C T0 S:Nat→Prop}{KI KS:World→World→Prop}{L:List α}(hseq:∀W,Below w.heap.size w W→Uy (n-1) P gf lb St C T0 S KI KS L W)
 (hC:∀b,C b→b<w.heap.size)(hS:∀b,S b→b<w.heap.size)(hKI:∀A B:World,(∀b,S b→B.heap[b]?=A.heap[b]?)→KI A B)(hKS:∀A B:World,(∀b,S b→B.heap[b]?=A.heap[b]?)→KS A B)(hKt:∀X Y Z,KS X Y→KS Y Z→KS X Z)(hT0:∀b,T0 b→b<w.heap.size)(hps:∀pre x T W vs,St (pre++ [(x,vs)]) T W→vs.size=ps.size)
 (hE:∀s T W W',St s T W→zg (λb=>b=w.heap.size+1) W W'→¬T (w.heap.size+1)→St s T W')
 (I:List (α×Array Value)→(Nat→Prop)→World→Prop)(Ix:Code→List (α×Array Value)→(Nat→Prop)→World→Prop)(hI:UH S KI (w.heap.size+1) I)(hIx:∀c,UI (w.heap.size+1) (Ix c))
 (h0:∀W,Below w.heap.size w W→W.heap.size=w.heap.size+2→I [] T0 W)
 (lT:∀pre x vs rest T W,L=pre.map Prod.fst++x::rest→I pre T W→St (pre++ [(x,vs)]) T W→(∀b,T b→b<W.heap.size)→w.heap.size+2≤W.heap.size→(∃r,W.heap[w.heap.size+1]?=some (.loop r))→W.heap[w.heap.size]?=some (.deferred (some []))→¬T (w.heap.size+1)→¬T w.heap.size→
   assign.wpIn (Fence.wide.inRound (w.heap.size+1)) (n-1-1) P (Exit.then (λa' W'=>W'.heap[w.heap.size+1]?=W.heap[w.heap.size+1]?∧W'.heap[w.heap.size]?=W.heap[w.heap.size]?∧zM C T W W'∧KS W W'∧
    ∀r,body.wpIn (Fence.wide.inRound (w.heap.size+1)) (n-1-1) P (zj5 C KS (w.heap.size+1) w.heap.size I Ix (pre++ [(x,vs)]) T (W'.putObj (w.heap.size+1) (.loop r))) a' (W'.putObj (w.heap.size+1) (.loop r))) (λ_ _ _=>False)) {tmps:=(ps.zip vs).foldl (λt (p,v)=>t.setIfInBounds p v) a.tmps,defers:=[]} W)
  (hdone:∀zq T W,zq.map Prod.fst=L→I zq T W→St zq T W→w.heap.size+2≤W.heap.size→W.heap[w.heap.size]?=some (.deferred (some []))→Q .normal {a with defers:={target:=.collected w.heap.size,args:=#[]}::a.defers} W)
  (hstop:∀c pre T W,Ix c pre T W→w.heap.size+2≤W.heap.size→W.heap[w.heap.size]?=some (.deferred (some []))→c.wpIn Fence.wide n P Q {a with defers:={target:=.collected w.heap.size,args:=#[]}::a.defers} W):
  (Code.rangeFunc g ps assign body).wpIn Fence.wide n P Q a w:=by
 refine wpIn_rangeFunc ?_;intro fn hfn;rw[show Fence.wide.round=none from rfl];obtain⟨rec,hrec⟩:∃rec:LoopState→Option Code→Loop,rec=λst pe=>{state:=st,pending:=pe,fn,tmps:=a.tmps,params:=ps,assign,body,defers:=w.heap.size}:=⟨_,rfl⟩;obtain⟨W1,hW1⟩:∃W1,(w.alloc (.deferred (some []))).alloc (.loop (rec .ready none))=W1:=⟨_,rfl⟩;have hL1:W1.heap[w.heap.size+1]?=some (.loop (rec .ready none)):=by
  rw[←hW1];have:=World.alloc_heap_new (w.alloc (.deferred (some []))) (.loop (rec .ready none));rwa [World.size_alloc]at this
 have hD1:W1.heap[w.heap.size]?=some (.deferred (some [])):=by
  rw[←hW1];exact(Below.heap_alloc _ _ _ (by simp)).trans (World.alloc_heap_new w _)
 have hs1:W1.heap.size=w.heap.size+2:=by rw[←hW1];simp
 have hb1:Below w.heap.size w W1:=by rw[←hW1];exact((Below.refl _ w).alloc (Nat.le_refl _) _).alloc (by simp) _
 refine⟨w.heap.size+1,[{target:=.collected w.heap.size,args:=#[]}],W1,{target:=.fn (.func gf) lb,args:=#[.func (.yield (w.heap.size+1)) #[] #[]]},W1,gf,
  #[.func (.yield (w.heap.size+1)) #[] #[]]++lb,W1,?_,?_,?_,?_,(λh=>by cases h),?_⟩
 ·rw[←hW1,hrec];exact run_enterLoop_outer _ _ _ _ _
 ·simp only[resolve,hg]
  simp[go_sem]
 ·intro f' hf';trivial
 ·simp[invoke,go_sem,eg]
 ·refine(hseq W1 hb1 (w.heap.size+1)
   (λpre T W=>I pre T W∧W.heap[w.heap.size+1]?=some (.loop (rec .ready none))∧W.heap[w.heap.size]?=some (.deferred (some []))∧¬T (w.heap.size+1)∧¬T w.heap.size)
   (λpre T W=>∃c,Ix c pre T W∧W.heap[w.heap.size+1]?=some (.loop (rec .done (some c)))∧W.heap[w.heap.size]?=some (.deferred (some []))∧¬T (w.heap.size+1)∧¬T w.heap.size)
   ?_ ?_ ⟨h0 W1 hb1 hs1,hL1,hD1,λh=>by have:=hT0 _ h;omega,λh=>by have:=hT0 _ h;omega⟩).mono ?_
  ·rintro s T A B T' ⟨hi,hl,hd,t1,t2⟩ hf hki hT
   have l1:=(Array.getElem?_eq_some_iff.1 hl).1;exact⟨hI s T A B T' hi (hf.mono λ_ _ h=> .inl h) hki hT,(hf.block _ l1 (λh=>h.elim t1 (λh=>by have:=hS _ h;omega))).trans hl,(hf.block _ (by omega) (λh=>h.elim t2 (λh=>by have:=hS _ h;omega))).trans hd,λh=>by rcases hT _ h with h|h;exact t1 h;omega,λh=>by rcases hT _ h with h|h;exact t2 h;omega⟩
  ·rintro pre x vs rest T W hLx ⟨hi,hl,hd,t1,t2⟩ Zp Qz
   have c1:¬C (w.heap.size+1):=λh=>by have:=hC _ h;omega
   have l1:=(Array.getElem?_eq_some_iff.1 hl).1;have hy:=run_yield (P:=P) (args:=vs) hl (by rw[hrec];exact hps pre x T W vs Qz);rw[hrec]at hy;refine⟨fn,_,assign,body,hy,roundIn_of_wpIn hfn (wpIn_mono (lT pre x vs rest T W hLx hi Qz Zp (by omega) ⟨_,hl⟩ hd t1 t2) ?_)⟩;clear hy;rintro e0 a' Wa he0
   cases e0 with
   |normal=>?_
   |ret=>exact he0.elim
   |exit id=>exact he0.elim
   |goto t=>exact he0.elim
   |panic ch=>exact he0.elim
   |outgrown=>exact he0.elim
   obtain⟨hla,lU,hka,hsa,hbody⟩:=he0;have hl2:=hla.trans hl;have hd2:=lU.trans hd;have l2:=(Array.getElem?_eq_some_iff.1 hl2).1;refine⟨_,run_beginRound hl2 (by rw[hrec]),?_⟩;have hl3:(Wa.putObj (w.heap.size+1) (.loop {rec .ready none with state:=.busy})).heap[w.heap.size+1]?=some (.loop {rec .ready none with state:=.busy}):=World.putObj_heap_same l2;have hd3:(Wa.putObj (w.heap.size+1) (.loop {rec .ready none with state:=.busy})).heap[w.heap.size]?=some (.deferred (some [])):=(World.putObj_heap_other (by omega)).trans hd2;have hsame:∀b,T b→T b∨Wa.heap.size≤b:=λ_ h=> .inl h;refine wpIn_mono (hbody {rec .ready none with state:=.busy}) ?_;have fin:∀(jump:Option Code) (W3:World),W3.heap[w.heap.size+1]?=(Wa.putObj (w.heap.size+1) (.loop {rec .ready none with state:=.busy})).heap[w.heap.size+1]?→W3.heap[w.heap.size]?=(Wa.putObj (w.heap.size+1) (.loop {rec .ready none with state:=.busy})).heap[w.heap.size]?→
     (Instr.endRound (w.heap.size+1) jump).run P W3=.ok (.bool jump.isNone) (W3.putObj (w.heap.size+1) (.loop (rec (if jump.isNone then .ready else .done) jump)))∧
     (W3.putObj (w.heap.size+1) (.loop (rec (if jump.isNone then .ready else .done) jump))).heap[w.heap.size+1]?=some (.loop (rec (if jump.isNone then .ready else .done) jump))∧
     (W3.putObj (w.heap.size+1) (.loop (rec (if jump.isNone then .ready else .done) jump))).heap[w.heap.size]?=some (.deferred (some [])):=λjump W3 h1 h2=>by
    have hl4:=h1.trans hl3;have:=run_endRound (P:=P) jump hl4;rw[hrec]at this ⊢;exact⟨this,World.putObj_heap_same (Array.getElem?_eq_some_iff.1 hl4).1,(World.putObj_heap_other (by omega)).trans (h2.trans hd3)⟩
   rintro e a3 W3 hp
   cases e with
   |normal=>
    obtain⟨h1,h2,hk3,hs3,hi3⟩:=hp;obtain⟨hr,hl4,hd4⟩:=fin none W3 h1 h2;exact⟨_,_,hr,hka.trans (((zM.putObj _ t1 c1).trans hk3).trans (zM.putObj _ t1 c1)),.inl ⟨rfl,hKt _ _ _ hsa (hKt _ _ _ (hKt _ _ _ (hKS _ _ (λb hb=>World.putObj_heap_other (by have:=hS b hb;omega))) hs3) (hKS _ _ (λb hb=>World.putObj_heap_other (by have:=hS b hb;omega)))),hI _ T _ _ T hi3 (uH W3 _ (.inr rfl)) (hKI _ _ (λb hb=>World.putObj_heap_other (by have:=hS b hb;omega))) (λ_ h=> .inl h),hl4,hd4,t1,t2⟩⟩
   |ret=>
    obtain⟨h1,h2,hk3,hi3⟩:=hp;obtain⟨hr,hl4,hd4⟩:=fin (some .ret) W3 h1 h2;exact⟨_,_,hr,hka.trans (((zM.putObj _ t1 c1).trans hk3).trans (zM.putObj _ t1 c1)),.inr ⟨rfl,.ret,hIx _ _ T _ _ hi3 (uH W3 _ rfl),hl4,hd4,t1,t2⟩⟩
   |exit id=>
    obtain⟨h1,h2,hk3,hi3⟩:=hp;obtain⟨hr,hl4,hd4⟩:=fin (some (.exit id)) W3 h1 h2;exact⟨_,_,hr,hka.trans (((zM.putObj _ t1 c1).trans hk3).trans (zM.putObj _ t1 c1)),.inr ⟨rfl,.exit id,hIx _ _ T _ _ hi3 (uH W3 _ rfl),hl4,hd4,t1,t2⟩⟩
   |goto t=>
    obtain⟨h1,h2,hk3,hi3⟩:=hp;obtain⟨hr,hl4,hd4⟩:=fin (some (.goto t)) W3 h1 h2;exact⟨_,_,hr,hka.trans (((zM.putObj _ t1 c1).trans hk3).trans (zM.putObj _ t1 c1)),.inr ⟨rfl,.goto t,hIx _ _ T _ _ hi3 (uH W3 _ rfl),hl4,hd4,t1,t2⟩⟩
   |panic ch=>exact hp.elim
   |outgrown=>exact hp.elim
  ·rintro e W2 ⟨⟨v,rfl⟩,(⟨zq,T,hmap,⟨hi,hl,hd,t1,t2⟩,hlast⟩|⟨pre,T,c,hi,hl,hd,t1,t2⟩)⟩
   ·have l1:=(Array.getElem?_eq_some_iff.1 hl).1
    exact⟨none,_,by have:=run_endLoop (P:=P) hl (by rw[hrec];simp);rw[hrec]at this;exact this,hdone zq T _ hmap (hI _ T _ _ T hi (uH W2 _ (.inr rfl)) (hKI _ _ (λb hb=>World.putObj_heap_other (by have:=hS b hb;omega))) (λ_ h=> .inl h)) (hE _ T _ _ hlast (uH W2 _ rfl) t1) (by simp;omega) ((World.putObj_heap_other (by omega)).trans hd)⟩
   ·have l1:=(Array.getElem?_eq_some_iff.1 hl).1
    exact⟨some c,_,by have:=run_endLoop (P:=P) hl (by rw[hrec];simp);rw[hrec]at this;exact this,hstop c pre T _ (hIx c _ T _ _ hi (uH W2 _ rfl)) (by simp;omega) ((World.putObj_heap_other (by omega)).trans hd)⟩
end Go.Proofs.YtdjcidackkogjaaGreatDoor
namespace Go.Proofs.YtdjcidackkogjaaGreatDoor
set_option linter.unusedSectionVars false
set_option linter.unusedVariables false
set_option maxHeartbeats 8000000
open Go.RowKit
structure Rz(W:World)(base b rb:Nat)(T:ByteArray)(a0:Nat)(m0:Mk)(F0:List Dl)(its:List (Tk×Mk))(a:Nat)(m:Mk)(F:List Dl)(og:Option Addr)(ng cg:Nat)(df:Int):Prop where
 rd:We W base b rb T a m F og ng cg df
 XE:zl T F a0 m0 its a m
 tk:F.take m0.en=F0
 le:a≤T.size
 en:m.en≤a
 aw:m.await≤1000
 bd:(zi m F).body=true→(zi m F).pend≠ []
theorem Rz.len{W:World}{base b rb:Nat}{T:ByteArray}{a0:Nat}{m0:Mk}{F0:List Dl}{its:List (Tk×Mk)}{a:Nat}{m:Mk}{F:List Dl}{og:Option Addr}{ng cg:Nat}{df:Int}(h:Rz W base b rb T a0 m0 F0 its a m F og ng cg df)(hs:T.size≤900):F.length≤900:=by
 have h1:=h.rd.en;have h2:=h.en;have h3:=h.le;omega
theorem Rz.next{W W':World}{base b rb:Nat}{T:ByteArray}{a0:Nat}{m0:Mk}{F0:List Dl}{its:List (Tk×Mk)}{a:Nat}{m:Mk}{F:List Dl}{og:Option Addr}{ng cg:Nat}{df:Int}(h:Rz W base b rb T a0 m0 F0 its a m F og ng cg df)(ha:a<T.size)
 {n:Mk}{F':List Dl}{jZ:Option Addr}{ZJ YP:Nat}(hR:We W' base b rb T (zo T a (zi m F)).en n F' jZ ZJ YP df)(hS:Stp T F' a m n)(hF:F'.take m.en=F)(hA:n.await=(zy T a (zi m F)).await):
  Rz W' base b rb T a0 m0 F0 (its++ [(zo T a (zi m F),m)]) (zo T a (zi m F)).en n F' jZ ZJ YP df:=by
 have hen:=h.rd.en;have XG:F.take m.en=F:=by rw[hen,List.take_length]
 have hX:zi m F'=zi m F:=VA (by rw[hF,XG]);have hok:=jB (zi m F) ha;have hlen:m.en≤F'.length:=by
  have:=hS.en;have:=hS.e;omega
 have hc:=dI (s:=T) (a:=a) h.bd;have hpl:(zi m F).pend.length≤a:=by
  have h1:=h.en;rw[WE hen,List.length_drop];omega
 have hk:=OA (zi m F) ha hpl h.aw;have hle:=zl.le h.XE;refine⟨hR,?_,?_,hok.2.2,?_,by rw[hA];exact hk.2,?_⟩
 ·have hp:=zl.one ha hS
  rw[hX]at hp;exact zl.app (zl.take h.XE (by rw[hF,XG]) hlen) hp
 ·have:=congrArg (List.take m0.en) hF
  rw[List.take_take,Nat.min_eq_left hle.2.1]at this;rw[this];exact h.tk
 ·have:=hS.e
  rw[hX]at this;have:=h.en;omega
 ·have hl:=hS.l
  rw[hX]at hl;rw[hl];exact Ak h.bd
theorem zi5(w:World)(rb:Nat):Calls Tryz.prog 47 #[.pointer (some ⟨rb,0,none⟩)] w λe w'=>e=.returned (.func (.func 67) #[] #[.pointer (some ⟨w.heap.size,0,none⟩)])∧∃ty,w'=w.alloc (.cells #[.pointer (some ⟨rb,0,none⟩)] ty):=by
 go_enter Tryz.func47,Tryz.ntmps47;go_wp2;go_ret;exact⟨rfl,_,rfl⟩
end Go.Proofs.YtdjcidackkogjaaGreatDoor

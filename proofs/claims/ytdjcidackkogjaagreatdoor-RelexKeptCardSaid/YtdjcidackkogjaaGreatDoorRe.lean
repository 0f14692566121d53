/- A range over a function whose iterator shares a bl -/
import Derived.Test.YtdjcidackkogjaaGreatDoorRm
import Derived.Test.YtdjcidackkogjaaGreatDoorRn
namespace Go.Proofs.YtdjcidackkogjaaGreatDoor
set_option linter.unusedSectionVars false
set_option linter.unusedVariables false
open Go.RowKit
def bn{β:Type}(S:Nat→Prop)(KI:World→World→Prop)(J:β→(Nat→Prop)→World→Prop):Prop:=
 ∀s T W W' T',J s T W→zg (λb=>T b∨S b) W W'→KI W W'→(∀b,T' b→T b∨W.heap.size≤b)→J s T' W'
def UH{β:Type}(S:Nat→Prop)(KI:World→World→Prop)(l:Nat)(J:β→(Nat→Prop)→World→Prop):Prop:=
 ∀s T W W' T',J s T W→zg (λb=>(T b∨S b)∨b=l) W W'→KI W W'→(∀b,T' b→T b∨W.heap.size≤b)→J s T' W'
def UI{β:Type}(l:Nat)(J:β→(Nat→Prop)→World→Prop):Prop:=
 ∀s T W W',J s T W→zg (λb=>b=l) W W'→J s T W'
def zj5{α:Type}(C:Nat→Prop)(KS:World→World→Prop)(l D:Nat)(I:List α→(Nat→Prop)→World→Prop)(Ix:Code→List α→(Nat→Prop)→World→Prop)(xs:List α)(T:Nat→Prop)(W:World):Exit→Act→World→Prop
 | .normal,_,W'=>W'.heap[l]?=W.heap[l]?∧W'.heap[D]?=W.heap[D]?∧zM C T W W'∧KS W W'∧I xs T W'
 | .ret,_,W'=>W'.heap[l]?=W.heap[l]?∧W'.heap[D]?=W.heap[D]?∧zM C T W W'∧Ix .ret xs T W'
 | .exit id,_,W'=>W'.heap[l]?=W.heap[l]?∧W'.heap[D]?=W.heap[D]?∧zM C T W W'∧Ix (.exit id) xs T W'
 | .goto t,_,W'=>W'.heap[l]?=W.heap[l]?∧W'.heap[D]?=W.heap[D]?∧zM C T W W'∧Ix (.goto t) xs T W'
 | .panic _,_,_=>False
 | .outgrown,_,_=>False
def Uy{α:Type}(n:Nat)(P:Program)(g:Nat)(lb:Array Value)(St:List (α×Array Value)→(Nat→Prop)→World→Prop)(C T0 S:Nat→Prop)(KI KS:World→World→Prop)(L:List α)(W:World):Prop:=
 ∀(l:Nat) (J Jx:List (α×Array Value)→(Nat→Prop)→World→Prop),bn S KI J→
  (∀pre x vs rest T W1,L=pre.map Prod.fst++x::rest→J pre T W1→(∀b,T b→b<W1.heap.size)→St (pre++ [(x,vs)]) T W1→YieldAt Fence.wide (n-1) P l vs W1 λe W'=>
   zM C T W1 W'∧((e=.returned (.bool true)∧KS W1 W'∧J (pre++ [(x,vs)]) T W')∨(e=.returned (.bool false)∧Jx (pre++ [(x,vs)]) T W')))→
  J [] T0 W→
  CallsIn Fence.wide n P g (#[.func (.yield l) #[] #[]]++lb) W λe W'=>(∃v,e=.returned v)∧((∃zq T,zq.map Prod.fst=L∧J zq T W'∧St zq T W')∨(∃pre T,Jx pre T W'))
variable{n:Nat}{P:Program}{w:World}
theorem zi6{α:Type}{g:Operand}{ps:Array Tmp}{assign body:Code}{Q:Exit→Act→World→Prop}{a:Act}
 {gf:Nat}{lb:Array Value}(hg:a.eval g=.func (.func gf) #[] lb)(eg:∀args w,(callFunc gf args).run P w=.ok (.enter gf args) w)
 {St:List (α×Array Value)→(Nat→Prop)→World→Prop}{C T0 S:Nat→Prop}{KI KS:World→World→Prop}{L:List α}(hseq:∀W,Below w.heap.size w W→Uy (n-1) P gf lb St C T0 S KI KS L W)
 (hC:∀b,C b→b<w.heap.size)(hS:∀b,S b→b<w.heap.size)(hKI:∀A B:World,(∀b,S b→B.heap[b]?=A.heap[b]?)→KI A B)(hKS:∀A B:World,(∀b,S b→B.heap[b]?=A.heap[b]?)→KS A B)(hKt:∀X Y Z,KS X Y→KS Y Z→KS X Z)(hT0:∀b,T0 b→b<w.heap.size)(hps:∀pre x T W vs,St (pre++ [(x,vs)]) T W→vs.size=ps.size)
 (hE:∀s T W W',St s T W→zg (λb=>b=w.heap.size+1) W W'→¬T (w.heap.size+1)→St s T W')
 (I:List (α×Array Value)→(Nat→Prop)→World→Prop)(Ix:Code→List (α×Array Value)→(Nat→Prop)→World→Prop)(hI:UH S KI (w.heap.size+1) I)(hIx:∀c,UI (w.heap.size+1) (Ix c))
 (h0:∀W,Below w.heap.size w W→W.heap.size=w.heap.size+2→I [] T0 W)
 (lT:∀pre x vs rest T W,L=pre.map Prod.fst++x::rest→I pre T W→St (pre++ [(x,vs)]) T W→(∀b,T b→b<W.heap.size)→w.heap.size+2≤W.heap.size→(∃r,W.heap[w.heap.size+1]?=some (.loop r))→W.heap[w.heap.size]?=some (.deferred (some []))→¬T (w.heap.size+1)→¬T w.heap.size→
   assign.wpIn (Fence.wide.inRound (w.heap.size+1)) (n-1-1) P (Exit.then (λa' W'=>W'.heap[w.heap.size+1]?=W.heap[w.heap.size+1]?∧W'.heap[w.heap.size]?=W.heap[w.heap.size]?∧zM C T W W'∧KS W W'∧
    ∀r,body.wpIn (Fence.wide.inRound (w.heap.size+1)) (n-1-1) P (zj5 C KS (w.heap.size+1) w.heap.size I Ix (pre++ [(x,vs)]) T (W'.putObj (w.heap.size+1) (.loop r))) a' (W'.putObj (w.heap.size+1) (.loop r))) (λ_ _ _=>False)) {tmps:=(ps.zip vs).foldl (λt (p,v)=>t.setIfInBounds p v) a.tmps,defers:=[]} W)
  (hdone:∀zq T W,zq.map Prod.fst=L→I zq T W→St zq T W→w.heap.size+2≤W.heap.size→W.heap[w.heap.size]?=some (.deferred (some []))→Q .normal {a with defers:={target:=.collected w.heap.size,args:=#[]}::a.defers} W)
  (hstop:∀c pre T W,Ix c pre T W→w.heap.size+2≤W.heap.size→W.heap[w.heap.size]?=some (.deferred (some []))→c.wpIn Fence.wide n P Q {a with defers:={target:=.collected w.heap.size,args:=#[]}::a.defers} W):
  (Code.rangeFunc g ps assign body).wpIn Fence.wide n P Q a w:=by
 refine wpIn_rangeFunc ?_;intro fn hfn;rw[show Fence.wide.round=none from rfl];obtain⟨rec,hrec⟩:∃rec:LoopState→Option Code→Loop,rec=λst pe=>{state:=st,pending:=pe,fn,tmps:=a.tmps,params:=ps,assign,body,defers:=w.heap.size}:=⟨_,rfl⟩;obtain⟨W1,hW1⟩:∃W1,(w.alloc (.deferred (some []))).alloc (.loop (rec .ready none))=W1:=⟨_,rfl⟩;have hL1:W1.heap[w.heap.size+1]?=some (.loop (rec .ready none)):=by
  rw[←hW1];have:=World.alloc_heap_new (w.alloc (.deferred (some []))) (.loop (rec .ready none));rwa [World.size_alloc]at this
 have hD1:W1.heap[w.heap.size]?=some (.deferred (some [])):=by
  rw[←hW1];exact(Below.heap_alloc _ _ _ (by simp)).trans (World.alloc_heap_new w _)
 have hs1:W1.heap.size=w.heap.size+2:=by rw[←hW1];simp
 have hb1:Below w.heap.size w W1:=by rw[←hW1];exact((Below.refl _ w).alloc (Nat.le_refl _) _).alloc (by simp) _
 refine⟨w.heap.size+1,[{target:=.collected w.heap.size,args:=#[]}],W1,{target:=.fn (.func gf) lb,args:=#[.func (.yield (w.heap.size+1)) #[] #[]]},W1,gf,
  #[.func (.yield (w.heap.size+1)) #[] #[]]++lb,W1,?_,?_,?_,?_,(λh=>by cases h),?_⟩
 ·rw[←hW1,hrec];exact run_enterLoop_outer _ _ _ _ _
 ·simp only[resolve,hg]
  simp[go_sem]
 ·intro f' hf';trivial
 ·simp[invoke,go_sem,eg]
 ·refine(hseq W1 hb1 (w.heap.size+1)
   (λpre T W=>I pre T W∧W.heap[w.heap.size+1]?=some (.loop (rec .ready none))∧W.heap[w.heap.size]?=some (.deferred (some []))∧¬T (w.heap.size+1)∧¬T w.heap.size)
   (λpre T W=>∃c,Ix c pre T W∧W.heap[w.heap.size+1]?=some (.loop (rec .done (some c)))∧W.heap[w.heap.size]?=some (.deferred (some []))∧¬T (w.heap.size+1)∧¬T w.heap.size)
   ?_ ?_ ⟨h0 W1 hb1 hs1,hL1,hD1,λh=>by have:=hT0 _ h;omega,λh=>by have:=hT0 _ h;omega⟩).mono ?_
  ·rintro s T A B T' ⟨hi,hl,hd,t1,t2⟩ hf hki hT
   have l1:=(Array.getElem?_eq_some_iff.1 hl).1;exact⟨hI s T A B T' hi (hf.mono λ_ _ h=> .inl h) hki hT,(hf.block _ l1 (λh=>h.elim t1 (λh=>by have:=hS _ h;omega))).trans hl,(hf.block _ (by omega) (λh=>h.elim t2 (λh=>by have:=hS _ h;omega))).trans hd,λh=>by rcases hT _ h with h|h;exact t1 h;omega,λh=>by rcases hT _ h with h|h;exact t2 h;omega⟩
  ·rintro pre x vs rest T W hLx ⟨hi,hl,hd,t1,t2⟩ Zp Qz
   have c1:¬C (w.heap.size+1):=λh=>by have:=hC _ h;omega
   have l1:=(Array.getElem?_eq_some_iff.1 hl).1;have hy:=run_yield (P:=P) (args:=vs) hl (by rw[hrec];exact hps pre x T W vs Qz);rw[hrec]at hy;refine⟨fn,_,assign,body,hy,roundIn_of_wpIn hfn (wpIn_mono (lT pre x vs rest T W hLx hi Qz Zp (by omega) ⟨_,hl⟩ hd t1 t2) ?_)⟩;clear hy;rintro e0 a' Wa he0
   cases e0 with
   |normal=>?_
   |ret=>exact he0.elim
   |exit id=>exact he0.elim
   |goto t=>exact he0.elim
   |panic ch=>exact he0.elim
   |outgrown=>exact he0.elim
   obtain⟨hla,lU,hka,hsa,hbody⟩:=he0;have hl2:=hla.trans hl;have hd2:=lU.trans hd;have l2:=(Array.getElem?_eq_some_iff.1 hl2).1;refine⟨_,run_beginRound hl2 (by rw[hrec]),?_⟩;have hl3:(Wa.putObj (w.heap.size+1) (.loop {rec .ready none with state:=.busy})).heap[w.heap.size+1]?=some (.loop {rec .ready none with state:=.busy}):=World.putObj_heap_same l2;have hd3:(Wa.putObj (w.heap.size+1) (.loop {rec .ready none with state:=.busy})).heap[w.heap.size]?=some (.deferred (some [])):=(World.putObj_heap_other (by omega)).trans hd2;have hsame:∀b,T b→T b∨Wa.heap.size≤b:=λ_ h=> .inl h;refine wpIn_mono (hbody {rec .ready none with state:=.busy}) ?_;have fin:∀(jump:Option Code) (W3:World),W3.heap[w.heap.size+1]?=(Wa.putObj (w.heap.size+1) (.loop {rec .ready none with state:=.busy})).heap[w.heap.size+1]?→W3.heap[w.heap.size]?=(Wa.putObj (w.heap.size+1) (.loop {rec .ready none with state:=.busy})).heap[w.heap.size]?→
     (Instr.endRound (w.heap.size+1) jump).run P W3=.ok (.bool jump.isNone) (W3.putObj (w.heap.size+1) (.loop (rec (if jump.isNone then .ready else .done) jump)))∧
     (W3.putObj (w.heap.size+1) (.loop (rec (if jump.isNone then .ready else .done) jump))).heap[w.heap.size+1]?=some (.loop (rec (if jump.isNone then .ready else .done) jump))∧
     (W3.putObj (w.heap.size+1) (.loop (rec (if jump.isNone then .ready else .done) jump))).heap[w.heap.size]?=some (.deferred (some [])):=λjump W3 h1 h2=>by
    have hl4:=h1.trans hl3;have:=run_endRound (P:=P) jump hl4;rw[hrec]at this ⊢;exact⟨this,World.putObj_heap_same (Array.getElem?_eq_some_iff.1 hl4).1,(World.putObj_heap_other (by omega)).trans (h2.trans hd3)⟩
   rintro e a3 W3 hp
   cases e with
   |normal=>
    obtain⟨h1,h2,hk3,hs3,hi3⟩:=hp;obtain⟨hr,hl4,hd4⟩:=fin none W3 h1 h2;exact⟨_,_,hr,hka.trans (((zM.putObj _ t1 c1).trans hk3).trans (zM.putObj _ t1 c1)),.inl ⟨rfl,hKt _ _ _ hsa (hKt _ _ _ (hKt _ _ _ (hKS _ _ (λb hb=>World.putObj_heap_other (by have:=hS b hb;omega))) hs3) (hKS _ _ (λb hb=>World.putObj_heap_other (by have:=hS b hb;omega)))),hI _ T _ _ T hi3 (uH W3 _ (.inr rfl)) (hKI _ _ (λb hb=>World.putObj_heap_other (by have:=hS b hb;omega))) (λ_ h=> .inl h),hl4,hd4,t1,t2⟩⟩
   |ret=>
    obtain⟨h1,h2,hk3,hi3⟩:=hp;obtain⟨hr,hl4,hd4⟩:=fin (some .ret) W3 h1 h2;exact⟨_,_,hr,hka.trans (((zM.putObj _ t1 c1).trans hk3).trans (zM.putObj _ t1 c1)),.inr ⟨rfl,.ret,hIx _ _ T _ _ hi3 (uH W3 _ rfl),hl4,hd4,t1,t2⟩⟩
   |exit id=>
    obtain⟨h1,h2,hk3,hi3⟩:=hp;obtain⟨hr,hl4,hd4⟩:=fin (some (.exit id)) W3 h1 h2;exact⟨_,_,hr,hka.trans (((zM.putObj _ t1 c1).trans hk3).trans (zM.putObj _ t1 c1)),.inr ⟨rfl,.exit id,hIx _ _ T _ _ hi3 (uH W3 _ rfl),hl4,hd4,t1,t2⟩⟩
   |goto t=>
    obtain⟨h1,h2,hk3,hi3⟩:=hp;obtain⟨hr,hl4,hd4⟩:=fin (some (.goto t)) W3 h1 h2;exact⟨_,_,hr,hka.trans (((zM.putObj _ t1 c1).trans hk3).trans (zM.putObj _ t1 c1)),.inr ⟨rfl,.goto t,hIx _ _ T _ _ hi3 (uH W3 _ rfl),hl4,hd4,t1,t2⟩⟩
   |panic ch=>exact hp.elim
   |outgrown=>exact hp.elim
  ·rintro e W2 ⟨⟨v,rfl⟩,(⟨zq,T,hmap,⟨hi,hl,hd,t1,t2⟩,hlast⟩|⟨pre,T,c,hi,hl,hd,t1,t2⟩)⟩
   ·have l1:=(Array.getElem?_eq_some_iff.1 hl).1
    exact⟨none,_,by have:=run_endLoop (P:=P) hl (by rw[hrec];simp);rw[hrec]at this;exact this,hdone zq T _ hmap (hI _ T _ _ T hi (uH W2 _ (.inr rfl)) (hKI _ _ (λb hb=>World.putObj_heap_other (by have:=hS b hb;omega))) (λ_ h=> .inl h)) (hE _ T _ _ hlast (uH W2 _ rfl) t1) (by simp;omega) ((World.putObj_heap_other (by omega)).trans hd)⟩
   ·have l1:=(Array.getElem?_eq_some_iff.1 hl).1
    exact⟨some c,_,by have:=run_endLoop (P:=P) hl (by rw[hrec];simp);rw[hrec]at this;exact this,hstop c pre T _ (hIx c _ T _ _ hi (uH W2 _ rfl)) (by simp;omega) ((World.putObj_heap_other (by omega)).trans hd)⟩
end Go.Proofs.YtdjcidackkogjaaGreatDoor
namespace Go.Proofs.YtdjcidackkogjaaGreatDoor
set_option linter.unusedSectionVars false
set_option linter.unusedVariables false
set_option maxHeartbeats 8000000
open Go.RowKit
structure Rz(W:World)(base b rb:Nat)(T:ByteArray)(a0:Nat)(m0:Mk)(F0:List Dl)(its:List (Tk×Mk))(a:Nat)(m:Mk)(F:List Dl)(og:Option Addr)(ng cg:Nat)(df:Int):Prop where
 rd:We W base b rb T a m F og ng cg df
 XE:zl T F a0 m0 its a m
 tk:F.take m0.en=F0
 le:a≤T.size
 en:m.en≤a
 aw:m.await≤1000
 bd:(zi m F).body=true→(zi m F).pend≠ []
theorem Rz.len{W:World}{base b rb:Nat}{T:ByteArray}{a0:Nat}{m0:Mk}{F0:List Dl}{its:List (Tk×Mk)}{a:Nat}{m:Mk}{F:List Dl}{og:Option Addr}{ng cg:Nat}{df:Int}(h:Rz W base b rb T a0 m0 F0 its a m F og ng cg df)(hs:T.size≤900):F.length≤900:=by
 have h1:=h.rd.en;have h2:=h.en;have h3:=h.le;omega
theorem Rz.next{W W':World}{base b rb:Nat}{T:ByteArray}{a0:Nat}{m0:Mk}{F0:List Dl}{its:List (Tk×Mk)}{a:Nat}{m:Mk}{F:List Dl}{og:Option Addr}{ng cg:Nat}{df:Int}(h:Rz W base b rb T a0 m0 F0 its a m F og ng cg df)(ha:a<T.size)
 {n:Mk}{F':List Dl}{jZ:Option Addr}{ZJ YP:Nat}(hR:We W' base b rb T (zo T a (zi m F)).en n F' jZ ZJ YP df)(hS:Stp T F' a m n)(hF:F'.take m.en=F)(hA:n.await=(zy T a (zi m F)).await):
  Rz W' base b rb T a0 m0 F0 (its++ [(zo T a (zi m F),m)]) (zo T a (zi m F)).en n F' jZ ZJ YP df:=by
 have hen:=h.rd.en;have XG:F.take m.en=F:=by rw[hen,List.take_length]
 have hX:zi m F'=zi m F:=VA (by rw[hF,XG]);have hok:=jB (zi m F) ha;have hlen:m.en≤F'.length:=by
  have:=hS.en;have:=hS.e;omega
 have hc:=dI (s:=T) (a:=a) h.bd;have hpl:(zi m F).pend.length≤a:=by
  have h1:=h.en;rw[WE hen,List.length_drop];omega
 have hk:=OA (zi m F) ha hpl h.aw;have hle:=zl.le h.XE;refine⟨hR,?_,?_,hok.2.2,?_,by rw[hA];exact hk.2,?_⟩
 ·have hp:=zl.one ha hS
  rw[hX]at hp;exact zl.app (zl.take h.XE (by rw[hF,XG]) hlen) hp
 ·have:=congrArg (List.take m0.en) hF
  rw[List.take_take,Nat.min_eq_left hle.2.1]at this;rw[this];exact h.tk
 ·have:=hS.e
  rw[hX]at this;have:=h.en;omega
 ·have hl:=hS.l
  rw[hX]at hl;rw[hl];exact Ak h.bd
theorem zi5(w:World)(rb:Nat):Calls Tryz.prog 47 #[.pointer (some ⟨rb,0,none⟩)] w λe w'=>e=.returned (.func (.func 67) #[] #[.pointer (some ⟨w.heap.size,0,none⟩)])∧∃ty,w'=w.alloc (.cells #[.pointer (some ⟨rb,0,none⟩)] ty):=by
 go_enter Tryz.func47,Tryz.ntmps47;go_wp2;go_ret;exact⟨rfl,_,rfl⟩
open Lib(hid)
set_option maxRecDepth 100000
def Uw(Q:Exit→Act→World→Prop):Exit→Act→World→Prop
 | .panic _,_,_=>False
 |ex,a,w=>Q ex a w
theorem ziN{F:Fence}{m:Nat}{P:Program}{c:Code}{Q:Exit→Act→World→Prop}{a:Act}{w:World}(h:c.wpIn F m P (Uw Q) a w):c.wpIn F m P Q a w:=
 wpIn_mono h (λex _ _ hq=>by cases ex<;>first|exact hq|exact hq.elim)
theorem ziO{e:Ending}{K A B:Prop}(h:K∧((e=.returned (.bool true)∧A)∨(e=.returned (.bool false)∧B))):∃bb,e=.returned (.bool bb)∧Hid (K∧(bb=true→A)∧(bb=false→B)):=by
 rcases h with⟨k,⟨e1,h⟩|⟨e1,h⟩⟩
 ·exact⟨true,e1,hid ⟨k,λ_=>h,λh=>by cases h⟩⟩
 ·exact⟨false,e1,hid ⟨k,λh=>(by cases h),λ_=>h⟩⟩
theorem ziP{w w':World}{base:Nat}{e:TypeId}{size n:Nat}{v:Value}{xs:List Value}(h:w.ownsRow base e size v n xs)(hk:∀k,v.ownBlock=some k→k<w.heap.size→w'.heap[k]?=w.heap[k]?):w'.ownsRow base e size v n xs:=by
 refine⟨h.1,?_⟩;rcases h.2 with h0|⟨g,cap,cur,hv,hb,h3,h5⟩
 ·exact .inl h0
 ·exact .inr ⟨g,cap,cur,hv,hb,(hk g (by rw[hv];rfl) (Array.getElem?_eq_some_iff.1 h3).1).trans h3,h5⟩
theorem O9{W W':World}{b o:Nat}(h:W'.heap[b]?=W.heap[b]?):W'.cell? ⟨b,o,none⟩=W.cell? ⟨b,o,none⟩:=by simp[World.cell?,h]
theorem Src.same{w w':World}{v:Value}{m:Nat}{xs:List Value}(h:Src w v m xs)(hs:w.heap.size≤w'.heap.size)(hk:∀k,v.ownBlock=some k→w'.heap[k]?=w.heap[k]?):Src w' v m xs:=by
 rcases h with h|⟨b,off,c,h1,h2,h3⟩
 ·exact .inl h
 ·exact .inr ⟨b,off,c,h1,by omega,λj u hj=>(O9 (hk b (by rw[h1];rfl))).trans (h3 j u hj)⟩
theorem Rz.below{W W':World}{base b rb:Nat}{T:ByteArray}{a0:Nat}{m0:Mk}{F0:List Dl}{its:List (Tk×Mk)}{a:Nat}{m:Mk}{F:List Dl}{og:Option Addr}{ng cg:Nat}{df:Int}(h:Rz W base b rb T a0 m0 F0 its a m F og ng cg df)(hb:Below W.heap.size W W'):Rz W' base b rb T a0 m0 F0 its a m F og ng cg df:=
 ⟨⟨h.rd.blk.below hb,h.rd.del.below hb,h.rd.ln,h.rd.en,h.rd.le,h.rd.cap,h.rd.ow.elim .inl (λk=> .inr (vM k hb)),h.rd.db⟩,h.XE,h.tk,h.le,h.en,h.aw,h.bd⟩
def qQ(q:Tk×Mk):Value:=.agg #[.int .i64 (q.1.kind:Int),.int .i64 (q.1.zf:Int),.int .i64 (q.1.en:Int),.bool q.1.op,.int .i64 (q.2.await:Int),.bool q.2.body,.int .i64 (q.2.zf:Int),.int .i64 (q.2.en:Int)]
def Ry(base rb Bs:Nat)(k:Nat):Prop:=k=Bs∨(k<base∧k≠rb)
def wZ(rb:Nat)(A B:World):Prop:=∀v,A.cell? ⟨rb,8,none⟩=some v→B.cell? ⟨rb,8,none⟩=some v
def VC(rb:Nat)(A B:World):Prop:=∀b T a m pv df,zh A rb (yT b T a m pv df) 97→∃zK,zh B rb (yT b T a m pv zK) 97
theorem Rz.kept{W W':World}{base b rb:Nat}{T:ByteArray}{a0:Nat}{m0:Mk}{F0:List Dl}{its:List (Tk×Mk)}{a:Nat}{m:Mk}{F:List Dl}{og:Option Addr}{ng cg:Nat}{df:Int}(h:Rz W base b rb T a0 m0 F0 its a m F og ng cg df)(hs:W.heap.size≤W'.heap.size)(hK:VC rb W W')(ho:∀g,(Value.slice og ng cg).ownBlock=some g→W'.heap[g]?=W.heap[g]?):∃zK,Rz W' base b rb T a0 m0 F0 its a m F og ng cg zK:=by
 obtain⟨zK,hb⟩:=hK _ _ _ _ _ _ h.rd.blk;exact⟨zK,⟨hb,h.rd.del.same hs ho,h.rd.ln,h.rd.en,h.rd.le,h.rd.cap,h.rd.ow.elim .inl (λk=> .inr (ziP k (λg hg _=>ho g hg))),h.rd.db⟩,h.XE,h.tk,h.le,h.en,h.aw,h.bd⟩
def Yp(base b rb:Nat)(T:ByteArray)(a0:Nat)(m0:Mk)(F0:List Dl)(zq:List ((Tk×Lx)×Array Value))(TT:Nat→Prop)(W:World):Prop:=
 ∃(its:List (Tk×Mk)) (a:Nat) (m:Mk) (F:List Dl) (og:Option Addr) (ng cg:Nat) (df:Int),Rz W base b rb T a0 m0 F0 its a m F og ng cg df∧zq.map Prod.snd=its.map (λq=> #[qQ q])∧
  (∀g,(Value.slice og ng cg).ownBlock=some g→base≤g→TT g)∧vO T (T.size-a0) a0 (zi m0 F0)=zq.map Prod.fst++vO T (T.size-a) a (zi m F)
def bf(base b rb Bs:Nat)(T:ByteArray)(a0:Nat)(m0:Mk)(F0:List Dl)(ty:TypeId)(J:List ((Tk×Lx)×Array Value)→(Nat→Prop)→World→Prop)(wr:World):Prop:=
 ∃(zq:List ((Tk×Lx)×Array Value)) (TT:Nat→Prop),Yp base b rb T a0 m0 F0 zq TT wr∧(∀k,TT k→base≤k∧k≠Bs∧k<wr.heap.size)∧zh wr Bs #[.pointer (some ⟨rb,0,none⟩)] ty∧Tx wr∧J zq TT wr
def ziQ(s:ByteArray):Option Value→Nat
 |some (.int _ i)=>s.size-i.toNat
 |_=>0
structure bg(base b rb Bs:Nat)(T:ByteArray)(a0:Nat)(m0:Mk)(F0:List Dl)(ty:TypeId)(J:List ((Tk×Lx)×Array Value)→(Nat→Prop)→World→Prop)(zq:List ((Tk×Lx)×Array Value))(a:Nat)(m:Mk)(x:Tk×Lx)(T2:Nat→Prop)(w2:World):Prop where
 st:Yp base b rb T a0 m0 F0 (zq++ [(x,#[qQ (x.1,m)])]) T2 w2
 ll:∃rest,vO T (T.size-a0) a0 (zi m0 F0)=zq.map Prod.fst++x::rest
 tt:∀k,T2 k→base≤k∧k≠Bs∧k<w2.heap.size
 kb:zh w2 Bs #[.pointer (some ⟨rb,0,none⟩)] ty
 tx:Tx w2
 j:J zq T2 w2
theorem ziR{base b rb Bs:Nat}{T:ByteArray}{a0:Nat}{m0:Mk}{F0:List Dl}{ty:TypeId}{J:List ((Tk×Lx)×Array Value)→(Nat→Prop)→World→Prop}{zq:List ((Tk×Lx)×Array Value)}{TT:Nat→Prop}{its:List (Tk×Mk)}{a:Nat}{m:Mk}{F:List Dl}{og:Option Addr}{ng cg:Nat}{df:Int}{X w2:World}{n2:Mk}{F2:List Dl}{RD:Option Addr}{RF RG:Nat}
 (hJ:bn (λk=>k=rb) (wZ rb) J)(hz:Rz X base b rb T a0 m0 F0 its a m F og ng cg df)(hv:zq.map Prod.snd=its.map (λq=> #[qQ q]))(VD:∀g,(Value.slice og ng cg).ownBlock=some g→base≤g→TT g)(hL:vO T (T.size-a0) a0 (zi m0 F0)=zq.map Prod.fst++vO T (T.size-a) a (zi m F))
 (xk:∀k,TT k→base≤k∧k≠Bs∧k<X.heap.size)(kb:zh X Bs #[.pointer (some ⟨rb,0,none⟩)] ty)(XF:Tx X)(hj:J zq TT X)(hb0:0<rb)(hrb:rb<base)(hbs:base≤Bs)(hlt:a<T.size)
 (hR:We w2 base b rb T (zo T a (zi m F)).en n2 F2 RD RF RG df)(hS:Stp T F2 a m n2)(hF:F2.take m.en=F)(hA:n2.await=(zy T a (zi m F)).await)
 (hFr:zg (λk=>k=rb∨(base≤k∧(Value.slice og ng cg).ownBlock=some k)) X w2)(hg:∀g,(Value.slice RD RF RG).ownBlock=some g→(Value.slice og ng cg).ownBlock=some g∨X.heap.size≤g):
  bg base b rb Bs T a0 m0 F0 ty J zq a m (zo T a (zi m F),zy T a (zi m F)) (λk=>TT k∨((Value.slice RD RF RG).ownBlock=some k∧base≤k)) w2:=by
 have hs2:=hFr.size;have hz2:=hz.next hlt hR hS hF hA;have XG:zi m F2=zi m F:=VA (by rw[hF,hz.rd.en,List.take_length]);have hl2:zi n2 F2=zy T a (zi m F):=by rw[hS.l,XG]
 have hnx:=Nh (zi m F) hlt;have hno:¬(Bs=rb∨(base≤Bs∧(Value.slice og ng cg).ownBlock=some Bs)):=by
  rintro(h|⟨h1,h2⟩)
  ·omega
  ·exact(xk Bs (VD Bs h2 h1)).2.1 rfl
 have hown2:∀g,(Value.slice RD RF RG).ownBlock=some g→g<w2.heap.size:=λg hg'=>by
  rcases hR.del with⟨h1,_⟩|⟨b',off,c,h1,h2,_⟩
  ·rw[h1]at hg';cases hg'
  ·rw[h1]at hg'
   have e:b'=g:=by simpa[Value.ownBlock]using hg'
   omega
 refine⟨⟨_,_,_,_,_,_,_,_,hz2,?_,λg h1 h2=> .inr ⟨h1,h2⟩,?_⟩,⟨_,by rw[hL,hnx]⟩,?_,kb.zf hFr hno,?_,?_⟩
 ·rw[List.map_append,List.map_append,hv]
  rfl
 ·rw[hL,hnx,List.map_append,List.append_assoc,hl2]
  rfl
 ·rintro k (h|⟨h1,h2⟩)
  ·have:=xk k h
   exact⟨this.1,this.2.1,by omega⟩
  ·refine⟨h2,?_,hown2 k h1⟩
   rcases hg k h1 with e|e
   ·exact(xk k (VD k e h2)).2.1
   ·have:=kb.lt;omega
 ·exact⟨by have:=XF.1;omega,λi hi=>(hFr.cell (a:=⟨0,i,none⟩) XF.1 (λe=>by
   rcases e with e|⟨e1,e2⟩
   ·have e':(0:Nat)=rb:=e;omega
   ·have e':base≤0:=e1;omega)).trans (XF.2 i hi)⟩
 ·refine hJ zq TT X w2 _ hj (hFr.mono (λk _ hk=>?_)) ?_ (λk hk=>?_)
  ·rcases hk with e|⟨e1,e2⟩
   ·exact .inr e
   ·exact .inl (VD k e2 e1)
  ·intro v nZ
   have h8:=hz.rd.blk;unfold yT at h8;have e1:=h8.cell 8;have h9:=hR.blk;unfold yT at h9;have e2:=h9.cell 8;rw[e1]at nZ;rw[e2];exact nZ
  ·rcases hk with h|⟨h1,h2⟩
   ·exact .inl h
   ·rcases hg k h1 with e|e
    ·exact .inl (VD k e h2)
    ·exact .inr e
theorem ziS{W W':World}{T:ByteArray}{a0:Nat}{m0:Mk}{F0:List Dl}{base b rb Bs:Nat}{ty:TypeId}{J:List ((Tk×Lx)×Array Value)→(Nat→Prop)→World→Prop}{zq:List ((Tk×Lx)×Array Value)}{TT:Nat→Prop}(h:Yp base b rb T a0 m0 F0 zq TT W)(xk:∀k,TT k→base≤k∧k≠Bs∧k<W.heap.size)(hb:zh W Bs #[.pointer (some ⟨rb,0,none⟩)] ty)(hX:Tx W)(h0:0<rb)(hrb:rb<base)(hbs:base≤Bs)
 (hk:zM (Ry base rb Bs) TT W W')(hK:VC rb W W')(hj:J zq TT W'):bf base b rb Bs T a0 m0 F0 ty J W':=by
 obtain⟨its,a,m,F,og,ng,cg,df,hz,hv,hg,hL⟩:=h;obtain⟨zK,hz'⟩:=hz.kept hk.size hK (λg hg'=>by
  rcases Nat.lt_or_ge g base with e|e
  ·have hne:=hz.rd.db g hg'
   have hl:g<W.heap.size:=by have:=hb.lt;omega
   exact hk.same g hl (.inr (.inr ⟨e,hne⟩))
  ·have ht:=hg g hg' e
   exact hk.same g (xk g ht).2.2 (.inl ht))
 have hs:=hk.size;refine⟨zq,TT,⟨its,a,m,F,og,ng,cg,zK,hz',hv,hg,hL⟩,λk h=>?_,(hk.same Bs hb.lt (.inr (.inl rfl))).trans hb,⟨by have:=hX.1;omega,λi hi=>?_⟩,hj⟩
 ·have:=xk k h
  exact⟨this.1,this.2.1,by omega⟩
 ·exact(O9 (hk.same 0 hX.1 (.inr (.inr ⟨by omega,by omega⟩)))).trans (hX.2 i hi)
theorem Yp.below{W W':World}{T:ByteArray}{a0:Nat}{m0:Mk}{F0:List Dl}{base b rb:Nat}{zq:List ((Tk×Lx)×Array Value)}{TT:Nat→Prop}(h:Yp base b rb T a0 m0 F0 zq TT W)(hb:Below W.heap.size W W'):Yp base b rb T a0 m0 F0 zq TT W':=by
 obtain⟨its,a,m,F,og,ng,cg,df,hz,hr⟩:=h;exact⟨its,a,m,F,og,ng,cg,df,hz.below hb,hr⟩
theorem Ux{W W':World}{T:ByteArray}{a0:Nat}{m0:Mk}{F0:List Dl}{base b rb:Nat}{zq:List ((Tk×Lx)×Array Value)}{TT:Nat→Prop}{J:List ((Tk×Lx)×Array Value)→(Nat→Prop)→World→Prop}(hJ:bn (λk=>k=rb) (wZ rb) J)(h:Yp base b rb T a0 m0 F0 zq TT W)(hj:J zq TT W)(hb:Below W.heap.size W W'):J zq TT W':=by
 obtain⟨its,a,m,F,og,ng,cg,df,hz,hr⟩:=h;have kr:=hz.rd.blk;unfold yT at kr;refine hJ zq TT W W' TT hj (zg.of_below hb) (λv hv=>?_) (λk hk=> .inl hk);have:=kr.cell 8;rw[this]at hv;have h8:=(kr.below hb).cell 8;rw[h8];exact hv
theorem ziT{W W':World}{T:ByteArray}{a0:Nat}{m0:Mk}{F0:List Dl}{base b rb:Nat}{zq:List ((Tk×Lx)×Array Value)}{TT:Nat→Prop}(h:Yp base b rb T a0 m0 F0 zq TT W)(hK:VC rb W W'){v:Value}(hv:W.cell? ⟨rb,2,none⟩=some v):W'.cell? ⟨rb,2,none⟩=some v:=by
 obtain⟨its,a,m,F,og,ng,cg,df,hz,_⟩:=h;obtain⟨zK,hb⟩:=hK _ _ _ _ _ _ hz.rd.blk;have h1:=hz.rd.blk;unfold yT at h1 hb;have e1:=h1.cell 2;rw[e1]at hv;exact(hb.cell 2).trans hv
theorem ziU(n:Nat)(hn:1≤n)(W:World)(base b rb Bs:Nat)(T:ByteArray)(a0:Nat)(m0:Mk)(F0:List Dl)(og:Option Addr)(ng cg:Nat)(df:Int)(ty:TypeId)(hs:T.size≤900)
 (hR:Rz W base b rb T a0 m0 F0 [] a0 m0 F0 og ng cg df)(Vs:∀g,(Value.slice og ng cg).ownBlock=some g→g<base)(hrb:rb<base)(h0:0<rb)(hbs:base≤Bs)(hb:zh W Bs #[.pointer (some ⟨rb,0,none⟩)] ty)(hT:Tx W):
  Uy n Tryz.prog 67 #[.pointer (some ⟨Bs,0,none⟩)] (Yp base b rb T a0 m0 F0) (Ry base rb Bs) (λ_=>False) (λk=>k=rb) (wZ rb) (VC rb) (vO T (T.size-a0) a0 (zi m0 F0)) W:=by
 intro l J Jx hJ hY hJ0;have hst:bf base b rb Bs T a0 m0 F0 ty J W:=⟨[],λ_=>False,⟨[],a0,m0,F0,og,ng,cg,df,hR,rfl,λg hg hh=>by have:=Vs g hg;omega,rfl⟩,λk h=>h.elim,hb,hT,hJ0⟩;have HY:=hid hY;have HJ:=hid hJ;have hro:Fence.wide.round=none:=rfl;have hfn:Fence.wide.fn 67:=trivial;have hfx:Fence.wide.fn 68:=trivial;have HST:=hid hst;clear hY hJ hJ0 hst hb hT hR Vs;generalize hL:vO T (T.size-a0) a0 (zi m0 F0)=L at*;have WY:=hid hL;clear hL;refine callsIn_of_wp Tryz.func67 rfl hfn ?_ hro;simp only[Tryz.ntmps67,List.size_toArray,List.length_cons,List.length_nil,Nat.reduceAdd,Nat.reduceSub,Array.replicate_succ,Array.replicate_zero,List.push_toArray,List.append_toArray,List.nil_append,List.cons_append]
 gi_wp2
 gi_loopw [] (λwr=>bf base b rb Bs T a0 m0 F0 ty J wr) (λwr=>ziQ T (wr.cell? ⟨rb,2,none⟩))
 case atStart=>exact HST.out
 case round=>
  obtain⟨zq,TT,⟨its,a,m,F,og,ng,cg,df,hz,hv,VD,Y2⟩,xk,kb,XF,hj⟩:=hrel;have kr:=hz.rd.blk;unfold yT at kr;have r1:wr.cell? ⟨rb,1,none⟩=some (.string T):=kr.cell 1;have r2:wr.cell? ⟨rb,2,none⟩=some (.int .i64 (a:Int)):=kr.cell 2;have r3:wr.cell? ⟨rb,3,none⟩=some (.int .i64 (m.await:Int)):=kr.cell 3;have r4:wr.cell? ⟨rb,4,none⟩=some (.bool m.body):=kr.cell 4;have r5:wr.cell? ⟨rb,5,none⟩=some (.int .i64 (m.zf:Int)):=kr.cell 5;have r6:wr.cell? ⟨rb,6,none⟩=some (.int .i64 (m.en:Int)):=kr.cell 6;have b0:wr.cell? ⟨Bs,0,none⟩=some (.pointer (some ⟨rb,0,none⟩)):=kb.cell 0;have HR2:=hid r2;by_cases hlt:a<T.size
  ·have hi:(a:Int)<(T.size:Int):=by omega
   obtain⟨x,hx⟩:∃x:Tk×Lx,(zo T a (zi m F),zy T a (zi m F))=x:=⟨_,rfl⟩;have hrd:∀X,Below wr.heap.size wr X→CallsIn Fence.wide (n-1) Tryz.prog 68 #[.pointer (some ⟨rb,0,none⟩)] X λe w2=>e=.returned (yJ x.1)∧∃T2,bg base b rb Bs T a0 m0 F0 ty J zq a m x T2 w2∧zg (λk=>k=rb∨(base≤k∧TT k)) X w2∧w2.cell? ⟨rb,2,none⟩=some (.int .i64 (x.1.en:Int)):=λX hX=>
    ((callsIn_wide (n:=n-1)).2 (ziV X base b rb T a m F og ng cg df (hz.below hX).rd hs hlt (XF.b hX) (hz.len hs) hz.aw hz.bd ⟨hrb,by have:=kb.lt;have:=hX.size;omega⟩)).mono (by
     rintro e w2 ⟨rfl,n2,F2,RD,RF,RG,hR2,hS2,hF2,hA2,zmQ,Vh,hg2⟩;have hx1:x.1=zo T a (zi m F):=by rw[←hx]
     rw[hx1,←hx];have h9:=hR2.blk;unfold yT at h9;exact⟨rfl,_,ziR HJ.out (hz.below hX) hv VD Y2 (λk hk=>by have h1:=xk k hk;have h2:=hX.size;exact⟨h1.1,h1.2.1,by omega⟩) (kb.below hX) (XF.b hX) (HJ.out zq TT wr X TT hj (zg.of_below hX) (λv hv=>by
      have:=kr.cell 8;rw[this]at hv;have h8:=(kr.below hX).cell 8;rw[h8];exact hv) (λk hk=> .inl hk)) h0 hrb hbs hlt hR2 hS2 hF2 hA2 Vh hg2,Vh.mono (λk _ hk=>hk.imp id (λh=>⟨h.1,VD k h.2 h.1⟩)),h9.cell 2⟩)
   have hyl:∀T2 w2,bg base b rb Bs T a0 m0 F0 ty J zq a m x T2 w2→YieldAt Fence.wide (n-1) Tryz.prog l #[qQ (x.1,m)] w2 λe W'=>zM (Ry base rb Bs) T2 w2 W'∧((e=.returned (.bool true)∧(VC rb w2 W'∧J (zq++ [(x,#[qQ (x.1,m)])]) T2 W'))∨(e=.returned (.bool false)∧Jx (zq++ [(x,#[qQ (x.1,m)])]) T2 W')):=λT2 w2 h=>by
    obtain⟨rest,hr⟩:=h.ll;exact HY.out zq x _ rest T2 w2 (by rw[←WY.out];exact hr) h.j (λk hk=>(h.tt k hk).2.2) h.st
   obtain⟨⟨tk,tf,te,top⟩,nx⟩:=x;obtain⟨mA,mB,mf,me⟩:=m;dsimp only[yJ,qQ]at hrd hyl r3 r4 r5 r6;have Jm:=hid hrd;have HYL:=hid hyl;have hwb:=kb.lt;have hrl:=kr.lt;have fJ:=hid xk;have hen:a<te:=by
    have:=(jB (zi ⟨mA,mB,mf,me⟩ F) hlt).2.1;have h1:=congrArg (λq=>q.1.en) hx;simp only at h1;omega
   clear hrd hyl hz hv VD Y2 xk XF hj kr hx
   gi_wp2_with fail
   gi_quiet (fail)
   have kx:zh ((wr.drewN nq).alloc (.cells #[.int .i64 0,.bool false,.int .i64 0,.int .i64 0] 66)) wr.heap.size #[.int .i64 0,.bool false,.int .i64 0,.int .i64 0] 66:=zh.new (wr.drewN nq) _ _;have x0:=kx.cell 0;have x1:=kx.cell 1;have x2:=kx.cell 2;have x3:=kx.cell 3;have g0:=kx.frozen 0;have g1:=kx.frozen 1;have g2:=kx.frozen 2;have g3:=kx.frozen 3
   gi_wp2_with fail
   obtain⟨w1,hw1⟩:∃Z,((((((wr.drewN nq).alloc (.cells #[.int .i64 0,.bool false,.int .i64 0,.int .i64 0] 66)).setCell ⟨wr.heap.size,0,none⟩ (.int .i64 (mA:Int))).setCell ⟨wr.heap.size,1,none⟩ (.bool mB)).setCell ⟨wr.heap.size,2,none⟩ (.int .i64 (mf:Int))).setCell ⟨wr.heap.size,3,none⟩ (.int .i64 (me:Int)))=Z:=⟨_,rfl⟩;have hB1:Below wr.heap.size wr w1:=by rw[←hw1];exact(((((below_drewN (Below.refl wr.heap.size wr) nq).alloc (Nat.le_refl wr.heap.size) _).setCell (p:=⟨wr.heap.size,0,none⟩) (Nat.le_refl _) _).setCell (p:=⟨wr.heap.size,1,none⟩) (Nat.le_refl _) _).setCell (p:=⟨wr.heap.size,2,none⟩) (Nat.le_refl _) _).setCell (p:=⟨wr.heap.size,3,none⟩) (Nat.le_refl _) _
   have KP:zh w1 wr.heap.size #[.int .i64 (mA:Int),.bool mB,.int .i64 (mf:Int),.int .i64 (me:Int)] 66:=by
    rw[←hw1];exact(((kx.set 0 (.int .i64 (mA:Int))).set 1 (.bool mB)).set 2 (.int .i64 (mf:Int))).set 3 (.int .i64 (me:Int))
   rw[hw1];obtain⟨zb,hzb⟩:∃z,wr.heap.size=z:=⟨_,rfl⟩;have HZB:=hid hzb;rw[hzb]at KP hwb hrl ⊢;have HB1:=hid hB1;have b1:w1.cell? ⟨Bs,0,none⟩=some (.pointer (some ⟨rb,0,none⟩)):=(kb.below hB1).cell 0;have y0:w1.cell? ⟨zb,0,none⟩=some (.int .i64 (mA:Int)):=KP.cell 0;have y1:w1.cell? ⟨zb,1,none⟩=some (.bool mB):=KP.cell 1;have y2:w1.cell? ⟨zb,2,none⟩=some (.int .i64 (mf:Int)):=KP.cell 2;have y3:w1.cell? ⟨zb,3,none⟩=some (.int .i64 (me:Int)):=KP.cell 3;have KX1:=hid KP;clear x0 x1 x2 x3 g0 g1 g2 g3 kx hw1 hzb hB1 KP r1 r2 r3 r4 r5 r6 b0 kb;have hmx:Tryz.prog.follows .mixedOrders=true:=by kernel_rfl
   have hc4:∀X w2,Below w1.heap.size w1 X→zg (λk=>k=rb∨(base≤k∧TT k)) X w2→w2.cell? ⟨zb,0,none⟩=some (.int .i64 (mA:Int))∧w2.cell? ⟨zb,1,none⟩=some (.bool mB)∧w2.cell? ⟨zb,2,none⟩=some (.int .i64 (mf:Int))∧w2.cell? ⟨zb,3,none⟩=some (.int .i64 (me:Int)):=λX w2 hX hf=>by
    have hk:=(KX1.out.below hX).zf hf (λhh=>by
     rcases hh with e|⟨_,e⟩
     ·omega
     ·have h1:=(fJ.out zb e).2.2
      have:=HZB.out;omega)
    exact⟨hk.cell 0,hk.cell 1,hk.cell 2,hk.cell 3⟩
   have HC4:=hid hc4;clear hc4;refine ziN ?_
   gi_region_with_o (first
    |(refine(Jm.out _ (by first|exact HB1.out|exact HB1.out.drew|exact HB1.out.drew.drew)).mono ?_;rintro e2 w2 ⟨rfl,T2,mW,hF2,ht2⟩;obtain⟨z0,z1,z2,z3⟩:=HC4.out _ w2 (by first|exact Below.refl _ _|exact(Below.refl _ _).drew|exact(Below.refl _ _).drew.drew) hF2;obtain⟨fn9,zcl,zcm,body9,lC,DU⟩:=HYL.out T2 w2 mW;clear hF2)
    |(refine DU.mono ?_;rintro e9 W9 hh;obtain⟨bb,rfl,Uz⟩:=ziO hh;clear hh))
   all_goals
    dsimp only[Uw];obtain⟨hk9,hjt,UA⟩:=Uz.out;have RH:=hid mW;have HT2:=hid ht2;have YS:=hid (And.intro hk9 (And.intro hjt UA));clear hk9 hjt UA Uz mW ht2 lC DU z0 z1 z2 z3 y0 y1 y2 y3 b1;cases bb
    ·gi_wp2_with fail
     refine bodyPost_ret (results_none rfl _ _ _) rfl ?_;exact⟨⟨_,rfl⟩,.inr ⟨_,_,YS.out.2.2 (by first|rfl|trivial)⟩⟩
    ·gi_wp2_with fail
     go_roundw
     case rel=>
      have h:=YS.out.2.1 (by first|rfl|trivial);exact ziS RH.out.st RH.out.tt RH.out.kb RH.out.tx h0 hrb hbs YS.out.1 h.1 h.2
     case measure=>
      have h:=YS.out.2.1 (by first|rfl|trivial);rw[ziT RH.out.st h.1 HT2.out,HR2.out];show T.size-te<T.size-a;omega
  ·have hi:¬(a:Int)<(T.size:Int):=by omega
   have hend:=nY (zi m F) hlt;have UB:L=zq.map Prod.fst:=by rw[←WY.out,Y2,hend,List.append_nil]
   have HF:=hid (And.intro UB (And.intro hj (⟨its,a,m,F,og,ng,cg,df,hz,hv,VD,Y2⟩:Yp base b rb T a0 m0 F0 zq TT wr)));have hwb:=kb.lt;clear UB hend Y2 hv VD xk XF hj hz kr
   gi_wp2_with fail
   gi_quiet (fail)
   gi_wp2_with fail
   go_end0
   have hB:Below wr.heap.size wr (wr.drewN nq):=below_drewN (Below.refl _ _) _;first|exact⟨⟨_,rfl⟩,.inl ⟨zq,HF.out.1.symm,TT,Ux HJ.out HF.out.2.2 HF.out.2.1 hB,Yp.below HF.out.2.2 hB⟩⟩|exact⟨⟨_,rfl⟩,.inl ⟨zq,TT,HF.out.1.symm,Ux HJ.out HF.out.2.2 HF.out.2.1 hB,Yp.below HF.out.2.2 hB⟩⟩
def Qj(o q:Mk)(D:List Dl)(X:Lx)(df:Int)(B:Bool)(zK:Int):Prop:=
 ((¬Fit o q∨(o.zf:Int)≤df)∧B=false∧zK=df)∨
 (Fit o q∧df<(o.zf:Int)∧∃n:Nat,n≤o.en-o.zf∧zK=((o.zf+n:Nat):Int)∧B=decide (n=o.en-o.zf)∧(∀i,i<n→D[o.zf+i]?=X.pend[i]?)∧(n<o.en-o.zf→D[o.zf+n]?≠X.pend[n]?))
theorem Jo{q:Mk}{F:List Dl}{i:Nat}(h:i<q.en-q.zf):(zi q F).pend[i]?=F[q.zf+i]?:=by
 unfold zi;simp only;rw[List.getElem?_drop,List.getElem?_take,if_pos (by omega)]
theorem ziW{o q:Mk}{D F:List Dl}{df zK:Int}{B:Bool}(h:UC o q D F df B zK)(ho:o.zf≤o.en)(hq:q.zf≤q.en):Qj o q D (zi q F) df B zK:=by
 rcases h with h|⟨h1,h2,n,h3,h4,h5,h6,h7⟩
 ·exact .inl h
 ·have hf:=h1.2.2
  refine .inr ⟨h1,h2,n,h3,h4,h5,λi hi=>?_,λhn=>?_⟩
  ·rw[Jo (by omega)];exact h6 i hi
  ·rw[Jo (by omega)];exact h7 hn
inductive Sc (I:List (Tk×Mk)) (D:List Dl) (more:Int) (q:Tk×Mk) (X:Lx):Nat→Int→Nat→Int→Bool→Prop
 |stop {n:Nat} {df:Int}:(∀r,I[n]?=some r→(q.1.zf:Int)<(r.1.zf:Int)+more)→Sc I D more q X n df n df false
 |skip {n n':Nat} {df zK:Int} {B:Bool} {r:Tk×Mk}:I[n]?=some r→(r.1.zf:Int)+more<(q.1.zf:Int)→Sc I D more q X (n+1) df n' zK B→Sc I D more q X n df n' zK B
 |diff {n n':Nat} {df yN zK:Int} {B:Bool} {r:Tk×Mk}:I[n]?=some r→(r.1.zf:Int)+more=(q.1.zf:Int)→Qj r.2 q.2 D X df false yN→Sc I D more q X (n+1) yN n' zK B→Sc I D more q X n df n' zK B
 |hit {n:Nat} {df yN:Int} {r:Tk×Mk}:I[n]?=some r→(r.1.zf:Int)+more=(q.1.zf:Int)→Qj r.2 q.2 D X df true yN→Sc I D more q X n df n yN true
inductive Rr (I:List (Tk×Mk)) (D:List Dl) (more:Int):List ((Tk×Mk)×Lx)→Nat→Int→Nat→Int→Prop
 |nil {n:Nat} {df:Int}:Rr I D more [] n df n df
 |snoc {l:List ((Tk×Mk)×Lx)} {q:Tk×Mk} {X:Lx} {n n1 n2:Nat} {df yN df2:Int}:Rr I D more l n df n1 yN→Sc I D more q X n1 yN n2 df2 false→Rr I D more (l++ [(q,X)]) n df n2 df2
theorem Sc.le{I:List (Tk×Mk)}{D:List Dl}{more:Int}{q:Tk×Mk}{X:Lx}{n n':Nat}{df zK:Int}{B:Bool}(h:Sc I D more q X n df n' zK B):n≤n'∧(n≤I.length→n'≤I.length):=by
 induction h with
 |stop _=>exact⟨Nat.le_refl _,id⟩
 |skip h _ _ ih=>
  have:=(List.getElem?_eq_some_iff.1 h).1;exact⟨by omega,λ_=>ih.2 (by omega)⟩
 |diff h _ _ _ ih=>
  have:=(List.getElem?_eq_some_iff.1 h).1;exact⟨by omega,λ_=>ih.2 (by omega)⟩
 |hit _ _ _=>exact⟨Nat.le_refl _,id⟩
theorem Rr.le{I:List (Tk×Mk)}{D:List Dl}{more:Int}{l:List ((Tk×Mk)×Lx)}{n n':Nat}{df zK:Int}(h:Rr I D more l n df n' zK):n≤n'∧(n≤I.length→n'≤I.length):=by
 induction h with
 |nil=>exact⟨Nat.le_refl _,id⟩
 |snoc _ g ih=>exact⟨Nat.le_trans ih.1 g.le.1,λh=>g.le.2 (ih.2 h)⟩
theorem Sc.hits{I:List (Tk×Mk)}{D:List Dl}{more:Int}{q:Tk×Mk}{X:Lx}{n n':Nat}{df zK:Int}(h:Sc I D more q X n df n' zK true):∃r oH,I[n']?=some r∧(r.1.zf:Int)+more=(q.1.zf:Int)∧Qj r.2 q.2 D X oH true zK:=by
 generalize hB:true=B at h
 induction h with
 |stop _=>cases hB
 |skip _ _ _ ih=>exact ih hB
 |diff _ _ _ _ ih=>exact ih hB
 |hit h1 h2 h3=>exact⟨_,_,h1,h2,h3⟩
def jL(X:Lx)(zq:List ((Tk×Lx)×Array Value)):List Lx:=X::zq.map λp=>p.1.2
theorem bu(X:Lx)(zq:List ((Tk×Lx)×Array Value))(p:(Tk×Lx)×Array Value):jL X (zq++ [p])=jL X zq++ [p.1.2]:=by simp[jL]
def RI(X:Lx)(its:List (Tk×Mk))(zq:List ((Tk×Lx)×Array Value)):List ((Tk×Mk)×Lx):=its.zip (jL X zq)
theorem UD{X:Lx}{its:List (Tk×Mk)}{zq:List ((Tk×Lx)×Array Value)}(h:its.length=zq.length)(q:Tk×Mk)(p:(Tk×Lx)×Array Value)(Y:Lx)(hY:(jL X zq)[zq.length]?=some Y):RI X (its++ [q]) (zq++ [p])=RI X its zq++ [(q,Y)]:=by
 have hl:(jL X zq).length=zq.length+1:=by simp[jL]
 have e:jL X zq=(jL X zq).take zq.length++ [Y]:=by
  apply List.ext_getElem?;intro i;rcases Nat.lt_trichotomy i zq.length with g|g|g
  ·rw[List.getElem?_append_left (by rw[List.length_take];omega),List.getElem?_take,if_pos g]
  ·subst g
   rw[List.getElem?_append_right (by rw[List.length_take];omega),List.length_take,hY];simp[hl]
  ·rw[List.getElem?_eq_none (by omega),List.getElem?_eq_none (by rw[List.length_append,List.length_take];simp;omega)]
 have hz:its.zip (jL X zq)=its.zip ((jL X zq).take zq.length):=by
  rw[e];have hl2:((jL X zq).take zq.length).length=zq.length:=by rw[List.length_take];omega
  have h3:((jL X zq).take zq.length++ [Y]).take zq.length=(jL X zq).take zq.length:=by
   rw[List.take_append_of_le_length (by omega),List.take_take,Nat.min_self]
  rw[h3];have h4:(its++ []).zip ((jL X zq).take zq.length++ [Y])=its.zip ((jL X zq).take zq.length)++([]:List (Tk×Mk)).zip [Y]:=List.zip_append (by rw[hl2];exact h);rw[List.append_nil]at h4;simpa using h4
 unfold RI;rw[bu,hz]
 conv=>lhs;rw[e]
 rw[List.append_assoc,List.zip_append (by rw[List.length_take];omega)];rfl
end Go.Proofs.YtdjcidackkogjaaGreatDoor

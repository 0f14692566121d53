/- A range over a function whose iterator yields what -/
import Derived.Test.YtkolpaonccmgiaaGreatDoorTkC
import Derived.Test.YtkolpaonccmgiaaGreatDoorAp
namespace Go.Proofs.YtkolpaonccmgiaaGreatDoor
set_option linter.unusedSectionVars false
set_option linter.unusedVariables false
open Go.Proofs.Tryz
open _root_.Nat renaming le_refl->waa
open _root_.Go.World renaming size_alloc->waf
open _root_.Go.RowKit.Below renaming refl->wag
open _root_.Array renaming getElem?_eq_some_iff->waj
open Lib(hid)
set_option maxHeartbeats 8000000
set_option maxRecDepth 100000
open Go.RowKit
def TT{α:Type}(n:Nat)(P:Program)(g:Nat)(lb:Array Value)(E:α->(Nat->Prop)->World->Array Value->Prop)(C T0:Nat->Prop)(L:List α)(W:World):Prop:=
 ∀(l:Nat) (J Jx:List (α×Array Value)->(Nat->Prop)->World->Prop),Y4 J->Y4 Jx->
  (∀pre x vs rest T W1,L=pre.map Prod.fst++x::rest->J pre T W1->(∀b,T b->b<W1.heap.size)->E x T W1 vs->YieldAt Fence.wide (n-1) P l vs W1 λe W'=>
   zO C T W1 W'/\((e=.returned (.bool true)/\J (pre++ [(x,vs)]) T W')\/(e=.returned (.bool false)/\Jx (pre++ [(x,vs)]) T W')))->
  J [] T0 W->
  CallsIn Fence.wide n P g (#[.func (.yield l) #[] #[]]++lb) W λe W'=>(∃v,e=.returned v)/\((∃kH T,kH.map Prod.fst=L/\J kH T W'/\(∀x vs,kH.getLast?=some (x,vs)->E x T W' vs))\/(∃pre T,Jx pre T W'))
variable{n:Nat}{P:Program}{w:World}
theorem zcR{α:Type}{g:Operand}{ps:Array Tmp}{assign body:Code}{Q:Exit->Act->World->Prop}{a:Act}
 {gf:Nat}{lb:Array Value}(hg:a.eval g=.func (.func gf) #[] lb)(eg:∀args w,(callFunc gf args).run P w=.ok (.enter gf args) w)
 {E:α->(Nat->Prop)->World->Array Value->Prop}{C T0:Nat->Prop}{L:List α}(hseq:∀W,Below w.heap.size w W->TT (n-1) P gf lb E C T0 L W)
 (hC:∀b,C b->b<w.heap.size)(hT0:∀b,T0 b->b<w.heap.size)(hps:∀x T W vs,E x T W vs->vs.size=ps.size)
 (hE:∀x T W W' vs,E x T W vs->zg (λb=>b=w.heap.size+1) W W'->¬T (w.heap.size+1)->E x T W' vs)
 (I:List (α×Array Value)->(Nat->Prop)->World->Prop)(Ix:Code->List (α×Array Value)->(Nat->Prop)->World->Prop)(hI:Yx (w.heap.size+1) I)(hIx:∀c,Yx (w.heap.size+1) (Ix c))
 (h0:∀W,Below w.heap.size w W->W.heap.size=w.heap.size+2->I [] T0 W)
 (MB:∀pre x vs rest T W,L=pre.map Prod.fst++x::rest->I pre T W->E x T W vs->(∀b,T b->b<W.heap.size)->w.heap.size+2<=W.heap.size->(∃r,W.heap[w.heap.size+1]?=some (.loop r))->W.heap[w.heap.size]?=some (.deferred (some []))->¬T (w.heap.size+1)->¬T w.heap.size->
   assign.wpIn (Fence.wide.inRound (w.heap.size+1)) (n-1-1) P (Exit.then (λa' W'=>W'.heap[w.heap.size+1]?=W.heap[w.heap.size+1]?/\W'.heap[w.heap.size]?=W.heap[w.heap.size]?/\zO C T W W'/\
    ∀r,body.wpIn (Fence.wide.inRound (w.heap.size+1)) (n-1-1) P (SI C (w.heap.size+1) w.heap.size I Ix (pre++ [(x,vs)]) T (W'.putObj (w.heap.size+1) (.loop r))) a' (W'.putObj (w.heap.size+1) (.loop r))) (λ_ _ _=>False)) {tmps:=(ps.zip vs).foldl (λt (p,v)=>t.setIfInBounds p v) a.tmps,defers:=[]} W)
  (hdone:∀kH T W,kH.map Prod.fst=L->I kH T W->(∀x vs,kH.getLast?=some (x,vs)->E x T W vs)->w.heap.size+2<=W.heap.size->W.heap[w.heap.size]?=some (.deferred (some []))->Q .normal {a with defers:={target:=.collected w.heap.size,args:=#[]}::a.defers} W)
  (hstop:∀c pre T W,Ix c pre T W->w.heap.size+2<=W.heap.size->W.heap[w.heap.size]?=some (.deferred (some []))->c.wpIn Fence.wide n P Q {a with defers:={target:=.collected w.heap.size,args:=#[]}::a.defers} W):
  (Code.rangeFunc g ps assign body).wpIn Fence.wide n P Q a w:=by
 refine wpIn_rangeFunc ?_;intro fn hfn;rw[show Fence.wide.round=none from rfl];obtain⟨rec,hrec⟩:∃rec:LoopState->Option Code->Loop,rec=λst pe=>{state:=st,pending:=pe,fn,tmps:=a.tmps,params:=ps,assign,body,defers:=w.heap.size}:=⟨_,rfl⟩;obtain⟨W1,hW1⟩:∃W1,(w.alloc (.deferred (some []))).alloc (.loop (rec .ready none))=W1:=⟨_,rfl⟩;have hL1:W1.heap[w.heap.size+1]?=some (.loop (rec .ready none)):=by
  rw[←hW1];have:=World.alloc_heap_new (w.alloc (.deferred (some []))) (.loop (rec .ready none));rwa [waf]at this
 have hD1:W1.heap[w.heap.size]?=some (.deferred (some [])):=by
  rw[←hW1];exact(Below.heap_alloc _ _ _ (by simp)).trans (World.alloc_heap_new w _)
 have hs1:W1.heap.size=w.heap.size+2:=by rw[←hW1];simp
 have hb1:Below w.heap.size w W1:=by rw[←hW1];exact((wag _ w).alloc (waa _) _).alloc (by simp) _
 refine⟨w.heap.size+1,[{target:=.collected w.heap.size,args:=#[]}],W1,{target:=.fn (.func gf) lb,args:=#[.func (.yield (w.heap.size+1)) #[] #[]]},W1,gf,
  #[.func (.yield (w.heap.size+1)) #[] #[]]++lb,W1,?_,?_,?_,?_,(λh=>by cases h),?_⟩
 ·rw[←hW1,hrec];exact run_enterLoop_outer _ _ _ _ _
 ·simp only[resolve,hg]
  simp[go_sem]
 ·intro f' hf';trivial
 ·simp[invoke,go_sem,eg]
 ·refine(hseq W1 hb1 (w.heap.size+1)
   (λpre T W=>I pre T W/\W.heap[w.heap.size+1]?=some (.loop (rec .ready none))/\W.heap[w.heap.size]?=some (.deferred (some []))/\¬T (w.heap.size+1)/\¬T w.heap.size)
   (λpre T W=>∃c,Ix c pre T W/\W.heap[w.heap.size+1]?=some (.loop (rec .done (some c)))/\W.heap[w.heap.size]?=some (.deferred (some []))/\¬T (w.heap.size+1)/\¬T w.heap.size)
   ?_ ?_ ?_ ⟨h0 W1 hb1 hs1,hL1,hD1,λh=>by have:=hT0 _ h;omega,λh=>by have:=hT0 _ h;omega⟩).mono ?_
  ·rintro s T A B T' ⟨hi,hl,hd,t1,t2⟩ hf hT
   have l1:=(waj.1 hl).1;exact⟨hI s T A B T' hi (hf.mono λ_ _ h=> .inl h) hT,(hf.block _ l1 t1).trans hl,(hf.block _ (by omega) t2).trans hd,λh=>by rcases hT _ h with h|h;exact t1 h;omega,λh=>by rcases hT _ h with h|h;exact t2 h;omega⟩
  ·rintro s T A B T' ⟨c,hi,hl,hd,t1,t2⟩ hf hT
   have l1:=(waj.1 hl).1;exact⟨c,hIx c s T A B T' hi (hf.mono λ_ _ h=> .inl h) hT,(hf.block _ l1 t1).trans hl,(hf.block _ (by omega) t2).trans hd,λh=>by rcases hT _ h with h|h;exact t1 h;omega,λh=>by rcases hT _ h with h|h;exact t2 h;omega⟩
  ·rintro pre x vs rest T W hLx ⟨hi,hl,hd,t1,t2⟩ jG Rh
   have c1:¬C (w.heap.size+1):=λh=>by have:=hC _ h;omega
   have l1:=(waj.1 hl).1;have hy:=run_yield (P:=P) (args:=vs) hl (by rw[hrec];exact hps x T W vs Rh);rw[hrec]at hy;refine⟨fn,_,assign,body,hy,roundIn_of_wpIn hfn (wpIn_mono (MB pre x vs rest T W hLx hi Rh jG (by omega) ⟨_,hl⟩ hd t1 t2) ?_)⟩;clear hy;rintro e0 a' Wa he0
   cases e0 with
   |normal=>?_
   |ret=>exact he0.elim
   |exit id=>exact he0.elim
   |goto t=>exact he0.elim
   |panic ch=>exact he0.elim
   |outgrown=>exact he0.elim
   obtain⟨hla,MC,hka,hbody⟩:=he0;have hl2:=hla.trans hl;have hd2:=MC.trans hd;have l2:=(waj.1 hl2).1;refine⟨_,run_beginRound hl2 (by rw[hrec]),?_⟩;have hl3:(Wa.putObj (w.heap.size+1) (.loop {rec .ready none with state:=.busy})).heap[w.heap.size+1]?=some (.loop {rec .ready none with state:=.busy}):=World.putObj_heap_same l2;have hd3:(Wa.putObj (w.heap.size+1) (.loop {rec .ready none with state:=.busy})).heap[w.heap.size]?=some (.deferred (some [])):=(World.putObj_heap_other (by omega)).trans hd2;have hsame:∀b,T b->T b\/Wa.heap.size<=b:=λ_ h=> .inl h;refine wpIn_mono (hbody {rec .ready none with state:=.busy}) ?_;have fin:∀(jump:Option Code) (W3:World),W3.heap[w.heap.size+1]?=(Wa.putObj (w.heap.size+1) (.loop {rec .ready none with state:=.busy})).heap[w.heap.size+1]?->W3.heap[w.heap.size]?=(Wa.putObj (w.heap.size+1) (.loop {rec .ready none with state:=.busy})).heap[w.heap.size]?->
     (Instr.endRound (w.heap.size+1) jump).run P W3=.ok (.bool jump.isNone) (W3.putObj (w.heap.size+1) (.loop (rec (if jump.isNone then .ready else .done) jump)))/\
     (W3.putObj (w.heap.size+1) (.loop (rec (if jump.isNone then .ready else .done) jump))).heap[w.heap.size+1]?=some (.loop (rec (if jump.isNone then .ready else .done) jump))/\
     (W3.putObj (w.heap.size+1) (.loop (rec (if jump.isNone then .ready else .done) jump))).heap[w.heap.size]?=some (.deferred (some [])):=λjump W3 h1 h2=>by
    have hl4:=h1.trans hl3;have:=run_endRound (P:=P) jump hl4;rw[hrec]at this ⊢;exact⟨this,World.putObj_heap_same (waj.1 hl4).1,(World.putObj_heap_other (by omega)).trans (h2.trans hd3)⟩
   rintro e a3 W3 hp
   cases e with
   |normal=>
    obtain⟨h1,h2,hk3,hi3⟩:=hp;obtain⟨hr,hl4,hd4⟩:=fin none W3 h1 h2;exact⟨_,_,hr,hka.trans (((zO.putObj _ t1 c1).trans hk3).trans (zO.putObj _ t1 c1)),.inl ⟨rfl,hI _ T _ _ T hi3 (jA W3 _ (.inr rfl)) (λ_ h=> .inl h),hl4,hd4,t1,t2⟩⟩
   |ret=>
    obtain⟨h1,h2,hk3,hi3⟩:=hp;obtain⟨hr,hl4,hd4⟩:=fin (some .ret) W3 h1 h2;exact⟨_,_,hr,hka.trans (((zO.putObj _ t1 c1).trans hk3).trans (zO.putObj _ t1 c1)),.inr ⟨rfl,.ret,hIx _ _ T _ _ T hi3 (jA W3 _ (.inr rfl)) (λ_ h=> .inl h),hl4,hd4,t1,t2⟩⟩
   |exit id=>
    obtain⟨h1,h2,hk3,hi3⟩:=hp;obtain⟨hr,hl4,hd4⟩:=fin (some (.exit id)) W3 h1 h2;exact⟨_,_,hr,hka.trans (((zO.putObj _ t1 c1).trans hk3).trans (zO.putObj _ t1 c1)),.inr ⟨rfl,.exit id,hIx _ _ T _ _ T hi3 (jA W3 _ (.inr rfl)) (λ_ h=> .inl h),hl4,hd4,t1,t2⟩⟩
   |goto t=>
    obtain⟨h1,h2,hk3,hi3⟩:=hp;obtain⟨hr,hl4,hd4⟩:=fin (some (.goto t)) W3 h1 h2;exact⟨_,_,hr,hka.trans (((zO.putObj _ t1 c1).trans hk3).trans (zO.putObj _ t1 c1)),.inr ⟨rfl,.goto t,hIx _ _ T _ _ T hi3 (jA W3 _ (.inr rfl)) (λ_ h=> .inl h),hl4,hd4,t1,t2⟩⟩
   |panic ch=>exact hp.elim
   |outgrown=>exact hp.elim
  ·rintro e W2 ⟨⟨v,rfl⟩,(⟨kH,T,hmap,⟨hi,hl,hd,t1,t2⟩,hlast⟩|⟨pre,T,c,hi,hl,hd,t1,t2⟩)⟩
   ·have l1:=(waj.1 hl).1
    exact⟨none,_,by have:=run_endLoop (P:=P) hl (by rw[hrec];simp);rw[hrec]at this;exact this,hdone kH T _ hmap (hI _ T _ _ T hi (jA W2 _ (.inr rfl)) (λ_ h=> .inl h)) (λx vs h=>hE x T _ _ vs (hlast x vs h) (jA W2 _ rfl) t1) (by simp;omega) ((World.putObj_heap_other (by omega)).trans hd)⟩
   ·have l1:=(waj.1 hl).1
    exact⟨some c,_,by have:=run_endLoop (P:=P) hl (by rw[hrec];simp);rw[hrec]at this;exact this,hstop c pre T _ (hIx c _ T _ _ T hi (jA W2 _ (.inr rfl)) (λ_ h=> .inl h)) (by simp;omega) ((World.putObj_heap_other (by omega)).trans hd)⟩
end Go.Proofs.YtkolpaonccmgiaaGreatDoor
namespace Go.Proofs.YtkolpaonccmgiaaGreatDoor
open Go.Proofs.Tryz
open _root_.Array renaming getElem?_eq_some_iff->waj
open _root_.Go.RowKit.Below renaming refl->wag
open _root_.Go.World renaming size_alloc->waf
open _root_.Nat renaming le_refl->waa
set_option linter.unusedSectionVars false
set_option linter.unusedVariables false
open Lib(hid)
set_option maxHeartbeats 8000000
set_option maxRecDepth 100000
open Go.RowKit Go.Shelf
attribute [local go_sem] Oper.semAt_some
theorem zmx(l p:List UInt8):(Lib.trimSuffix l p).length<=l.length:=by
 unfold Lib.trimSuffix;split
 ·rw[List.length_take];omega
 ·exact waa _
section
variable(w:World)
theorem zmy(l:ByteArray)(d:Dl)(hs:l.size<=1000000):
  Calls prog 158 #[.string l,.agg #[.string d.word,.bool d.tabs]] w λe w'=>e=.returned (.bool (Vw l d))/\Below w.heap.size w w':=by
 obtain⟨wd,tb⟩:=d;have hts:=λW=>Tryz.strings_TrimSuffix l ⟨#[10]⟩ W (by omega);have hlen:=zmx l.data.toList [10];obtain⟨X,hX⟩:∃X,(⟨(Lib.trimSuffix l.data.toList [10]).toArray⟩:ByteArray)=X:=⟨_,rfl⟩;have iM:∀W,Calls prog 185 #[.string l,.string ⟨#[10]⟩] W λe w'=>e=.returned (.string X)/\w'=W:=λW=>by rw[←hX];exact hts W
 have SC:X.data.toList=Lib.trimSuffix l.data.toList [10]:=by rw[←hX]
 have HTS:=hid iM;have kb:=zf.new w #[.string wd,.bool tb] 105;have hB1:Below w.heap.size w (w.alloc (.cells #[.string wd,.bool tb] 105)):=(wag _ w).alloc (waa _) _;have c0:=kb.cell 0;have c1:=kb.cell 1
 cases tb with
 |true=>
  have htl:=λW=>Tryz.strings_TrimLeft_one X 9 (by decide) W;rw[SC]at htl;obtain⟨Y,hY⟩:∃Y,(⟨(Lib.trimLeftB (Lib.trimSuffix l.data.toList [10]) 9).toArray⟩:ByteArray)=Y:=⟨_,rfl⟩;rw[hY]at htl;have hd:Vw l ⟨wd,true⟩=decide (Y=wd):=by unfold Vw TR;simp only[if_true];rw[hY]
  have HD:=hid hd;have Le:=hid htl;clear hts iM SC htl hX hY hd hlen kb;go_enter func158,ntmps158
  go_wp2_with fail
  refine(HTS.out _).mono ?_;rintro e w1 ⟨rfl,rfl⟩
  go_wp2_with fail
  refine(Le.out _).mono ?_;rintro e w2 ⟨rfl,rfl⟩;go_wp2;go_ret;refine⟨?_,hB1⟩;rw[HD.out,←Zv];rfl
 |false=>
  have hd:Vw l ⟨wd,false⟩=decide (X=wd):=by unfold Vw TR;simp only[if_neg (show ¬false=true by decide)];rw[hX]
  have HD:=hid hd;clear hts iM SC hX hd hlen kb;go_enter func158,ntmps158
  go_wp2_with fail
  refine(HTS.out _).mono ?_;rintro e w1 ⟨rfl,rfl⟩;go_wp2;go_ret;refine⟨?_,hB1⟩;rw[HD.out,←Zv];rfl
end
def DV(x:ByteArray)(T:Nat->Prop)(W:World)(vs:Array Value):Prop:=vs=#[.string x]
def zmz:Option Value->Nat
 |some (.string x)=>x.size
 |_=>0
def zcS(t:ByteArray)(Bs:Nat)(J:List (ByteArray×Array Value)->(Nat->Prop)->World->Prop)(wr:World):Prop:=
 ∃(a:Nat) (pre:List (ByteArray×Array Value)),a<=t.size/\Z8 t=pre.map Prod.fst++qX t (t.size-a) a/\zf wr Bs #[.string (t.extract a t.size)] 9/\J pre (λb=>b=Bs) wr/\∀p∈pre,p.2=#[.string p.1]
theorem zmA(n:Nat)(hn:1<=n)(t:ByteArray)(ht:t.size<=1000000)(Bs:Nat)(W:World)(hb:zf W Bs #[.string t] 9):
  TT n prog 184 #[.pointer (some ⟨Bs,0,none⟩)] DV (λ_=>False) (λb=>b=Bs) (Z8 t) W:=by
 intro l J Jx hJ hJx hY hJ0;have HY:=hid hY;have HJ:=hid hJ;have mD:=hid hJ0;have hro:Fence.wide.round=none:=rfl;have hfn:Fence.wide.fn 184:=trivial;have hst:zcS t Bs J W:=⟨0,[],Nat.zero_le _,rfl,by rw[ByteArray.extract_zero_size];exact hb,hJ0,λp h=>by cases h⟩;have HST:=hid hst;have hfb:Fence.wide.fn 78:=trivial;clear hY hJ hJ0 hst hb;refine callsIn_of_wp func184 rfl hfn ?_ hro;simp only[ntmps184,List.size_toArray,List.length_cons,List.length_nil,Nat.reduceAdd,Nat.reduceSub,Array.replicate_succ,Array.replicate_zero,List.push_toArray,List.append_toArray,List.nil_append,List.cons_append]
 gi_wp2
 gi_loopw [3] (λv3 wr=>zcS t Bs J wr) (λ_ wr=>zmz (wr.cell? ⟨Bs,0,none⟩))
 case atStart=>exact HST.out
 case round=>
  obtain⟨a,pre,ha,hL,kb,hj,hpv⟩:=hrel;have iO:=hid hpv;clear hpv;have iP:=uX (s:=t) (a:=a) (b:=t.size) (waa _);have hc0:wr.cell? ⟨Bs,0,none⟩=some (.string (t.extract a t.size)):=kb.cell 0;have hf0:=kb.frozen 0;have hix:=λW=>Tryz.strings_IndexByte (t.extract a t.size) 10 W;have hnl:=zcO (t.extract a t.size);rw[zcP ha]at hnl;have P5:=rX ha;by_cases hlt:a<t.size
  ·have hlx:=zmo hlt
   rw[hlx]at hL;have hgt:=KL hlt;obtain⟨R,hR⟩:∃R,t.extract a t.size=R:=⟨_,rfl⟩;rw[hR]at iP hc0 hix hnl kb;have hRp:(0:Int)<(R.size:Int):=by omega
   have hix2:∀W,Calls prog 78 #[.string R,.int .u8 10] W λe w'=>e=.returned (.int .i64 (if vk t a-a<R.size then((vk t a-a:Nat):Int)else -1))/\w'=W:=λW=>by rw[←hnl];exact hix W
   by_cases hnb:vk t a<t.size
   ·have hln:zY t a=vk t a+1:=by unfold zY;rw[if_pos hnb]
    rw[if_pos (by omega)]at hix2;obtain⟨i,hi⟩:∃i,vk t a-a=i:=⟨_,rfl⟩;rw[hi]at hix2;have rZ:=hid (λW=>(callsIn_wide (n:=n-1)).2 (hix2 W));have e1:R.extract 0 (i+1)=t.extract a (zY t a):=by
     rw[←hR,ByteArray.extract_extract,hln];congr 1<;>omega
    have e2:R.extract (i+1) R.size=t.extract (zY t a) t.size:=by
     rw[←hR,ByteArray.extract_extract,hln,uX (waa _)];congr 1<;>omega
    have q1:(0:Int)<=(i:Int):=by omega
    have q2:(i:Int)+1<=(R.size:Int):=by omega
    have q3:IntKind.i64.wrap ((i:Int)+1)=(i:Int)+1:=IntWalk.i64_in _ (by omega);have yU:=hid e1;have HE2:=hid e2;have HL:=hid hL;have HK:=hid kb;have iQ:=hid hj;clear hix hix2 hnl hi e1 e2 hL kb hj hlx hR
    gi_wp2_with fail
    refine(rZ.out _).mono ?_;rintro e w1 ⟨rfl,rfl⟩;have hF2:zg (λb=>b=Bs) w1 (w1.setCell ⟨Bs,0,none⟩ (.string (R.extract (i+1) (t.size-a)))).drew:=(zg.setCell (p:=λb=>b=Bs) (zg.refl _ w1) 0 (.inl rfl) _).drew;have HJ2:=hid (HJ.out.same iQ.out hF2);have vK:=hid ((HK.out.set 0 (.string (R.extract (i+1) (t.size-a)))).drew:zf (w1.setCell ⟨Bs,0,none⟩ (.string (R.extract (i+1) (t.size-a)))).drew Bs #[.string (R.extract (i+1) (t.size-a))] 9);rw[iP]at HE2
    gi_wp2
    gi_region
    obtain⟨fn,tmps,assign,body,hy,hR2⟩:=HY.out pre (t.extract a (zY t a)) #[.string (R.extract 0 (i+1))] _ (λb=>b=Bs) _ HL.out HJ2.out (λb hb=>by rw[hb];exact vK.out.lt) (by unfold DV;rw[yU.out])
    gi_wp2
    refine hR2.mono ?_;rintro e W' ⟨hk3,(⟨rfl,hJ3⟩|⟨rfl,hJx3⟩)⟩
    ·have Yr:zf W' Bs #[.string (t.extract (zY t a) t.size)] 9:=by
      rw[←HE2.out];exact(hk3.same Bs vK.out.lt (.inl rfl)).trans vK.out
     have hLn:Z8 t=(pre++ [(t.extract a (zY t a),#[Value.string (R.extract 0 (i+1))])]).map Prod.fst++qX t (t.size-zY t a) (zY t a):=by rw[HL.out];simp
     have VX:=hid hLn;have TU:=hid Yr;clear Yr hLn
     gi_wp2
     go_roundw
     case rel=>
      refine⟨zY t a,_,hgt.2,VX.out,TU.out,hJ3,λp hp=>?_⟩;rcases List.mem_append.1 hp with h|h
      ·exact iO.out p h
      ·rw[List.mem_singleton.1 h,←yU.out]
     case measure=>
      rw[show W'.cell? ⟨Bs,0,none⟩=some (.string (t.extract (zY t a) t.size))from TU.out.cell 0,hc0];show(t.extract (zY t a) t.size).size<R.size;rw[uX (waa _)];omega
    ·gi_wp2
     refine bodyPost_ret (results_none rfl _ _ _) rfl ?_;exact⟨⟨_,rfl⟩,.inr ⟨_,_,hJx3⟩⟩
   ·have hln:zY t a=t.size:=by unfold zY;rw[if_neg hnb]
    rw[if_neg (by omega)]at hix2;have rZ:=hid (λW=>(callsIn_wide (n:=n-1)).2 (hix2 W));have e1:R=t.extract a (zY t a):=by rw[←hR,hln]
    have e2:(⟨#[]⟩:ByteArray)=t.extract (zY t a) t.size:=by
     have h1:(t.extract (zY t a) t.size).size=0:=by rw[uX (waa _)];omega
     exact(ByteArray.ext (Array.eq_empty_of_size_eq_zero h1)).symm
    have yU:=hid e1;have HE2:=hid e2;have HL:=hid hL;have HK:=hid kb;have iQ:=hid hj;clear hix hix2 hnl e1 e2 hL kb hj hlx hR
    gi_wp2_with fail
    refine(rZ.out _).mono ?_;rintro e w1 ⟨rfl,rfl⟩;have hF2:zg (λb=>b=Bs) w1 (w1.setCell ⟨Bs,0,none⟩ (.string ⟨#[]⟩)):=zg.setCell (p:=λb=>b=Bs) (zg.refl _ w1) 0 (.inl rfl) _;have HJ2:=hid (HJ.out.same iQ.out hF2);have vK:=hid (HK.out.set 0 (.string ⟨#[]⟩):zf (w1.setCell ⟨Bs,0,none⟩ (.string ⟨#[]⟩)) Bs #[.string ⟨#[]⟩] 9);obtain⟨fn,tmps,assign,body,hy,hR2⟩:=HY.out pre (t.extract a (zY t a)) #[.string R] _ (λb=>b=Bs) _ HL.out HJ2.out (λb hb=>by rw[hb];exact vK.out.lt) (by unfold DV;rw[yU.out])
    gi_wp2
    refine hR2.mono ?_;rintro e W' ⟨hk3,(⟨rfl,hJ3⟩|⟨rfl,hJx3⟩)⟩
    ·have Yr:zf W' Bs #[.string (t.extract (zY t a) t.size)] 9:=by
      rw[←HE2.out];exact(hk3.same Bs vK.out.lt (.inl rfl)).trans vK.out
     have hLn:Z8 t=(pre++ [(t.extract a (zY t a),#[Value.string R])]).map Prod.fst++qX t (t.size-zY t a) (zY t a):=by rw[HL.out];simp
     have VX:=hid hLn;have TU:=hid Yr;clear Yr hLn
     gi_wp2
     go_roundw
     case rel=>
      refine⟨zY t a,_,hgt.2,VX.out,TU.out,hJ3,λp hp=>?_⟩;rcases List.mem_append.1 hp with h|h
      ·exact iO.out p h
      ·rw[List.mem_singleton.1 h];exact congrArg (λx=> #[Value.string x]) yU.out
     case measure=>
      rw[show W'.cell? ⟨Bs,0,none⟩=some (.string (t.extract (zY t a) t.size))from TU.out.cell 0,hc0];show(t.extract (zY t a) t.size).size<R.size;rw[uX (waa _)];omega
    ·gi_wp2
     refine bodyPost_ret (results_none rfl _ _ _) rfl ?_;exact⟨⟨_,rfl⟩,.inr ⟨_,_,hJx3⟩⟩
  ·have hR0:t.extract a t.size=⟨#[]⟩:=by
    have h1:(t.extract a t.size).size=0:=by rw[uX (waa _)];omega
    exact ByteArray.ext (Array.eq_empty_of_size_eq_zero h1)
   rw[zmp hlt,List.append_nil]at hL;rw[hR0]at hc0;have HL:=hid hL;clear hix hnl iP hL hR0 kb
   gi_wp2
   go_end0
   refine⟨⟨_,rfl⟩,.inl ⟨pre,_,HL.out.symm,hj,λx vs h=>?_⟩⟩;exact iO.out (x,vs) (List.mem_of_getLast? h)
attribute [local go_sem] Oper.semAt_some
def zcT(d:Dl):List Value:=[.string d.word,.bool d.tabs]
def jy(l:List Dl):List Value:=l.flatMap zcT
theorem Qx(d:Dl)(l:List Dl):jy (d::l)=.string d.word::.bool d.tabs::jy l:=by
 unfold jy;rw[List.flatMap_cons];rfl
theorem zcU(l k:List Dl):jy (l++k)=jy l++jy k:=by unfold jy;rw[List.flatMap_append]
theorem iR(l:List Dl):∀v∈jy l,v.oneCell'=true:=by
 intro v hv;obtain⟨s,_,hs⟩:=List.mem_flatMap.1 hv;simp[zcT]at hs;rcases hs with rfl|rfl<;>rfl
def Vx(pre:List (ByteArray×Array Value)):Nat:=(pre.map λp=>p.1.size).sum
theorem zcV(pre:List (ByteArray×Array Value))(x:ByteArray)(vs:Array Value):Vx (pre++ [(x,vs)])=Vx pre+x.size:=by
 unfold Vx;simp
theorem zcW(t:ByteArray):∀(k a:Nat),a<=t.size->((qX t k a).map λx=>x.size).sum<=t.size-a
 |0,a,h=>by simp[qX]
 |k+1,a,h=>by
  unfold qX;by_cases ha:a<t.size
  ·rw[if_pos ha]
   have hg:=KL ha;have:=zcW t k (zY t a) hg.2;rw[List.map_cons,List.sum_cons,uX hg.2];omega
  ·rw[if_neg ha];simp
theorem zmB{t:ByteArray}{pre:List (ByteArray×Array Value)}{rest:List ByteArray}(h:Z8 t=pre.map Prod.fst++rest):Vx pre+(rest.map λx=>x.size).sum<=t.size:=by
 have h1:=zcW t t.size 0 (Nat.zero_le _);have h2:Z8 t=qX t t.size 0:=rfl;rw[←h2,h,List.map_append,List.sum_append]at h1;have h3:Vx pre=((pre.map Prod.fst).map λx=>x.size).sum:=by unfold Vx;rw[List.map_map];rfl
 omega
def Oc(t:ByteArray)(d:Dl)(pv:Value)(w:World)(z Bp Bn Be Bs:Nat)(pre:List (ByteArray×Array Value))(T:Nat->Prop)(W:World):Prop:=
 zf W Bp #[pv] 60/\zf W Bn #[.int .i64 ((Vx pre:Nat):Int)] 3/\zf W Be #[.bool false] 4/\(∀b,T b->b=Bs\/z+2<=b)/\z+2<=W.heap.size/\Below w.heap.size w W/\∀rest,Z8 t=pre.map Prod.fst++rest->Zp d (Z8 t) 0=Zp d rest (Vx pre)
def Oe(t:ByteArray)(d:Dl)(id:Nat)(w:World)(z Bn Be Bs:Nat)(c:Code)(pre:List (ByteArray×Array Value))(T:Nat->Prop)(W:World):Prop:=
 c=.exit id/\zf W Bn #[.int .i64 (((Zp d (Z8 t) 0).1:Nat):Int)] 3/\zf W Be #[.bool (Zp d (Z8 t) 0).2] 4/\(∀b,T b->b=Bs\/z+2<=b)/\z+2<=W.heap.size/\Below w.heap.size w W
theorem Oc.Ze{t:ByteArray}{d:Dl}{pv:Value}{w:World}{z Bp Bn Be Bs:Nat}(h1:Bp<Bs)(h2:Bn<Bs)(h3:Be<Bs)(hs:Bs<z)(hw:w.heap.size<=Bs):Yx (z+1) (Oc t d pv w z Bp Bn Be Bs):=by
 rintro pre T W W' T' ⟨k1,k2,k3,hT,hz,hB,hd⟩ hf hT';have no:∀b,b<Bs->¬(T b\/b=z+1):=λb hb hh=>by rcases hh with g|g;(rcases hT b g with e|e<;>omega);omega
 refine⟨k1.zh hf (no _ h1),k2.zh hf (no _ h2),k3.zh hf (no _ h3),λb hb=>?_,?_,?_,hd⟩
 ·rcases hT' b hb with e|e
  ·exact hT b e
  ·omega
 ·have:=hf.size;omega
 ·exact hB.trans ((hf.below (n:=w.heap.size) hB.size (λb hh=>by rcases hh with e|e;(rcases hT b e with g|g<;>omega);omega)))
theorem Oe.Ze{t:ByteArray}{d:Dl}{id:Nat}{w:World}{z Bn Be Bs:Nat}(h2:Bn<Bs)(h3:Be<Bs)(hs:Bs<z)(hw:w.heap.size<=Bs)(c:Code):Yx (z+1) (Oe t d id w z Bn Be Bs c):=by
 rintro pre T W W' T' ⟨rfl,k2,k3,hT,hz,hB⟩ hf hT';have no:∀b,b<Bs->¬(T b\/b=z+1):=λb hb hh=>by rcases hh with g|g;(rcases hT b g with e|e<;>omega);omega
 refine⟨rfl,k2.zh hf (no _ h2),k3.zh hf (no _ h3),λb hb=>?_,?_,?_⟩
 ·rcases hT' b hb with e|e
  ·exact hT b e
  ·omega
 ·have:=hf.size;omega
 ·exact hB.trans ((hf.below (n:=w.heap.size) hB.size (λb hh=>by rcases hh with e|e;(rcases hT b e with g|g<;>omega);omega)))
section
variable(w:World)
theorem zmC(t:ByteArray):Calls prog 157 #[.string t] w λe w'=>e=.returned (.func (.func 184) #[] #[.pointer (some ⟨w.heap.size,0,none⟩)])/\w'=w.alloc (.cells #[.string t] 9):=by
 go_enter func157,ntmps157;go_wp2;go_ret;exact⟨rfl,rfl⟩
theorem zmD(t:ByteArray)(ht:t.size<=1000000)(pv:Value)(pend:List Dl)(hS:Src w pv pend.length (jy pend))(hl:pend.length<=1000000):
  Calls prog 130 #[.string t,pv] w λe w'=>e=.returned (.tuple #[.int .i64 (((Z9 t pend).1:Nat):Int),.bool (Z9 t pend).2])/\Below w.heap.size w w':=by
 refine(callsIn_wide (n:=5)).1 ?_;have hfn:Fence.wide.fn 130:=trivial;have b1:=((zf.new w #[pv] 60).alloc (.cells #[.int .i64 0] 3)).alloc (.cells #[.bool false] 4);have b2:=(zf.new (w.alloc (.cells #[pv] 60)) #[.int .i64 0] 3).alloc (.cells #[.bool false] 4);have b3:=zf.new ((w.alloc (.cells #[pv] 60)).alloc (.cells #[.int .i64 0] 3)) #[.bool false] 4;have hB0:Below w.heap.size w (((w.alloc (.cells #[pv] 60)).alloc (.cells #[.int .i64 0] 3)).alloc (.cells #[.bool false] 4)):=(((wag _ w).alloc (waa _) _).alloc (by simp) _).alloc (by simp;omega) _;have hz0:(((w.alloc (.cells #[pv] 60)).alloc (.cells #[.int .i64 0] 3)).alloc (.cells #[.bool false] 4)).heap.size=w.heap.size+3:=by simp
 simp only[waf]at b2 b3;refine callsIn_of_wp_marks func130 rfl hfn ?_ rfl;refine(wpIn_wide (n:=5)).2 ?_;simp only[ntmps130,List.size_toArray,List.length_cons,List.length_nil,Nat.reduceAdd,Nat.reduceSub,Array.replicate_succ,Array.replicate_zero,List.push_toArray,List.append_toArray,List.nil_append,List.cons_append]
 cases pend with
 |nil=>
  obtain⟨oa,c,rfl⟩:∃oa c,pv=.slice oa 0 c:=by
   rcases hS with⟨h,_,_⟩|⟨b,off,c,h,_⟩
   ·exact⟨none,0,h⟩
   ·exact⟨_,c,h⟩
  have hdn:Z9 t []=(t.size,false):=rfl;rw[hdn];dsimp only;have c1:=b1.cell 0;have c2:=b2.cell 0;have c3:=b3.cell 0;have f2:=b2.frozen 0;have f3:=b3.frozen 0;clear hS hdn hl;go_wp2;obtain⟨W0,hW0⟩:∃X,((w.alloc (.cells #[.slice oa 0 c] 60)).alloc (.cells #[.int .i64 0] 3)).alloc (.cells #[.bool false] 4)=X:=⟨_,rfl⟩;rw[hW0]at b1 b2 b3 hB0 hz0 c1 c2 c3 f2 f3 ⊢;clear hW0;obtain⟨Bp,h1⟩:∃x,w.heap.size=x:=⟨_,rfl⟩;have H1:=hid h1;rw[h1]at b1 b2 b3 hz0 c1 c2 c3 f2 f3 ⊢;obtain⟨Bn,h2⟩:∃x,Bp+1=x:=⟨_,rfl⟩;rw[h2]at b2 b3 c2 c3 f2 f3 ⊢;obtain⟨Be,h3⟩:∃x,Bn+1=x:=⟨_,rfl⟩;rw[h3]at b3 c3 f3 ⊢;have hall:Bp<Bn/\Bn<Be:=by omega
  have hne:Bn≠Be:=by omega
  have hne2:Be≠Bn:=by omega
  clear h1 h2 h3;have g4:=((b2.set 0 (.int .i64 (t.size:Int))).other 0 (.bool false) hne).cell 0;have g5:=((b3.other 0 (.int .i64 (t.size:Int)) hne2).set 0 (.bool false)).cell 0;have hF2:zg (λx=>x=Bn\/x=Be) W0 ((W0.setCell ⟨Bn,0,none⟩ (.int .i64 (t.size:Int))).setCell ⟨Be,0,none⟩ (.bool false)):=
   zg.setCell (p:=λx=>x=Bn\/x=Be) (zg.setCell (p:=λx=>x=Bn\/x=Be) (zg.refl _ W0) 0 (.inl (.inl rfl)) _) 0 (.inl (.inr rfl)) _
  have gB:=hB0.trans (hF2.below hB0.size (λx hx=>by have:=H1.out;omega))
  go_step3
  go_wp2;rw[Exit.noGoto_ret];refine⟨.tuple #[.int .i64 (t.size:Int),.bool false],?_,rfl,gB⟩;simp[results,Tryz.f130,go_sem,g4,g5]
 |cons d ds=>
  obtain⟨b,off,c,hpv,hbl,hcell⟩:∃b off c,pv=.slice (some ⟨b,off,none⟩) (ds.length+1) c/\b<w.heap.size/\∀j u,(jy (d::ds))[j]?=some u->w.cell? ⟨b,off+j,none⟩=some u:=by
   rcases hS with⟨_,h,_⟩|h
   ·cases h
   ·exact h
  have d0:=hcell 0 (.string d.word) (by rw[Qx];rfl);have d1:=hcell 1 (.bool d.tabs) (by rw[Qx];rfl);rw[Nat.add_zero]at d0;have hdn:Z9 t (d::ds)=Zp d (Z8 t) 0:=rfl;rw[hdn];obtain⟨N,hN⟩:∃N,(Zp d (Z8 t) 0).1=N:=⟨_,rfl⟩;obtain⟨B,hB2⟩:∃B,(Zp d (Z8 t) 0).2=B:=⟨_,rfl⟩;rw[hN,hB2];have HN:=hid hN;have Va:=hid hB2;clear hN hB2;obtain⟨m,hm⟩:∃m,ds.length+1=m:=⟨_,rfl⟩;have hm0:((m:Int)==0)=false:=beq_eq_false_iff_ne.2 (by omega);rw[hm]at hpv;subst hpv;have c1:=b1.cell 0;have HM:=hid hm;clear hS hcell hdn hm hl;have f1:=b1.frozen 0;go_wp2;obtain⟨W0,hW0⟩:∃X,((w.alloc (.cells #[.slice (some ⟨b,off,none⟩) m c] 60)).alloc (.cells #[.int .i64 0] 3)).alloc (.cells #[.bool false] 4)=X:=⟨_,rfl⟩;rw[hW0]at b1 b2 b3 hB0 hz0 c1 f1 ⊢;clear hW0;obtain⟨Bp,h1⟩:∃x,w.heap.size=x:=⟨_,rfl⟩;have H1:=hid h1;rw[h1]at b1 b2 b3 hz0 c1 f1 hbl ⊢;obtain⟨Bn,h2⟩:∃x,Bp+1=x:=⟨_,rfl⟩;rw[h2]at b2 b3 ⊢;obtain⟨Be,h3⟩:∃x,Bn+1=x:=⟨_,rfl⟩;rw[h3]at b3 ⊢;have d0':W0.cell? ⟨b,off,none⟩=some (.string d.word):=(hB0.cell (p:=⟨b,off,none⟩) (by show b<w.heap.size;have:=H1.out;omega)).trans d0
  go_step3
  go_wp2
  go_step3
  go_wp2_with fail
  refine(zmC _ t).mono ?_;rintro en W1 ⟨rfl,hW1⟩;have kB:zf W1 W0.heap.size #[.string t] 9:=by rw[hW1];exact zf.new W0 _ _
  have hB1:Below W0.heap.size W0 W1:=by rw[hW1];exact(wag _ _).alloc (waa _) _
  have hz1:W1.heap.size=W0.heap.size+1:=by rw[hW1];simp
  have hBw:Below w.heap.size w W1:=hB0.trans (hB1.mono hB0.size);obtain⟨Bs,hBs⟩:∃x,W0.heap.size=x:=⟨_,rfl⟩;have k1:=b1.below hB1;have k2:=b2.below hB1;have k3:=b3.below hB1;rw[hBs]at kB hz1 ⊢;have hord:Bp<Bs/\Bn<Bs/\Be<Bs/\Bs<W1.heap.size/\w.heap.size<=Bs:=by have:=H1.out;omega
  have hall:Bp<Bn/\Bn<Be:=by omega
  have hseq:∀W,Below W1.heap.size W1 W->TT (5-1) prog 184 #[.pointer (some ⟨Bs,0,none⟩)] DV (λ_=>False) (λb=>b=Bs) (Z8 t) W:=λW hW=>zmA 4 (by omega) t ht Bs W (kB.below hW);have HZ1:=hid hz1;have Jo:=hid hseq;have HD0:=hid d0;have HD1:=hid d1;clear hz1 hW1 hseq b1 b2 b3 hB0 hB1 hz0 c1 f1 h1 h2 h3 d0' hBs d0 d1;go_wp2;refine(wpIn_wide (n:=5)).1 (zcR (L:=Z8 t) (E:=DV) (C:=λ_=>False) (T0:=λb=>b=Bs) (gf:=184) (lb:=#[.pointer (some ⟨Bs,0,none⟩)]) rfl (enters_of func184 (by kernel_rfl) rfl) Jo.out (λb hb=>hb.elim) (λb hb=>by rw[hb];exact hord.2.2.2.1) ?hps ?hE
   (Oc t d (.slice (some ⟨b,off,none⟩) m c) w W1.heap.size Bp Bn Be Bs) (Oe t d 0 w W1.heap.size Bn Be Bs) (Oc.Ze hord.1 hord.2.1 hord.2.2.1 hord.2.2.2.1 hord.2.2.2.2) (Oe.Ze hord.2.1 hord.2.2.1 hord.2.2.2.1 hord.2.2.2.2) ?start ?round ?fin ?stop)
  case hps=>intro x T W vs h;rw[h];rfl
  case hE=>intro x T W W' vs h _ _;exact h
  case start=>
   intro W hB hz;exact⟨k1.below hB,k2.below hB,k3.below hB,λb hb=> .inl hb,by omega,hBw.trans (hB.mono hBw.size),λrest h=>by rw[show Z8 t=rest from h];rfl⟩
  case fin=>
   rintro kH T W hmap ⟨k1,k2,k3,hT,Xy,hB,hd⟩ hlast Vd hWd;have hdn:=hd [] (by rw[hmap,List.append_nil]);have hd1:(Zp d (Z8 t) 0).1=Vx kH:=by rw[hdn];rfl
   have hd2:(Zp d (Z8 t) 0).2=false:=by rw[hdn];rfl
   rw[←hd1]at k2;rw[←hd2]at k3;rw[HN.out]at k2;rw[Va.out]at k3;have c2:=k2.cell 0;have c3:=k3.cell 0;have f2:=k2.frozen 0;have f3:=k3.frozen 0;have hne:Bn≠Be:=by omega
   have hne2:Be≠Bn:=by omega
   clear hd1 hd2 hdn hd;dsimp only;go_wp2
   go_region
   go_wp2;have hF2:zg (λx=>x=Bn\/x=Be) W (((W.setCell ⟨Bn,0,none⟩ (.int .i64 (N:Int))).setCell ⟨Be,0,none⟩ (.bool B)).drew):=
    (zg.setCell (p:=λx=>x=Bn\/x=Be) (zg.setCell (p:=λx=>x=Bn\/x=Be) (zg.refl _ W) 0 (.inl (.inl rfl)) _) 0 (.inl (.inr rfl)) _).drew
   have g4:=((k2.set 0 (.int .i64 (N:Int))).other 0 (.bool B) hne).drew.cell 0;have g5:=((k3.other 0 (.int .i64 (N:Int)) hne2).set 0 (.bool B)).drew.cell 0;have gB:Below w.heap.size w (((W.setCell ⟨Bn,0,none⟩ (.int .i64 (N:Int))).setCell ⟨Be,0,none⟩ (.bool B)).drew):=hB.trans (hF2.below (by have:=hB.size;omega) (λx hx=>by have:=H1.out;rcases hx with rfl|rfl<;>omega));have Qy:(((W.setCell ⟨Bn,0,none⟩ (.int .i64 (N:Int))).setCell ⟨Be,0,none⟩ (.bool B)).drew).heap[W1.heap.size]?=some (.deferred (some [])):=(hF2.block _ (waj.1 hWd).1 (λh=>by rcases h with h|h<;>omega)).trans hWd;obtain⟨W5,Zg⟩:∃X,((W.setCell ⟨Bn,0,none⟩ (.int .i64 (N:Int))).setCell ⟨Be,0,none⟩ (.bool B)).drew=X:=⟨_,rfl⟩;rw[Zg]at Qy gB g4 g5 ⊢;rw[Exit.noGoto_ret];refine⟨by simp,.inl ⟨_,_,rfl,run_takeDeferred Qy,?_⟩⟩;have hc0:=cell_kept g4 (grownBy_putObj' _ W1.heap.size (.deferred none)) (λr e=>by cases e;exact⟨_,Qy,rfl⟩);have hc1:=cell_kept g5 (grownBy_putObj' _ W1.heap.size (.deferred none)) (λr e=>by cases e;exact⟨_,Qy,rfl⟩);refine⟨.tuple #[.int .i64 (N:Int),.bool B],?_,rfl,?_⟩
   ·simp[results,Tryz.f130,go_sem,hc0,hc1]
   ·exact gB.trans (belowK_b (w:=w) (waa _) W5 W1.heap.size _ _ (by omega) Qy rfl rfl)
  case stop=>
   rintro c pre T W ⟨rfl,k2,k3,hT,Xy,hB⟩ Vd hWd;rw[HN.out]at k2;rw[Va.out]at k3;have c2:=k2.cell 0;have c3:=k3.cell 0;have f2:=k2.frozen 0;have f3:=k3.frozen 0;have hne:Bn≠Be:=by omega
   have hne2:Be≠Bn:=by omega
   gi_wp2
   go_wp2
   go_region
   go_wp2;have hF2:zg (λx=>x=Bn\/x=Be) W (((W.setCell ⟨Bn,0,none⟩ (.int .i64 (N:Int))).setCell ⟨Be,0,none⟩ (.bool B)).drew):=
    (zg.setCell (p:=λx=>x=Bn\/x=Be) (zg.setCell (p:=λx=>x=Bn\/x=Be) (zg.refl _ W) 0 (.inl (.inl rfl)) _) 0 (.inl (.inr rfl)) _).drew
   have g4:=((k2.set 0 (.int .i64 (N:Int))).other 0 (.bool B) hne).drew.cell 0;have g5:=((k3.other 0 (.int .i64 (N:Int)) hne2).set 0 (.bool B)).drew.cell 0;have gB:Below w.heap.size w (((W.setCell ⟨Bn,0,none⟩ (.int .i64 (N:Int))).setCell ⟨Be,0,none⟩ (.bool B)).drew):=hB.trans (hF2.below (by have:=hB.size;omega) (λx hx=>by have:=H1.out;rcases hx with rfl|rfl<;>omega));have Qy:(((W.setCell ⟨Bn,0,none⟩ (.int .i64 (N:Int))).setCell ⟨Be,0,none⟩ (.bool B)).drew).heap[W1.heap.size]?=some (.deferred (some [])):=(hF2.block _ (waj.1 hWd).1 (λh=>by rcases h with h|h<;>omega)).trans hWd;obtain⟨W5,Zg⟩:∃X,((W.setCell ⟨Bn,0,none⟩ (.int .i64 (N:Int))).setCell ⟨Be,0,none⟩ (.bool B)).drew=X:=⟨_,rfl⟩;rw[Zg]at Qy gB g4 g5 ⊢;rw[Exit.noGoto_ret];refine⟨by simp,.inl ⟨_,_,rfl,run_takeDeferred Qy,?_⟩⟩;have hc0:=cell_kept g4 (grownBy_putObj' _ W1.heap.size (.deferred none)) (λr e=>by cases e;exact⟨_,Qy,rfl⟩);have hc1:=cell_kept g5 (grownBy_putObj' _ W1.heap.size (.deferred none)) (λr e=>by cases e;exact⟨_,Qy,rfl⟩);refine⟨.tuple #[.int .i64 (N:Int),.bool B],?_,rfl,?_⟩
   ·simp[results,Tryz.f130,go_sem,hc0,hc1]
   ·exact gB.trans (belowK_b (w:=w) (waa _) W5 W1.heap.size _ _ (by omega) Qy rfl rfl)
  case round=>
   rintro pre x vs rest T W hLx ⟨k1,k2,k3,hT,Xy,hB,hd⟩ Rh jG Vd hrec hdef t1 t2;unfold DV at Rh;subst Rh;have hxz:Vx pre+x.size<=1000000:=by
    have:=zmB hLx;rw[List.map_cons,List.sum_cons]at this;omega
   have hx:=hd (x::rest) hLx;have hdl:Zp d (x::rest) (Vx pre)=if Vw x d=true then(Vx pre+x.size,true)else Zp d rest (Vx pre+x.size):=rfl
   rw[hdl]at hx
   gi_wp2
   refine⟨trivial,trivial,zO.refl _ _ _,λr=>?_⟩;obtain⟨W3,hW3⟩:∃X,W.putObj (W1.heap.size+1) (.loop r)=X:=⟨_,rfl⟩;have hF3:zg (λx=>x=W1.heap.size+1) W W3:=by rw[←hW3];exact jA (p:=λx=>x=W1.heap.size+1) W _ rfl
   have z3:W3.heap.size=W.heap.size:=by rw[←hW3];simp
   rw[hW3];clear hW3 hrec hdef hdl;have m1:=k1.zh hF3 (by omega);have m2:=k2.zh hF3 (by omega);have m3:=k3.zh hF3 (by omega);have hB3:Below w.heap.size w W3:=hB.trans (hF3.below hB.size (λx hx=>by omega));have e0:W3.cell? ⟨b,off,none⟩=some (.string d.word):=(hB3.cell (p:=⟨b,off,none⟩) (by show b<w.heap.size;have:=H1.out;omega)).trans HD0.out;have e1:W3.cell? ⟨b,off+1,none⟩=some (.bool d.tabs):=(hB3.cell (p:=⟨b,off+1,none⟩) (by show b<w.heap.size;have:=H1.out;omega)).trans HD1.out;obtain⟨S,hS⟩:∃S,Vx pre=S:=⟨_,rfl⟩;obtain⟨S2,hS2⟩:∃S2,S+x.size=S2:=⟨_,rfl⟩;rw[hS]at m2 hxz hx;rw[hS2]at hxz hx;have c1:=m1.cell 0;have c2:=m2.cell 0;have f2:=m2.frozen 0;have c3:=m3.cell 0;have f3:=m3.frozen 0;have q1:IntKind.i64.wrap ((S:Int)+(x.size:Int))=(S2:Int):=by rw[IntWalk.i64_in _ (by omega)];omega
   obtain⟨y,hy⟩:∃y,Vw x d=y:=⟨_,rfl⟩;have hdm:=λW=>zmy W x d (by omega);rw[hy]at hdm hx;have HDM:=hid (λW=>CallsIn.inRound (W1.heap.size+1) ((callsIn_wide (n:=5-1-1-1)).2 (hdm W)));have HX:=hid hx;have HS:=hid hS;have HS2:=hid hS2;have Di:=hid hLx;have zoW:Bn≠Bp:=by omega
   have zoX:Bp≠Bn:=by omega
   have zoY:(0:Int)<(m:Int):=by have:=HM.out;omega
   have h11:1<=5-1-1:=by omega
   clear hx hd hdm hy hS hS2 hLx k1 k2 k3;have jh:zg (λx=>x=Bn) W3 (W3.setCell ⟨Bn,0,none⟩ (.int .i64 (S2:Int))):=zg.setCell (p:=λx=>x=Bn) (zg.refl _ W3) 0 (.inl rfl) _;have n2:=m2.set 0 (.int .i64 (S2:Int));have n3:=m3.zh jh (by omega);have n1:=m1.zh jh (by omega);have nc1:=n1.cell 0;have ne0:(W3.setCell ⟨Bn,0,none⟩ (.int .i64 (S2:Int))).cell? ⟨b,off,none⟩=some (.string d.word):=(jh.cell (a:=⟨b,off,none⟩) (by show b<W3.heap.size;have:=hB3.size;have:=H1.out;omega) (by show ¬b=Bn;omega)).trans e0;have ne1:(W3.setCell ⟨Bn,0,none⟩ (.int .i64 (S2:Int))).cell? ⟨b,off+1,none⟩=some (.bool d.tabs):=(jh.cell (a:=⟨b,off+1,none⟩) (by show b<W3.heap.size;have:=hB3.size;have:=H1.out;omega) (by show ¬b=Bn;omega)).trans e1;have N1:=hid n1;have N2:=hid n2;have N3:=hid n3;clear n1 n2 n3
   gi_wp2_with fail
   refine⟨trivial,(HDM.out _).mono ?_⟩;rintro en W6 ⟨rfl,Zx⟩;have ZW:=jh.size;have p1:=N1.out.below Zx;have p2:=N2.out.below Zx;have p3:=N3.out.below Zx;have cc3:=p3.cell 0;have ff3:=p3.frozen 0;have hs6:=Zx.size;have gG:zg (λx=>x=Be) W6 (W6.setCell ⟨Be,0,none⟩ (.bool y)):=zg.setCell (p:=λx=>x=Be) (zg.refl _ W6) 0 (.inl rfl) _;have TV:zg (λx=>x=Bn\/x=Be) W3 (W6.setCell ⟨Be,0,none⟩ (.bool y)):=
    ((jh.mono (q:=λx=>x=Bn\/x=Be) (λ_ _ h=> .inl h)).trans (zg.of_below (p:=λx=>x=Bn\/x=Be) Zx) (λ_ _ h=>h)).trans (gG.mono (q:=λx=>x=Bn\/x=Be) (λ_ _ h=> .inr h)) (λ_ _ h=>h)
   have r1:=p1.zh gG (by omega);have r2:=p2.zh gG (by omega);have r3:=p3.set 0 (.bool y);have g1:=TV.block (W1.heap.size+1) (by omega) (by omega);have g2:=TV.block W1.heap.size (by omega) (by omega);have hBA:Below w.heap.size w (W6.setCell ⟨Be,0,none⟩ (.bool y)):=hB3.trans (TV.below hB3.size (λx hx=>by have:=H1.out;omega));have hK:zO (λ_=>False) T W3 (W6.setCell ⟨Be,0,none⟩ (.bool y)):=zO.RQ TV (λx _ hx=>⟨λht=>by rcases hT x ht with e|e<;>omega,λh=>h⟩);have hsA:=TV.size;have cy:=r3.cell 0;have R1:=hid r1;have R2:=hid r2;have R3:=hid r3;have G1:=hid g1;have G2:=hid g2;have HK:=hid hK;have WS:=hid hBA;have HY:Hid (y=y):=hid rfl;clear r1 r2 r3 g1 g2 hK hBA
   cases y with
   |true=>
    gi_wp2
    refine⟨G1.out,G2.out,HK.out,rfl,?_,?_,hT,?_,WS.out⟩
    ·rw[HX.out,if_pos trivial];exact R2.out
    ·rw[HX.out,if_pos trivial];exact R3.out
    ·omega
   |false=>
    gi_wp2
    refine⟨G1.out,G2.out,HK.out,R1.out,?_,R3.out,hT,by omega,WS.out,λrest' h=>?_⟩
    ·rw[zcV,HS.out,HS2.out];exact R2.out
    ·have hr:rest'=rest:=by
      have h1:=Di.out.symm.trans h;rw[List.map_append,List.append_assoc]at h1;have h2:=List.append_cancel_left h1;simpa using h2.symm
     rw[hr,HX.out,if_neg (by decide),zcV,HS.out,HS2.out]
end
open Go.RowKit
theorem iT:(prog.info? 105).map (λi=>(i.zero,i.size,i.bytes))=some (some (.agg #[.string ⟨#[]⟩,.bool false]),2,24):=by kernel_rfl
def xw(t:Tk):Value:=.agg #[.int .i64 (t.kind:Int),.int .i64 (t.zh:Int),.int .i64 (t.en:Int),.bool t.op]
def zM(x:Lx)(pv:Value):Value:=.agg #[.int .i64 (x.await:Int),pv,.bool x.body]
structure ug(W:World)(pv:Value)(x:Lx):Prop where
 src:Src W pv x.pend.length (jy x.pend)
 own:x.body=false->W.ownsRow 1 105 2 pv x.pend.length (jy x.pend)
 pos:∀g,pv.ownBlock=some g->1<=g/\g<W.heap.size
 cap:∃oa c,pv=.slice oa x.pend.length c/\x.pend.length<=c
theorem ug.zero(W:World):ug W (.slice none 0 0) Lx.zero:=⟨.inl ⟨rfl,rfl,rfl⟩,λ_=>World.ownsRow_nil _ _ _ _,λg h=>(by cases h),⟨none,0,rfl,waa _⟩⟩
theorem ug.zh{p:Nat->Prop}{W W':World}{pv:Value}{x:Lx}(h:ug W pv x)(hf:zg p W W')(hp:∀g,pv.ownBlock=some g->¬p g):ug W' pv x:=
 ⟨h.src.zh hf hp,λhb=>xq hf (h.own hb) hp,λg hg=>⟨(h.pos g hg).1,Nat.lt_of_lt_of_le (h.pos g hg).2 hf.size⟩,h.cap⟩
theorem ug.below{W W':World}{pv:Value}{x:Lx}(h:ug W pv x)(hb:Below W.heap.size W W'):ug W' pv x:=h.zh (zg.of_below (p:=λ_=>False) hb) (λ_ _ h=>h)
theorem ug.same{W:World}{pv:Value}{x y:Lx}(h:ug W pv x)(hp:y.pend=x.pend)(hb:y.body=false->x.body=false):ug W pv y:=by
 obtain⟨h1,h2,h3,h4⟩:=h;rw[←hp]at h1 h2 h4;exact⟨h1,λe=>h2 (hb e),h3,h4⟩
section
variable(w:World)
theorem zmE(t:ByteArray)(hs:t.size<=1000000)(hT:Tx w):
  Calls prog 134 #[.string t] w λe w'=>e=.returned (.int .i64 (((if vI t=4\/vI t=5 then vI t else 0:Nat)):Int))/\Below w.heap.size w w':=by
 have hof:=iF t w hs hT;obtain⟨o,ho⟩:∃o,vI t=o:=⟨_,rfl⟩;rw[ho]at hof ⊢;have lH:=hid hof;clear hof ho;by_cases h4:o=4
 ·subst h4
  go_enter func134,ntmps134
  go_wp2_with fail
  refine(lH.out).mono ?_;rintro e w1 ⟨rfl,hB⟩;go_wp2;go_ret;exact⟨rfl,hB.below⟩
 ·by_cases h5:o=5
  ·subst h5
   go_enter func134,ntmps134
   go_wp2_with fail
   refine(lH.out).mono ?_;rintro e w1 ⟨rfl,hB⟩;go_wp2;go_ret;exact⟨rfl,hB.below⟩
  ·rw[if_neg (by omega)]
   have t1:((o:Int)==4)=false:=beq_eq_false_iff_ne.2 (by omega);have t2:((o:Int)==5)=false:=beq_eq_false_iff_ne.2 (by omega);clear h4 h5;go_enter func134,ntmps134
   go_wp2_with fail
   refine(lH.out).mono ?_;rintro e w1 ⟨rfl,hB⟩;go_wp2;go_ret;exact⟨rfl,hB.below⟩
theorem ug.tail{W:World}{d:Dl}{ds:List Dl}{aw aw2:Nat}{b off c:Nat}(h:ug W (.slice (some ⟨b,off,none⟩) (ds.length+1) c) ⟨aw,d::ds,true⟩)(hne:ds≠ []):ug W (.slice (some ⟨b,off+2,none⟩) ds.length (c-1)) ⟨aw2,ds,true⟩:=by
 obtain⟨oa,c',e,hc⟩:=h.cap;have hl:(d::ds).length=ds.length+1:=rfl;rw[show(⟨aw,d::ds,true⟩:Lx).pend.length=ds.length+1 from rfl]at e hc;injection e with e1 e2 e3;subst e3;refine⟨?_,λh=>(by cases h),λg hg=>?_,⟨_,_,rfl,by show ds.length<=c-1;omega⟩⟩
 ·rcases h.src with⟨_,h1,_⟩|⟨b2,zcX,c2,e4,h2,h3⟩
  ·cases h1
  ·injection e4 with e5
   injection e5 with e6;injection e6 with e7 e8;subst e7 e8;refine .inr ⟨b,off+2,_,rfl,h2,λj u hj=>?_⟩;have:=h3 (j+2) u (by
    show(jy (d::ds))[j+2]?=_;rw[Qx];simpa using hj)
   rw[show off+2+j=off+(j+2) by omega];exact this
 ·exact h.pos g hg
theorem KN(W:World)(o o':Obj):Below W.heap.size W ((W.alloc o).alloc o'):=((wag _ _).alloc (waa _) _).alloc (by simp) _
theorem kJ(W:World)(o:Obj)(cs:Array Value)(ty:TypeId):zf ((W.alloc o).alloc (.cells cs ty)) (W.heap.size+1) cs ty:=by
 have:=zf.new (W.alloc o) cs ty
 rwa [waf]at this
theorem zmF(x:Lx)(oa:Option Addr)(n c:Nat):
  Calls prog 133 #[zM x (.slice oa n c),.bool true] w λe w'=>e=.returned (zM x (.slice oa n c))/\Below w.heap.size w w':=by
 unfold zM;have kb:=(zf.new w #[.int .i64 (x.await:Int),.slice oa n c,.bool x.body] 62).alloc (.cells #[.int .i64 0,.slice none 0 0,.bool false] 62);have kr:=zf.new (w.alloc (.cells #[.int .i64 (x.await:Int),.slice oa n c,.bool x.body] 62)) #[.int .i64 0,.slice none 0 0,.bool false] 62;rw[waf]at kr;have hB:=((wag _ w).alloc (waa _) (.cells #[.int .i64 (x.await:Int),.slice oa n c,.bool x.body] 62)).alloc (by simp) (.cells #[.int .i64 0,.slice none 0 0,.bool false] 62);have a0:=kb.cell 0;have a1:=kb.cell 1;have a2:=kb.cell 2;have b0:=kb.frozen 0;have b1:=kb.frozen 1;have b2:=kb.frozen 2;have r0:=kr.cell 0;have r1:=kr.cell 1;have r2:=kr.cell 2;have g0:=kr.frozen 0;have g1:=kr.frozen 1;have g2:=kr.frozen 2;go_enter func133,ntmps133;go_wp2;have k:=kJ w (.cells #[.int .i64 (x.await:Int),.slice oa n c,.bool x.body] 62) #[.int .i64 (x.await:Int),.slice oa n c,.bool x.body] 62;have h0:=k.cell 0;have h1:=k.cell 1;have h2:=k.cell 2;refine bodyPost_ret (v:=.agg #[.int .i64 (x.await:Int),.slice oa n c,.bool x.body]) (by simp[results,results133,go_sem,h0,h1,h2]) rfl ?_;exact⟨rfl,KN _ _ _⟩
theorem zmG(aw b off c:Nat)(hc:1<=c):
  Calls prog 133 #[.agg #[.int .i64 (aw:Int),.slice (some ⟨b,off,none⟩) 1 c,.bool true],.bool false] w λe w'=>e=.returned (.agg #[.int .i64 (aw:Int),.slice none 0 0,.bool false])/\Below w.heap.size w w':=by
 have kb:=(zf.new w #[.int .i64 (aw:Int),.slice (some ⟨b,off,none⟩) 1 c,.bool true] 62).alloc (.cells #[.int .i64 0,.slice none 0 0,.bool false] 62);have kr:=zf.new (w.alloc (.cells #[.int .i64 (aw:Int),.slice (some ⟨b,off,none⟩) 1 c,.bool true] 62)) #[.int .i64 0,.slice none 0 0,.bool false] 62;rw[waf]at kr;have hB:=((wag _ w).alloc (waa _) (.cells #[.int .i64 (aw:Int),.slice (some ⟨b,off,none⟩) 1 c,.bool true] 62)).alloc (by simp) (.cells #[.int .i64 0,.slice none 0 0,.bool false] 62);have a0:=kb.cell 0;have a1:=kb.cell 1;have a2:=kb.cell 2;have b0:=kb.frozen 0;have b1:=kb.frozen 1;have b2:=kb.frozen 2;have r0:=kr.cell 0;have r1:=kr.cell 1;have r2:=kr.cell 2;have g0:=kr.frozen 0;have g1:=kr.frozen 1;have g2:=kr.frozen 2;have q1:(1:Int)<=(c:Int):=by omega
 go_enter func133,ntmps133;go_wp2
 all_goals
  have k:=λo=>kJ w o #[.int .i64 (aw:Int),.slice none 0 0,.bool false] 62;have h0:=λo=>(k o).cell 0;have h1:=λo=>(k o).cell 1;have h2:=λo=>(k o).cell 2;refine bodyPost_ret (v:=.agg #[.int .i64 (aw:Int),.slice none 0 0,.bool false]) (by simp[results,results133,go_sem,h0,h1,h2]) rfl ?_;exact⟨rfl,KN _ _ _⟩
theorem zmH(aw b off n c:Nat)(hn:2<=n)(hc:n<=c):
  Calls prog 133 #[.agg #[.int .i64 (aw:Int),.slice (some ⟨b,off,none⟩) n c,.bool true],.bool false] w λe w'=>e=.returned (.agg #[.int .i64 (aw:Int),.slice (some ⟨b,off+2,none⟩) (n-1) (c-1),.bool true])/\Below w.heap.size w w':=by
 have kb:=(zf.new w #[.int .i64 (aw:Int),.slice (some ⟨b,off,none⟩) n c,.bool true] 62).alloc (.cells #[.int .i64 0,.slice none 0 0,.bool false] 62);have kr:=zf.new (w.alloc (.cells #[.int .i64 (aw:Int),.slice (some ⟨b,off,none⟩) n c,.bool true] 62)) #[.int .i64 0,.slice none 0 0,.bool false] 62;rw[waf]at kr;have hB:=((wag _ w).alloc (waa _) (.cells #[.int .i64 (aw:Int),.slice (some ⟨b,off,none⟩) n c,.bool true] 62)).alloc (by simp) (.cells #[.int .i64 0,.slice none 0 0,.bool false] 62);have a0:=kb.cell 0;have a1:=kb.cell 1;have a2:=kb.cell 2;have b0:=kb.frozen 0;have b1:=kb.frozen 1;have b2:=kb.frozen 2;have r0:=kr.cell 0;have r1:=kr.cell 1;have r2:=kr.cell 2;have g0:=kr.frozen 0;have g1:=kr.frozen 1;have g2:=kr.frozen 2;have q1:(1:Int)<=(n:Int):=by omega
 have q2:(n:Int)<=(c:Int):=by omega
 go_enter func133,ntmps133;go_wp2
 all_goals
  have k:=λo=>kJ w o #[.int .i64 (aw:Int),.slice (some ⟨b,off+2,none⟩) (n-1) (c-1),.bool true] 62;have h0:=λo=>(k o).cell 0;have h1:=λo=>(k o).cell 1;have h2:=λo=>(k o).cell 2;refine bodyPost_ret (v:=.agg #[.int .i64 (aw:Int),.slice (some ⟨b,off+2,none⟩) (n-1) (c-1),.bool true]) (by simp[results,results133,go_sem,h0,h1,h2]) rfl ?_;exact⟨rfl,KN _ _ _⟩
end
def qM(w w':World)(oa:Option Addr)(n c:Nat)(y:Lx)(e:Ending):Prop:=∃xC n' c',e=.returned (zM y (.slice xC n' c'))/\ug w' (.slice xC n' c') y/\zg (λb=>(Value.slice oa n c).ownBlock=some b) w w'/\∀g,(Value.slice xC n' c').ownBlock=some g->(Value.slice oa n c).ownBlock=some g\/w.heap.size<=g
theorem qM.same{w w':World}{oa:Option Addr}{n c:Nat}{x y:Lx}(hM:ug w (.slice oa n c) x)(hB:Below w.heap.size w w')(hp:y.pend=x.pend)(hb:y.body=false->x.body=false):qM w w' oa n c y (.returned (zM y (.slice oa n c))):=
 ⟨oa,n,c,rfl,(hM.below hB).same hp hb,zg.of_below hB,λg h=> .inl h⟩
theorem qZ(W:World)(o o2:Obj)(cs:Array Value)(ty:TypeId):zf (((W.alloc o).alloc o2).alloc (.cells cs ty)) (W.heap.size+1+1) cs ty:=by
 have:=zf.new ((W.alloc o).alloc o2) cs ty
 rwa [waf,waf]at this
theorem X5(W:World)(o o' o2:Obj):Below W.heap.size W (((W.alloc o).alloc o').alloc o2):=(((wag _ _).alloc (waa _) _).alloc (by simp) _).alloc (by simp;omega) _
section
variable(w:World)(x:Lx)(oa:Option Addr)(n c:Nat)(hM:ug w (.slice oa n c) x)(f e:Nat)(op:Bool)(text:ByteArray)
include hM
theorem zmI:
  Calls prog 110 #[zM x (.slice oa n c),xw ⟨1,f,e,op⟩,.string text] w λe' w'=>qM w w' oa n c x e':=by
 unfold xw;have kb:=((zf.new w #[.int .i64 (x.await:Int),.slice oa n c,.bool x.body] 62).alloc (.cells #[.int .i64 1,.int .i64 (f:Int),.int .i64 (e:Int),.bool op] 67)).alloc (.cells #[.int .i64 0,.slice none 0 0,.bool false] 62);have kt:=(kJ w (.cells #[.int .i64 (x.await:Int),.slice oa n c,.bool x.body] 62) #[.int .i64 1,.int .i64 (f:Int),.int .i64 (e:Int),.bool op] 67).alloc (.cells #[.int .i64 0,.slice none 0 0,.bool false] 62);have kr:=qZ w (.cells #[.int .i64 (x.await:Int),.slice oa n c,.bool x.body] 62) (.cells #[.int .i64 1,.int .i64 (f:Int),.int .i64 (e:Int),.bool op] 67) #[.int .i64 0,.slice none 0 0,.bool false] 62;have a0:=kb.cell 0;have a1:=kb.cell 1;have a2:=kb.cell 2;have b0:=kb.frozen 0;have b1:=kb.frozen 1;have b2:=kb.frozen 2;have t0:=kt.cell 0;have t3:=kt.cell 3;have r0:=kr.cell 0;have r1:=kr.cell 1;have r2:=kr.cell 2;have g0:=kr.frozen 0;have g1:=kr.frozen 1;have g2:=kr.frozen 2;go_enter func110,ntmps110;unfold zM;go_wp2;have k:=λo o2=>qZ w o o2 #[.int .i64 (x.await:Int),.slice oa n c,.bool x.body] 62;have h0:=λo o2=>(k o o2).cell 0;have h1:=λo o2=>(k o o2).cell 1;have h2:=λo o2=>(k o o2).cell 2;refine bodyPost_ret (v:=.agg #[.int .i64 (x.await:Int),.slice oa n c,.bool x.body]) (by simp[results,results110,go_sem,h0,h1,h2]) rfl ?_;exact qM.same hM (X5 _ _ _ _) rfl (λh=>h)
theorem zmJ:
  Calls prog 110 #[zM x (.slice oa n c),xw ⟨3,f,e,op⟩,.string text] w λe' w'=>qM w w' oa n c ⟨0,x.pend,x.body⟩ e':=by
 unfold xw;have kb:=((zf.new w #[.int .i64 (x.await:Int),.slice oa n c,.bool x.body] 62).alloc (.cells #[.int .i64 3,.int .i64 (f:Int),.int .i64 (e:Int),.bool op] 67)).alloc (.cells #[.int .i64 0,.slice none 0 0,.bool false] 62);have kt:=(kJ w (.cells #[.int .i64 (x.await:Int),.slice oa n c,.bool x.body] 62) #[.int .i64 3,.int .i64 (f:Int),.int .i64 (e:Int),.bool op] 67).alloc (.cells #[.int .i64 0,.slice none 0 0,.bool false] 62);have kr:=qZ w (.cells #[.int .i64 (x.await:Int),.slice oa n c,.bool x.body] 62) (.cells #[.int .i64 3,.int .i64 (f:Int),.int .i64 (e:Int),.bool op] 67) #[.int .i64 0,.slice none 0 0,.bool false] 62;have a0:=kb.cell 0;have a1:=kb.cell 1;have a2:=kb.cell 2;have b0:=kb.frozen 0;have b1:=kb.frozen 1;have b2:=kb.frozen 2;have t0:=kt.cell 0;have t3:=kt.cell 3;have r0:=kr.cell 0;have r1:=kr.cell 1;have r2:=kr.cell 2;have g0:=kr.frozen 0;have g1:=kr.frozen 1;have g2:=kr.frozen 2;go_enter func110,ntmps110;unfold zM;go_wp2;have k:=λo o2=>qZ w o o2 #[.int .i64 0,.slice oa n c,.bool x.body] 62;have h0:=λo o2=>(k o o2).cell 0;have h1:=λo o2=>(k o o2).cell 1;have h2:=λo o2=>(k o o2).cell 2;refine bodyPost_ret (v:=.agg #[.int .i64 0,.slice oa n c,.bool x.body]) (by simp[results,results110,go_sem,h0,h1,h2]) rfl ?_;exact qM.same hM (X5 _ _ _ _) rfl (λh=>h)
theorem zmK:
  Calls prog 110 #[zM x (.slice oa n c),xw ⟨5,f,e,op⟩,.string text] w λe' w'=>qM w w' oa n c ⟨0,x.pend,x.body⟩ e':=by
 unfold xw;have kb:=((zf.new w #[.int .i64 (x.await:Int),.slice oa n c,.bool x.body] 62).alloc (.cells #[.int .i64 5,.int .i64 (f:Int),.int .i64 (e:Int),.bool op] 67)).alloc (.cells #[.int .i64 0,.slice none 0 0,.bool false] 62);have kt:=(kJ w (.cells #[.int .i64 (x.await:Int),.slice oa n c,.bool x.body] 62) #[.int .i64 5,.int .i64 (f:Int),.int .i64 (e:Int),.bool op] 67).alloc (.cells #[.int .i64 0,.slice none 0 0,.bool false] 62);have kr:=qZ w (.cells #[.int .i64 (x.await:Int),.slice oa n c,.bool x.body] 62) (.cells #[.int .i64 5,.int .i64 (f:Int),.int .i64 (e:Int),.bool op] 67) #[.int .i64 0,.slice none 0 0,.bool false] 62;have a0:=kb.cell 0;have a1:=kb.cell 1;have a2:=kb.cell 2;have b0:=kb.frozen 0;have b1:=kb.frozen 1;have b2:=kb.frozen 2;have t0:=kt.cell 0;have t3:=kt.cell 3;have r0:=kr.cell 0;have r1:=kr.cell 1;have r2:=kr.cell 2;have g0:=kr.frozen 0;have g1:=kr.frozen 1;have g2:=kr.frozen 2;go_enter func110,ntmps110;unfold zM;go_wp2;have k:=λo o2=>qZ w o o2 #[.int .i64 0,.slice oa n c,.bool x.body] 62;have h0:=λo o2=>(k o o2).cell 0;have h1:=λo o2=>(k o o2).cell 1;have h2:=λo o2=>(k o o2).cell 2;refine bodyPost_ret (v:=.agg #[.int .i64 0,.slice oa n c,.bool x.body]) (by simp[results,results110,go_sem,h0,h1,h2]) rfl ?_;exact qM.same hM (X5 _ _ _ _) rfl (λh=>h)
theorem zmL(h0:x.await=0):
  Calls prog 110 #[zM x (.slice oa n c),xw ⟨6,f,e,op⟩,.string text] w λe' w'=>qM w w' oa n c ⟨0,x.pend,x.body⟩ e':=by
 unfold xw;have kb:=((zf.new w #[.int .i64 (x.await:Int),.slice oa n c,.bool x.body] 62).alloc (.cells #[.int .i64 6,.int .i64 (f:Int),.int .i64 (e:Int),.bool op] 67)).alloc (.cells #[.int .i64 0,.slice none 0 0,.bool false] 62);have kt:=(kJ w (.cells #[.int .i64 (x.await:Int),.slice oa n c,.bool x.body] 62) #[.int .i64 6,.int .i64 (f:Int),.int .i64 (e:Int),.bool op] 67).alloc (.cells #[.int .i64 0,.slice none 0 0,.bool false] 62);have kr:=qZ w (.cells #[.int .i64 (x.await:Int),.slice oa n c,.bool x.body] 62) (.cells #[.int .i64 6,.int .i64 (f:Int),.int .i64 (e:Int),.bool op] 67) #[.int .i64 0,.slice none 0 0,.bool false] 62;have a0:=kb.cell 0;have a1:=kb.cell 1;have a2:=kb.cell 2;have b0:=kb.frozen 0;have b1:=kb.frozen 1;have b2:=kb.frozen 2;have t0:=kt.cell 0;have t3:=kt.cell 3;have r0:=kr.cell 0;have r1:=kr.cell 1;have r2:=kr.cell 2;have g0:=kr.frozen 0;have g1:=kr.frozen 1;have g2:=kr.frozen 2;have h00:(x.await:Int)=0:=by omega
 rw[h00]at kb kt kr a0 a1 a2 b0 b1 b2 t0 t3 r0 r1 r2 g0 g1 g2;go_enter func110,ntmps110;unfold zM;rw[h00];clear h00;go_wp2;have k:=λo o2=>qZ w o o2 #[.int .i64 0,.slice oa n c,.bool x.body] 62;have h0:=λo o2=>(k o o2).cell 0;have h1:=λo o2=>(k o o2).cell 1;have h2:=λo o2=>(k o o2).cell 2;refine bodyPost_ret (v:=.agg #[.int .i64 0,.slice oa n c,.bool x.body]) (by simp[results,results110,go_sem,h0,h1,h2]) rfl ?_;exact qM.same hM (X5 _ _ _ _) rfl (λh=>h)
theorem zmM(hb:x.body=false):
  Calls prog 110 #[zM x (.slice oa n c),xw ⟨2,f,e,op⟩,.string text] w λe' w'=>qM w w' oa n c ⟨0,x.pend,!x.pend.isEmpty⟩ e':=by
 have hcap:=hM.cap;obtain⟨xU,c2,he,_⟩:=hcap;have hn:n=x.pend.length:=by injection he
 clear he;have hbe:(!x.pend.isEmpty)=decide (0<n):=by
  rw[hn]
  cases x.pend with
  |nil=>rfl
  |cons d ds=>simp
 have Zl:=hid hbe;have WM:=hid hn;clear hbe hn;unfold xw;have kb:=((zf.new w #[.int .i64 (x.await:Int),.slice oa n c,.bool x.body] 62).alloc (.cells #[.int .i64 2,.int .i64 (f:Int),.int .i64 (e:Int),.bool op] 67)).alloc (.cells #[.int .i64 0,.slice none 0 0,.bool false] 62);have kt:=(kJ w (.cells #[.int .i64 (x.await:Int),.slice oa n c,.bool x.body] 62) #[.int .i64 2,.int .i64 (f:Int),.int .i64 (e:Int),.bool op] 67).alloc (.cells #[.int .i64 0,.slice none 0 0,.bool false] 62);have kr:=qZ w (.cells #[.int .i64 (x.await:Int),.slice oa n c,.bool x.body] 62) (.cells #[.int .i64 2,.int .i64 (f:Int),.int .i64 (e:Int),.bool op] 67) #[.int .i64 0,.slice none 0 0,.bool false] 62;have a0:=kb.cell 0;have a1:=kb.cell 1;have a2:=kb.cell 2;have b0:=kb.frozen 0;have b1:=kb.frozen 1;have b2:=kb.frozen 2;have t0:=kt.cell 0;have t3:=kt.cell 3;have r0:=kr.cell 0;have r1:=kr.cell 1;have r2:=kr.cell 2;have g0:=kr.frozen 0;have g1:=kr.frozen 1;have g2:=kr.frozen 2;go_enter func110,ntmps110;unfold zM;by_cases h:0<n
 ·have hi:(0:Int)<(n:Int):=by omega
  go_wp2;rw[Zl.out,decide_eq_true h];have k:=λo o2=>qZ w o o2 #[.int .i64 0,.slice oa n c,.bool true] 62;have h0:=λo o2=>(k o o2).cell 0;have h1:=λo o2=>(k o o2).cell 1;have h2:=λo o2=>(k o o2).cell 2;refine bodyPost_ret (v:=.agg #[.int .i64 0,.slice oa n c,.bool true]) (by simp[results,results110,go_sem,h0,h1,h2]) rfl ?_;exact qM.same hM (X5 _ _ _ _) rfl (λh=>by cases h)
 ·have hi:¬(0:Int)<(n:Int):=by omega
  go_wp2;rw[Zl.out,decide_eq_false h];have k:=λo o2=>qZ w o o2 #[.int .i64 0,.slice oa n c,.bool false] 62;have h0:=λo o2=>(k o o2).cell 0;have h1:=λo o2=>(k o o2).cell 1;have h2:=λo o2=>(k o o2).cell 2;refine bodyPost_ret (v:=.agg #[.int .i64 0,.slice oa n c,.bool false]) (by simp[results,results110,go_sem,h0,h1,h2]) rfl ?_;exact qM.same hM (X5 _ _ _ _) rfl (λ_=>hb)
theorem zmN(hT:Tx w)(ht:text.size<=1000000):
  Calls prog 110 #[zM x (.slice oa n c),xw ⟨4,f,e,op⟩,.string text] w λe' w'=>qM w w' oa n c ⟨if vI text=4\/vI text=5 then vI text else 0,x.pend,x.body⟩ e':=by
 obtain⟨A,hA⟩:∃A,(if vI text=4\/vI text=5 then vI text else 0)=A:=⟨_,rfl⟩;have haw:=λW (hW:Tx W)=>zmE W text ht hW;rw[hA]at haw;rw[hA];have HAW:=hid haw;clear haw hA;unfold xw;have kb:=((zf.new w #[.int .i64 (x.await:Int),.slice oa n c,.bool x.body] 62).alloc (.cells #[.int .i64 4,.int .i64 (f:Int),.int .i64 (e:Int),.bool op] 67)).alloc (.cells #[.int .i64 0,.slice none 0 0,.bool false] 62);have kt:=(kJ w (.cells #[.int .i64 (x.await:Int),.slice oa n c,.bool x.body] 62) #[.int .i64 4,.int .i64 (f:Int),.int .i64 (e:Int),.bool op] 67).alloc (.cells #[.int .i64 0,.slice none 0 0,.bool false] 62);have kr:=qZ w (.cells #[.int .i64 (x.await:Int),.slice oa n c,.bool x.body] 62) (.cells #[.int .i64 4,.int .i64 (f:Int),.int .i64 (e:Int),.bool op] 67) #[.int .i64 0,.slice none 0 0,.bool false] 62;have a0:=kb.cell 0;have a1:=kb.cell 1;have a2:=kb.cell 2;have b0:=kb.frozen 0;have b1:=kb.frozen 1;have b2:=kb.frozen 2;have t0:=kt.cell 0;have t3:=kt.cell 3;have r0:=kr.cell 0;have r1:=kr.cell 1;have r2:=kr.cell 2;have g0:=kr.frozen 0;have g1:=kr.frozen 1;have g2:=kr.frozen 2;go_enter func110,ntmps110;unfold zM;have xn:=λo o2=>((zf.new w #[.int .i64 0,.slice oa n c,.bool x.body] 62).alloc o).alloc o2
 go_wp2_with fail
 refine(HAW.out _ (hT.b (X5 _ _ _ _))).mono ?_;rintro e1 w1 ⟨rfl,hB1⟩;have yH:=(xn _ _).below hB1;have xy:=(qZ w _ _ _ _).below hB1;have a0:=yH.cell 0;have a1:=yH.cell 1;have a2:=yH.cell 2;have b0:=yH.frozen 0;have b1:=yH.frozen 1;have b2:=yH.frozen 2;have r0:=xy.cell 0;have r1:=xy.cell 1;have r2:=xy.cell 2;have g0:=xy.frozen 0;have g1:=xy.frozen 1;have g2:=xy.frozen 2;have hBw:Below w.heap.size w w1:=(X5 _ _ _ _).trans (hB1.mono (by simp;omega));clear kb kt kr;go_wp2;have vw:=(((xy.other 0 (.int .i64 (A:Int)) (b':=w.heap.size) (by omega)).set 0 (.int .i64 (A:Int))).set 1 (.slice oa n c)).set 2 (.bool x.body);have X6:Below w.heap.size w ((((w1.setCell ⟨w.heap.size,0,none⟩ (.int .i64 (A:Int))).setCell ⟨w.heap.size+1+1,0,none⟩ (.int .i64 (A:Int))).setCell ⟨w.heap.size+1+1,1,none⟩ (.slice oa n c)).setCell ⟨w.heap.size+1+1,2,none⟩ (.bool x.body)):=
  (((hBw.setCell (p:=⟨w.heap.size,0,none⟩) (waa _) _).setCell (p:=⟨w.heap.size+1+1,0,none⟩) (by show _<=w.heap.size+1+1;omega) _).setCell (p:=⟨w.heap.size+1+1,1,none⟩) (by show _<=w.heap.size+1+1;omega) _).setCell (p:=⟨w.heap.size+1+1,2,none⟩) (by show _<=w.heap.size+1+1;omega) _
 obtain⟨W5,Zg⟩:∃X,(((w1.setCell ⟨w.heap.size,0,none⟩ (.int .i64 (A:Int))).setCell ⟨w.heap.size+1+1,0,none⟩ (.int .i64 (A:Int))).setCell ⟨w.heap.size+1+1,1,none⟩ (.slice oa n c)).setCell ⟨w.heap.size+1+1,2,none⟩ (.bool x.body)=X:=⟨_,rfl⟩;rw[Zg]at vw X6 ⊢;have h0:W5.cell? ⟨w.heap.size+1+1,0,none⟩=some (.int .i64 (A:Int)):=vw.cell 0;have h1:W5.cell? ⟨w.heap.size+1+1,1,none⟩=some (.slice oa n c):=vw.cell 1;have h2:W5.cell? ⟨w.heap.size+1+1,2,none⟩=some (.bool x.body):=vw.cell 2;refine bodyPost_ret (v:=.agg #[.int .i64 (A:Int),.slice oa n c,.bool x.body]) (by simp[results,results110,go_sem,h0,h1,h2]) rfl ?_;exact qM.same hM X6 rfl (λh=>h)
theorem zmO:
  Calls prog 110 #[zM x (.slice oa n c),xw ⟨7,f,e,true⟩,.string text] w λe' w'=>qM w w' oa n c x e':=by
 unfold xw;have kb:=((zf.new w #[.int .i64 (x.await:Int),.slice oa n c,.bool x.body] 62).alloc (.cells #[.int .i64 7,.int .i64 (f:Int),.int .i64 (e:Int),.bool true] 67)).alloc (.cells #[.int .i64 0,.slice none 0 0,.bool false] 62);have kt:=(kJ w (.cells #[.int .i64 (x.await:Int),.slice oa n c,.bool x.body] 62) #[.int .i64 7,.int .i64 (f:Int),.int .i64 (e:Int),.bool true] 67).alloc (.cells #[.int .i64 0,.slice none 0 0,.bool false] 62);have kr:=qZ w (.cells #[.int .i64 (x.await:Int),.slice oa n c,.bool x.body] 62) (.cells #[.int .i64 7,.int .i64 (f:Int),.int .i64 (e:Int),.bool true] 67) #[.int .i64 0,.slice none 0 0,.bool false] 62;have a0:=kb.cell 0;have a1:=kb.cell 1;have a2:=kb.cell 2;have b0:=kb.frozen 0;have b1:=kb.frozen 1;have b2:=kb.frozen 2;have t0:=kt.cell 0;have t3:=kt.cell 3;have r0:=kr.cell 0;have r1:=kr.cell 1;have r2:=kr.cell 2;have g0:=kr.frozen 0;have g1:=kr.frozen 1;have g2:=kr.frozen 2;go_enter func110,ntmps110;unfold zM
 go_wp2_with fail
 refine(zmF _ x oa n c).mono ?_;rintro e1 w1 ⟨rfl,hB1⟩;unfold zM;have xy:=(qZ w _ _ _ _).below hB1;have r0:=xy.cell 0;have r1:=xy.cell 1;have r2:=xy.cell 2;have g0:=xy.frozen 0;have g1:=xy.frozen 1;have g2:=xy.frozen 2;have hBw:Below w.heap.size w w1:=(X5 _ _ _ _).trans (hB1.mono (by simp;omega));clear kb kt kr;go_wp2;have vw:=((xy.set 0 (.int .i64 (x.await:Int))).set 1 (.slice oa n c)).set 2 (.bool x.body);have X6:Below w.heap.size w (((w1.setCell ⟨w.heap.size+1+1,0,none⟩ (.int .i64 (x.await:Int))).setCell ⟨w.heap.size+1+1,1,none⟩ (.slice oa n c)).setCell ⟨w.heap.size+1+1,2,none⟩ (.bool x.body)):=
  ((hBw.setCell (p:=⟨w.heap.size+1+1,0,none⟩) (by show _<=w.heap.size+1+1;omega) _).setCell (p:=⟨w.heap.size+1+1,1,none⟩) (by show _<=w.heap.size+1+1;omega) _).setCell (p:=⟨w.heap.size+1+1,2,none⟩) (by show _<=w.heap.size+1+1;omega) _
 obtain⟨W5,Zg⟩:∃X,((w1.setCell ⟨w.heap.size+1+1,0,none⟩ (.int .i64 (x.await:Int))).setCell ⟨w.heap.size+1+1,1,none⟩ (.slice oa n c)).setCell ⟨w.heap.size+1+1,2,none⟩ (.bool x.body)=X:=⟨_,rfl⟩;rw[Zg]at vw X6 ⊢;have h0:W5.cell? ⟨w.heap.size+1+1,0,none⟩=some (.int .i64 (x.await:Int)):=vw.cell 0;have h1:W5.cell? ⟨w.heap.size+1+1,1,none⟩=some (.slice oa n c):=vw.cell 1;have h2:W5.cell? ⟨w.heap.size+1+1,2,none⟩=some (.bool x.body):=vw.cell 2;refine bodyPost_ret (v:=.agg #[(.int .i64 (x.await:Int)),(.slice oa n c),(.bool x.body)]) (by simp[results,results110,go_sem,h0,h1,h2]) rfl ?_;exact qM.same hM X6 rfl (λh=>h)
theorem zmP(b off:Nat)(ha:oa=some ⟨b,off,none⟩)(hn:n=1)(hc:1<=c)(hbd:x.body=true):
  Calls prog 110 #[zM x (.slice oa n c),xw ⟨7,f,e,false⟩,.string text] w λe' w'=>qM w w' oa n c ⟨x.await,[],false⟩ e':=by
 subst ha;subst hn;have ja:=hid hbd;clear hbd;unfold xw;have kb:=((zf.new w #[.int .i64 (x.await:Int),.slice (some ⟨b,off,none⟩) 1 c,.bool true] 62).alloc (.cells #[.int .i64 7,.int .i64 (f:Int),.int .i64 (e:Int),.bool false] 67)).alloc (.cells #[.int .i64 0,.slice none 0 0,.bool false] 62);have kt:=(kJ w (.cells #[.int .i64 (x.await:Int),.slice (some ⟨b,off,none⟩) 1 c,.bool true] 62) #[.int .i64 7,.int .i64 (f:Int),.int .i64 (e:Int),.bool false] 67).alloc (.cells #[.int .i64 0,.slice none 0 0,.bool false] 62);have kr:=qZ w (.cells #[.int .i64 (x.await:Int),.slice (some ⟨b,off,none⟩) 1 c,.bool true] 62) (.cells #[.int .i64 7,.int .i64 (f:Int),.int .i64 (e:Int),.bool false] 67) #[.int .i64 0,.slice none 0 0,.bool false] 62;have a0:=kb.cell 0;have a1:=kb.cell 1;have a2:=kb.cell 2;have b0:=kb.frozen 0;have b1:=kb.frozen 1;have b2:=kb.frozen 2;have t0:=kt.cell 0;have t3:=kt.cell 3;have r0:=kr.cell 0;have r1:=kr.cell 1;have r2:=kr.cell 2;have g0:=kr.frozen 0;have g1:=kr.frozen 1;have g2:=kr.frozen 2;go_enter func110,ntmps110;unfold zM;rw[ja.out]
 go_wp2_with fail
 refine(zmG _ x.await b off c hc).mono ?_;rintro e1 w1 ⟨rfl,hB1⟩;have xy:=(qZ w _ _ _ _).below hB1;have r0:=xy.cell 0;have r1:=xy.cell 1;have r2:=xy.cell 2;have g0:=xy.frozen 0;have g1:=xy.frozen 1;have g2:=xy.frozen 2;have hBw:Below w.heap.size w w1:=(X5 _ _ _ _).trans (hB1.mono (by simp;omega));clear kb kt kr;go_wp2;have vw:=((xy.set 0 (.int .i64 (x.await:Int))).set 1 (.slice none 0 0)).set 2 (.bool false);have X6:Below w.heap.size w (((w1.setCell ⟨w.heap.size+1+1,0,none⟩ (.int .i64 (x.await:Int))).setCell ⟨w.heap.size+1+1,1,none⟩ (.slice none 0 0)).setCell ⟨w.heap.size+1+1,2,none⟩ (.bool false)):=
  ((hBw.setCell (p:=⟨w.heap.size+1+1,0,none⟩) (by show _<=w.heap.size+1+1;omega) _).setCell (p:=⟨w.heap.size+1+1,1,none⟩) (by show _<=w.heap.size+1+1;omega) _).setCell (p:=⟨w.heap.size+1+1,2,none⟩) (by show _<=w.heap.size+1+1;omega) _
 obtain⟨W5,Zg⟩:∃X,((w1.setCell ⟨w.heap.size+1+1,0,none⟩ (.int .i64 (x.await:Int))).setCell ⟨w.heap.size+1+1,1,none⟩ (.slice none 0 0)).setCell ⟨w.heap.size+1+1,2,none⟩ (.bool false)=X:=⟨_,rfl⟩;rw[Zg]at vw X6 ⊢;have h0:W5.cell? ⟨w.heap.size+1+1,0,none⟩=some (.int .i64 (x.await:Int)):=vw.cell 0;have h1:W5.cell? ⟨w.heap.size+1+1,1,none⟩=some (.slice none 0 0):=vw.cell 1;have h2:W5.cell? ⟨w.heap.size+1+1,2,none⟩=some (.bool false):=vw.cell 2;refine bodyPost_ret (v:=.agg #[(.int .i64 (x.await:Int)),(.slice none 0 0),(.bool false)]) (by simp[results,results110,go_sem,h0,h1,h2]) rfl ?_;exact⟨none,0,0,rfl,ug.same (x:=Lx.zero) (ug.zero _) rfl (λh=>rfl),zg.of_below X6,λg h=>(by cases h)⟩
theorem zmQ(b off:Nat)(d:Dl)(ds:List Dl)(ha:oa=some ⟨b,off,none⟩)(hn:n=ds.length+1)(hne:ds≠ [])(hxe:x=⟨x.await,d::ds,true⟩)(hc:n<=c)(hbd:x.body=true):
  Calls prog 110 #[zM x (.slice oa n c),xw ⟨7,f,e,false⟩,.string text] w λe' w'=>qM w w' oa n c ⟨x.await,ds,true⟩ e':=by
 subst ha;have hn2:2<=n:=by
  rw[hn];have:=List.length_pos_iff.2 hne;omega
 have ja:=hid hbd;rw[hxe]at hM;have HN:Hid (n-1=ds.length/\ug w (.slice (some ⟨b,off,none⟩) (ds.length+1) c) ⟨x.await,d::ds,true⟩):=hid ⟨by omega,by rw[←hn];exact hM⟩;have jF:=hid hne;clear hbd hn hxe hne hM;unfold xw;have kb:=((zf.new w #[.int .i64 (x.await:Int),.slice (some ⟨b,off,none⟩) n c,.bool true] 62).alloc (.cells #[.int .i64 7,.int .i64 (f:Int),.int .i64 (e:Int),.bool false] 67)).alloc (.cells #[.int .i64 0,.slice none 0 0,.bool false] 62);have kt:=(kJ w (.cells #[.int .i64 (x.await:Int),.slice (some ⟨b,off,none⟩) n c,.bool true] 62) #[.int .i64 7,.int .i64 (f:Int),.int .i64 (e:Int),.bool false] 67).alloc (.cells #[.int .i64 0,.slice none 0 0,.bool false] 62);have kr:=qZ w (.cells #[.int .i64 (x.await:Int),.slice (some ⟨b,off,none⟩) n c,.bool true] 62) (.cells #[.int .i64 7,.int .i64 (f:Int),.int .i64 (e:Int),.bool false] 67) #[.int .i64 0,.slice none 0 0,.bool false] 62;have a0:=kb.cell 0;have a1:=kb.cell 1;have a2:=kb.cell 2;have b0:=kb.frozen 0;have b1:=kb.frozen 1;have b2:=kb.frozen 2;have t0:=kt.cell 0;have t3:=kt.cell 3;have r0:=kr.cell 0;have r1:=kr.cell 1;have r2:=kr.cell 2;have g0:=kr.frozen 0;have g1:=kr.frozen 1;have g2:=kr.frozen 2;go_enter func110,ntmps110;unfold zM;rw[ja.out]
 go_wp2_with fail
 refine(zmH _ x.await b off n c hn2 hc).mono ?_;rintro e1 w1 ⟨rfl,hB1⟩;have xy:=(qZ w _ _ _ _).below hB1;have r0:=xy.cell 0;have r1:=xy.cell 1;have r2:=xy.cell 2;have g0:=xy.frozen 0;have g1:=xy.frozen 1;have g2:=xy.frozen 2;have hBw:Below w.heap.size w w1:=(X5 _ _ _ _).trans (hB1.mono (by simp;omega));clear kb kt kr;go_wp2;have vw:=((xy.set 0 (.int .i64 (x.await:Int))).set 1 (.slice (some ⟨b,off+2,none⟩) (n-1) (c-1))).set 2 (.bool true);have X6:Below w.heap.size w (((w1.setCell ⟨w.heap.size+1+1,0,none⟩ (.int .i64 (x.await:Int))).setCell ⟨w.heap.size+1+1,1,none⟩ (.slice (some ⟨b,off+2,none⟩) (n-1) (c-1))).setCell ⟨w.heap.size+1+1,2,none⟩ (.bool true)):=
  ((hBw.setCell (p:=⟨w.heap.size+1+1,0,none⟩) (by show _<=w.heap.size+1+1;omega) _).setCell (p:=⟨w.heap.size+1+1,1,none⟩) (by show _<=w.heap.size+1+1;omega) _).setCell (p:=⟨w.heap.size+1+1,2,none⟩) (by show _<=w.heap.size+1+1;omega) _
 obtain⟨W5,Zg⟩:∃X,((w1.setCell ⟨w.heap.size+1+1,0,none⟩ (.int .i64 (x.await:Int))).setCell ⟨w.heap.size+1+1,1,none⟩ (.slice (some ⟨b,off+2,none⟩) (n-1) (c-1))).setCell ⟨w.heap.size+1+1,2,none⟩ (.bool true)=X:=⟨_,rfl⟩;rw[Zg]at vw X6 ⊢;have h0:W5.cell? ⟨w.heap.size+1+1,0,none⟩=some (.int .i64 (x.await:Int)):=vw.cell 0;have h1:W5.cell? ⟨w.heap.size+1+1,1,none⟩=some (.slice (some ⟨b,off+2,none⟩) (n-1) (c-1)):=vw.cell 1;have h2:W5.cell? ⟨w.heap.size+1+1,2,none⟩=some (.bool true):=vw.cell 2;refine bodyPost_ret (v:=.agg #[(.int .i64 (x.await:Int)),(.slice (some ⟨b,off+2,none⟩) (n-1) (c-1)),(.bool true)]) (by simp[results,results110,go_sem,h0,h1,h2]) rfl ?_;refine⟨some ⟨b,off+2,none⟩,n-1,c-1,rfl,?_,zg.of_below X6,λg h=> .inl h⟩;rw[HN.out.1];exact(HN.out.2.tail jF.out).below X6
end
theorem zmR{W:World}{b:Nat}{a:ByteArray}{t:Bool}(h:zf W b #[.string a,.bool t] 105):Src W (.slice (some ⟨b,0,none⟩) 1 1) 1 [.string a,.bool t]:=by
 refine .inr ⟨_,0,1,rfl,h.lt,λj u hj=>?_⟩;rw[Nat.zero_add,h.cell j];simpa using hj
section
variable(w:World)(x:Lx)(oa:Option Addr)(n c:Nat)(hM:ug w (.slice oa n c) x)(f e:Nat)(op:Bool)(text:ByteArray)
include hM
theorem zmS(h0:x.await≠0)(hb:x.body=false)(hp:x.pend.length<=900000)(ht:text.size<=60000)(haw:x.await<=1000):
  Calls prog 110 #[zM x (.slice oa n c),xw ⟨6,f,e,op⟩,.string text] w λe' w'=>qM w w' oa n c ⟨0,x.pend++ [⟨vW (kS text),decide (x.await=5)⟩],x.body⟩ e':=by
 have hcap:=hM.cap;obtain⟨xU,c2,he,hnc⟩:=hcap;have hn:n=x.pend.length:=by injection he
 clear he;have hown:=hM.own hb;have hpos:=hM.pos;have hdec:((x.await:Int)==5)=decide (x.await=5):=by
  by_cases h5:x.await=5
  ·rw[h5];rfl
  ·rw[decide_eq_false h5];exact beq_eq_false_iff_ne.2 (by omega)
 obtain⟨A,hA⟩:∃A,x.await=A:=⟨_,rfl⟩;obtain⟨pd,Jl⟩:∃pd,x.pend=pd:=⟨_,rfl⟩;obtain⟨T5,QJ⟩:∃T5,decide (x.await=5)=T5:=⟨_,rfl⟩;obtain⟨BT,hBT⟩:∃BT,vW (kS text)=BT:=⟨_,rfl⟩;have WS:=hid (λW=>zeV W text ht);rw[hBT]at WS ⊢;unfold xw zM;rw[QJ]at hdec ⊢;rw[Jl]at hp hn hown ⊢;rw[hA]at hdec h0 haw ⊢;rw[←hn]at hown;have h0i:¬(A:Int)=0:=by omega
 have h0b:((A:Int)==0)=false:=beq_eq_false_iff_ne.2 h0i;have kb:=((zf.new w #[.int .i64 (A:Int),.slice oa n c,.bool x.body] 62).alloc (.cells #[.int .i64 6,.int .i64 (f:Int),.int .i64 (e:Int),.bool op] 67)).alloc (.cells #[.int .i64 0,.slice none 0 0,.bool false] 62);have kt:=(kJ w (.cells #[.int .i64 (A:Int),.slice oa n c,.bool x.body] 62) #[.int .i64 6,.int .i64 (f:Int),.int .i64 (e:Int),.bool op] 67).alloc (.cells #[.int .i64 0,.slice none 0 0,.bool false] 62);have kr:=qZ w (.cells #[.int .i64 (A:Int),.slice oa n c,.bool x.body] 62) (.cells #[.int .i64 6,.int .i64 (f:Int),.int .i64 (e:Int),.bool op] 67) #[.int .i64 0,.slice none 0 0,.bool false] 62;have a0:=kb.cell 0;have a1:=kb.cell 1;have a2:=kb.cell 2;have b0:=kb.frozen 0;have b1:=kb.frozen 1;have b2:=kb.frozen 2;have t0:=kt.cell 0;have t3:=kt.cell 3;have r0:=kr.cell 0;have r1:=kr.cell 1;have r2:=kr.cell 2;have g0:=kr.frozen 0;have g1:=kr.frozen 1;have g2:=kr.frozen 2;have HX:=hid (And.intro hA (And.intro Jl (And.intro hn hb)));have HOWN:=hid hown;have iU:=hid hpos;have hnn:n<=900000:=by omega
 have hM':=hid hM;have HC:=hid hnc;clear hA Jl hn hb hown hpos hM hnc QJ hBT hp;go_enter func110,ntmps110;go_wp2;obtain⟨W1,hW1⟩:∃X,((w.alloc (.cells #[.int .i64 0,.slice oa n c,.bool x.body] 62)).alloc (.cells #[.int .i64 6,.int .i64 (f:Int),.int .i64 (e:Int),.bool op] 67)).alloc (.cells #[.int .i64 0,.slice none 0 0,.bool false] 62)=X:=⟨_,rfl⟩;have yH:zf W1 w.heap.size #[.int .i64 0,.slice oa n c,.bool x.body] 62:=by rw[←hW1];exact((zf.new w _ _).alloc _).alloc _
 have xy:zf W1 (w.heap.size+1+1) #[.int .i64 0,.slice none 0 0,.bool false] 62:=by rw[←hW1];exact qZ _ _ _ _ _
 have hB1:Below w.heap.size w W1:=by rw[←hW1];exact X5 _ _ _ _
 have hz1:W1.heap.size=w.heap.size+3:=by rw[←hW1];simp
 have ho1:W1.ownsRow 1 105 2 (.slice oa n c) n (jy pd):=uh HOWN.out hB1;rw[hW1];clear hW1 kb kt kr a0 a1 a2 b0 b1 b2 t0 t3 r0 r1 r2 g0 g1 g2;obtain⟨Bx,hBx⟩:∃z,w.heap.size=z:=⟨_,rfl⟩;have yh:=hid hBx;rw[hBx]at yH xy hB1 hz1 ⊢;clear hBx;have QO:=hid ho1;have hst:∀W:World,Calls prog 135 #[.string text] W λe w'=>∃v,e=.returned v/\(v=.string BT/\Below W.heap.size W w'):=λW=>(WS.out W).mono (λe w' h=>⟨_,h.1,rfl,h.2⟩);have HST:=hid hst;clear hst;have HB1:=hid hB1;have hs0:W1.drew.cell? ⟨Bx,1,none⟩=some (.slice oa n c):=yH.drew.cell 1;clear ho1 hB1
 go_region_law (first
  |(refine GL (by rfl) func135 (by kernel_rfl) (by kernel_rfl) _ _ (by rfl) [.string text] (by rfl) _ (HST.out _) ?_;intro v w2 hh;obtain⟨hv,hb2⟩:=hh;subst hv;have kb2:=(yH.drew).below hb2;have vw:=(xy.drew).below hb2;have hs2:=kb2.cell 1;have zoZ:∀o,(w2.alloc o).cell? ⟨Bx,1,none⟩=some (.slice oa n c):=λo=>(kb2.alloc o).cell 1;have hz2:=hb2.size)
  |(refine QE (by rfl) _ _ 60 105 2 24 _ (by rfl) underlying60 iT rfl (by omega) (by omega) 1 (.slice oa n c) n (jy pd) (by rfl) ((uh QO.out.drew hb2).alloc _) _ 1 [.string BT,.bool T5] (by rfl) (zmR (zf.new w2 _ _)) rfl (iR [⟨BT,T5⟩]) (by omega) (by rw[waf];omega) (n+1) rfl ?_;intro Ya c9 w9 YW KO DW;have ZG:=(kb2.alloc (.cells #[.string BT,.bool T5] 105)).grown KO (λe=>by have:=(iU.out _ e.symm).2;have:=yh.out;omega);have Ri:=(vw.alloc (.cells #[.string BT,.bool T5] 105)).grown KO (λe=>by have:=(iU.out _ e.symm).2;have:=yh.out;omega);have hs9:=ZG.cell 1;have e90:=ZG.cell 0;have e92:=ZG.cell 2;have f90:=ZG.frozen 0;have f91:=ZG.frozen 1;have f92:=ZG.frozen 2;have r90:=Ri.cell 0;have r91:=Ri.cell 1;have r92:=Ri.cell 2;have q90:=Ri.frozen 0;have q91:=Ri.frozen 1;have q92:=Ri.frozen 2))
 all_goals
  have k9:=ZG.set 1 (.slice Ya (n+1) c9);have zmT:=Ri.other 1 (.slice Ya (n+1) c9) (b':=Bx) (by omega);have hB2:Below Bx w w2:=HB1.out.drew.trans (hb2.mono (by show Bx<=W1.heap.size;omega));have hz2':Bx+3<=w2.heap.size:=by have:W1.heap.size<=w2.heap.size:=hz2;omega
  have hBX:=yh.out;have hpos:=iU.out;have hfr:zg (λb=>(Value.slice oa n c).ownBlock=some b) w w9:=((zg.of_below (by rw[hBX];exact hB2)).alloc _).grown KO (λk hk=> .inl hk);obtain⟨g9,zmU,xX,iV,iW,_,iY⟩:=VD YW (by omega);have lD:n+1<=c9:=by
   injection xX with _ _ e3;omega
  have hgo:∀g,(Value.slice Ya (n+1) c9).ownBlock=some g->(Value.slice oa n c).ownBlock=some g\/w.heap.size<=g:=λg hg=>by
   rcases DW with q|q
   ·exact .inl (q.symm.trans hg)
   ·rw[q,waf]at hg
    injection hg with hg;exact .inr (by omega)
  have hgl:∀g,(Value.slice Ya (n+1) c9).ownBlock=some g->1<=g/\g<w9.heap.size/\g≠Bx/\g≠Bx+1+1:=λg hg=>by
   have hq:g=g9:=by
    rw[xX]at hg;injection hg with hg;exact hg.symm
   refine⟨by omega,by omega,?_,?_⟩
   ·rcases DW with q|q
    ·have:=(hpos g (q.symm.trans hg)).2;omega
    ·rw[q,waf]at hg
     injection hg with hg;omega
   ·rcases DW with q|q
    ·have:=(hpos g (q.symm.trans hg)).2;omega
    ·rw[q,waf]at hg
     injection hg with hg;omega
  have HHE:=hid (And.intro hfr (And.intro hgo (And.intro hgl (And.intro lD YW))));clear hfr hgo hgl lD YW xX iV iW iY DW;go_wp2;have k10:=((zmT.set 0 (.int .i64 0)).set 1 (.slice Ya (n+1) c9)).set 2 (.bool x.body);obtain⟨hfr,hgo,hgl,lD,YW⟩:=HHE.out;have hF:zg (λb=>b=Bx\/b=Bx+1+1) w9 ((((w9.setCell ⟨Bx,1,none⟩ (.slice Ya (n+1) c9)).setCell ⟨Bx+1+1,0,none⟩ (.int .i64 0)).setCell ⟨Bx+1+1,1,none⟩ (.slice Ya (n+1) c9)).setCell ⟨Bx+1+1,2,none⟩ (.bool x.body)):=
   ((((zg.refl _ w9).setCell 1 (.inl (.inl rfl)) _).setCell 0 (.inl (.inr rfl)) _).setCell 1 (.inl (.inr rfl)) _).setCell 2 (.inl (.inr rfl)) _
  obtain⟨W5,Zg⟩:∃X,(((w9.setCell ⟨Bx,1,none⟩ (.slice Ya (n+1) c9)).setCell ⟨Bx+1+1,0,none⟩ (.int .i64 0)).setCell ⟨Bx+1+1,1,none⟩ (.slice Ya (n+1) c9)).setCell ⟨Bx+1+1,2,none⟩ (.bool x.body)=X:=⟨_,rfl⟩;rw[Zg]at k10 hF ⊢;have h0:W5.cell? ⟨Bx+1+1,0,none⟩=some (.int .i64 0):=k10.cell 0;have h1:W5.cell? ⟨Bx+1+1,1,none⟩=some (.slice Ya (n+1) c9):=k10.cell 1;have h2:W5.cell? ⟨Bx+1+1,2,none⟩=some (.bool x.body):=k10.cell 2;refine bodyPost_ret (v:=.agg #[.int .i64 0,.slice Ya (n+1) c9,.bool x.body]) (by simp[results,results110,go_sem,h0,h1,h2]) rfl ?_;have hlen:(pd++ [(⟨BT,T5⟩:Dl)]).length=n+1:=by rw[List.length_append,HX.out.2.2.1];rfl
  have hce:jy (pd++ [(⟨BT,T5⟩:Dl)])=jy pd++ [.string BT,.bool T5]:=by rw[zcU];rfl
  have hownF:W5.ownsRow 1 105 2 (.slice Ya (n+1) c9) (n+1) (jy pd++ [.string BT,.bool T5]):=xq hF YW (λg hg hh=>by have:=hgl g hg;omega);refine⟨Ya,n+1,c9,rfl,⟨?_,λ_=>?_,λg hg=>⟨(hgl g hg).1,Nat.lt_of_lt_of_le (hgl g hg).2.1 hF.size⟩,⟨Ya,c9,?_,?_⟩⟩,hfr.trans hF (λi hi hh=>by omega),hgo⟩
  ·show Src W5 _ (pd++ [(⟨BT,T5⟩:Dl)]).length (jy (pd++ [(⟨BT,T5⟩:Dl)]))
   rw[hlen,hce];exact Src.Y2 hownF
  ·show W5.ownsRow 1 _ 2 _ (pd++ [(⟨BT,T5⟩:Dl)]).length (jy (pd++ [(⟨BT,T5⟩:Dl)]))
   rw[hlen,hce];exact hownF
  ·show _=Value.slice Ya (pd++ [(⟨BT,T5⟩:Dl)]).length c9
   rw[hlen]
  ·show(pd++ [(⟨BT,T5⟩:Dl)]).length<=c9
   rw[hlen];exact lD
end
theorem zmV(t:ByteArray):Z9 t []=(t.size,false):=rfl
theorem zcY(s:ByteArray)(a:Nat):jZ s a=1\/jZ s a=2\/jZ s a=3\/jZ s a=4\/jZ s a=5\/jZ s a=6:=by
 unfold jZ
 repeat' split
 all_goals omega
theorem Po(w:World)(x:Lx)(oa:Option Addr)(n c:Nat)(hM:ug w (.slice oa n c) x)(s:ByteArray)(a:Nat)(ha:a<s.size)(hs:s.size<=60000)(hT:Tx w)(hp:x.pend.length<=900000)(haw:x.await<=1000):
  Calls prog 110 #[zM x (.slice oa n c),xw (xB s a x),.string (s.extract (xB s a x).zh (xB s a x).en)] w λe' w'=>qM w w' oa n c (qY s a x) e':=by
 obtain⟨xU,c2,he,hnc⟩:=hM.cap;injection he with he1 hn he3;subst he1 he3;have hts:(s.extract (xB s a x).zh (xB s a x).en).size<=60000:=by rw[ByteArray.size_extract];omega
 unfold qY;by_cases hb:x.body=true
 ·have htk:xB s a x=⟨7,a,a+(Z9 (s.extract a s.size) x.pend).1,!(Z9 (s.extract a s.size) x.pend).2⟩:=if_pos hb
  generalize s.extract (xB s a x).zh (xB s a x).en=text at hts ⊢;rw[htk];generalize hdo:Z9 (s.extract a s.size) x.pend=q;obtain⟨dn,ok⟩:=q
  cases ok with
  |false=>exact zmO w x oa n c hM a (a+dn) text
  |true=>
   cases Jl:x.pend with
   |nil=>rw[Jl,zmV]at hdo;cases hdo
   |cons d ds=>
    have hx:x=⟨x.await,d::ds,true⟩:=by rw[←Jl,←hb]
    rw[Jl]at hn hnc;simp only[List.length_cons]at hn hnc;rcases hM.src with⟨h1,h2,_⟩|⟨b,off,cc,e4,h2,h3⟩
    ·rw[Jl]at h2;cases h2
    ·injection e4 with e5 e6 e7
     show Calls _ _ #[_,xw ⟨7,a,a+dn,false⟩,_] w λe' w'=>qM w w' oa n c ⟨x.await,x.pend.tail,!x.pend.tail.isEmpty && x.body⟩ e';rw[Jl,hb]
     cases ds with
     |nil=>
      exact zmP w x oa n c hM a (a+dn) text b off e5 (by simpa using hn) (by simp at hnc;omega) hb
     |cons d2 ds2=>
      exact zmQ w x oa n c hM a (a+dn) text b off d (d2::ds2) e5 hn (by simp) hx (by omega) hb
 ·have hb':x.body=false:=by simpa using hb
  have htk:xB s a x=⟨jZ s a,a,uD s a,decide (jZ s a=6)&& Z7 (s.extract a (uD s a))⟩:=if_neg hb;generalize s.extract (xB s a x).zh (xB s a x).en=text at hts ⊢;rw[htk];generalize(decide (jZ s a=6)&& Z7 (s.extract a (uD s a)))=op;generalize uD s a=e;have hme:=zcY s a;generalize jZ s a=k at hme ⊢;rcases hme with h|h|h|h|h|h
  ·subst h;exact zmI w x oa n c hM a e op text
  ·subst h;exact zmM w x oa n c hM a e op text hb'
  ·subst h;exact zmJ w x oa n c hM a e op text
  ·subst h;exact zmN w x oa n c hM a e op text hT (by omega)
  ·subst h;exact zmK w x oa n c hM a e op text
  ·subst h
   by_cases h0:x.await=0
   ·have:=zmL w x oa n c hM a e op text h0
    show Calls _ _ #[_,xw ⟨6,a,e,op⟩,_] w λe' w'=>qM w w' oa n c (jw x 6 op text) e';rw[show jw x 6 op text=⟨0,x.pend,x.body⟩ by unfold jw;rw[if_neg (by omega),if_neg (by omega),if_neg (by omega),if_neg (by omega),if_neg (by rintro⟨_,h⟩;exact h h0)]];exact this
   ·have:=zmS w x oa n c hM a e op text h0 hb' hp hts haw
    show Calls _ _ #[_,xw ⟨6,a,e,op⟩,_] w λe' w'=>qM w w' oa n c (jw x 6 op text) e';rw[show jw x 6 op text=⟨0,x.pend++ [⟨vW (kS text),decide (x.await=5)⟩],x.body⟩ by unfold jw;rw[if_neg (by omega),if_neg (by omega),if_neg (by omega),if_neg (by omega),if_pos ⟨rfl,h0⟩]];exact this
theorem zmW:∀b,b<256->cls b=3->∃k∈ops,(txt k).size=1/\(bt (txt k) 0).toNat=b:=by decide+kernel
theorem zmX:∀b,b<256->cls b=2->b=10:=by decide+kernel
theorem zmY{s:ByteArray}{a k:Nat}(hk:k∈ops)(hf:jL s a (txt k)):yS s a≠0:=by
 unfold yS
 cases hd:ops.find? (λk=>decide (jL s a (txt k)))with
 |none=>exact absurd (by simpa using hf) (List.find?_eq_none.1 hd k hk)
 |some j=>
  have:=List.mem_of_find?_eq_some hd;have:=Xa.1 this;show j≠0;omega
theorem Og{s:ByteArray}{a:Nat}(ha:a<s.size):a<uD s a/\uD s a<=s.size:=by
 have h1:=o8 (s:=s) (Nat.le_of_lt ha);have h2:=rX (s:=s) (Nat.le_of_lt ha);have h3:=TQ (s:=s) (Nat.le_of_lt ha);have h4:=WX s a 6;unfold uD;split
 ·rename_i hb
  exact⟨iH (Nat.le_of_lt ha) hb,h1.2⟩
 rename_i hb
 split
 ·omega
 rename_i h10
 split
 ·rename_i h35
  refine⟨?_,h2.2⟩;rcases Nat.lt_or_ge a (vk s a)with h|h
  ·exact h
  ·have e:vk s a=a:=by omega
   have:=o9 (s:=s) (a:=a) (by omega);rw[e]at this;omega
 split
 ·rename_i ho
  have:=dI (nS ho);have:=zhI (CB ho);omega
 rename_i ho
 split
 ·rename_i hn
  have:Zo s a<=yP s a 6:=by unfold Zo;split<;>omega
  omega
 ·refine⟨?_,h3.2⟩
  rcases Nat.lt_or_ge a (jb s a)with h|h
  ·exact h
  ·exfalso
   have e:vU (λi=>!je (jJ s a 0 i) (by8 s (a+i))) (s.size-a)=0:=by unfold jb at h;omega
   have hs:=QG (λi=>!je (jJ s a 0 i) (by8 s (a+i))) (z:=s.size-a) (by omega);rw[e]at hs;have hs2:je (jJ s a 0 0) (by8 s a)=true:=by simpa using hs
   have he:qo (by8 s a)=true:=by
    unfold je at hs2;rw[Bool.and_eq_true]at hs2;exact hs2.1
   have hlt:=WZ s a;have hc:cls (by8 s a)=1\/cls (by8 s a)=2\/cls (by8 s a)=3:=by simpa[qo]using he
   rcases hc with hc|hc|hc
   ·have hr:yP s a 1≠0:=λhz=>by
     have:=QG (λi=>decide (cl s (a+i)=1)) (z:=s.size-a) (by show yP s a 1<_;omega);rw[show vU (λi=>decide (cl s (a+i)=1)) (s.size-a)=0 from hz]at this;simp at this;exact this hc
    apply hb;unfold xM;rw[if_pos (by omega)];exact hr
   ·exact h10 (zmX _ hlt hc)
   ·obtain⟨k,hk,hk1,hk2⟩:=zmW _ hlt hc
    apply ho;refine zmY hk (zhL (by omega) (λi hi=>?_));have:i=0:=by omega
    subst this;exact UInt8.toNat_inj.1 hk2.symm
theorem iZ(t:ByteArray)(d:Dl):∀(k a:Nat),a<=t.size->a<=(Zp d (qX t k a) a).1/\(Zp d (qX t k a) a).1<=t.size
 |0,a,h=>⟨waa _,h⟩
 |k+1,a,h=>by
  unfold qX;by_cases hl:a<t.size
  ·have hg:=KL hl
   rw[if_pos hl];have hz:a+(t.extract a (zY t a)).size=zY t a:=by rw[ByteArray.size_extract];omega
   unfold Zp;rw[hz];split
   ·exact⟨by show a<=zY t a;omega,hg.2⟩
   ·have:=iZ t d k (zY t a) hg.2
    exact⟨by omega,this.2⟩
  ·rw[if_neg hl]
   exact⟨waa _,h⟩
theorem zcZ(t:ByteArray)(pend:List Dl)(h:0<t.size):0<(Z9 t pend).1/\(Z9 t pend).1<=t.size:=by
 cases pend with
 |nil=>exact⟨h,waa _⟩
 |cons d ds=>
  show 0<(Zp d (qX t t.size 0) 0).1/\(Zp d (qX t t.size 0) 0).1<=t.size;refine⟨?_,(iZ t d t.size 0 (Nat.zero_le _)).2⟩;obtain⟨k,hk⟩:∃k,t.size=k+1:=⟨t.size-1,by omega⟩;have hg:=KL (s:=t) (a:=0) h;rw[hk];unfold qX;rw[if_pos h];have hz:0+(t.extract 0 (zY t 0)).size=zY t 0:=by rw[ByteArray.size_extract];omega
  unfold Zp;rw[hz];split
  ·exact hg.1
  ·have:=iZ t d k (zY t 0) hg.2
   omega
theorem Rj{s:ByteArray}{a:Nat}(x:Lx)(ha:a<s.size):(xB s a x).zh=a/\a<(xB s a x).en/\(xB s a x).en<=s.size:=by
 unfold xB;split
 ·have hz:(s.extract a s.size).size=s.size-a:=by rw[ByteArray.size_extract];omega
  have:=zcZ (s.extract a s.size) x.pend (by omega);refine⟨rfl,?_,?_⟩
  ·show a<a+_;omega
  ·show a+_<=_;omega
 ·have:=Og ha
  exact⟨rfl,this.1,this.2⟩
section
variable(w:World)(x:Lx)(oa:Option Addr)(n c:Nat)(s:ByteArray)(a:Nat)(ha:a<s.size)(hs:s.size<=900)(hT:Tx w)
include ha hs hT
theorem zmZ(hM:ug w (.slice oa n c) x)(hp:x.pend.length<=900000)(hb:x.body=true):
  Calls prog 109 #[.string s,.int .i64 (a:Int),zM x (.slice oa n c)] w λe w'=>e=.returned (xw (xB s a x))/\Below w.heap.size w w':=by
 rw[show xB s a x=⟨7,a,a+(Z9 (s.extract a s.size) x.pend).1,!(Z9 (s.extract a s.size) x.pend).2⟩from if_pos hb];have hts:(s.extract a s.size).size<=1000000:=by rw[ByteArray.size_extract];omega
 have Oh:∀W,Below w.heap.size w W->Calls prog 130 #[.string (s.extract a s.size),.slice oa n c] W λe w'=>∃v,e=.returned v/\(v=.tuple #[.int .i64 (((Z9 (s.extract a s.size) x.pend).1:Nat):Int),.bool (Z9 (s.extract a s.size) x.pend).2]/\Below W.heap.size W w'):=λW hW=>
  (zmD W (s.extract a s.size) hts (.slice oa n c) x.pend (hM.src.below hW) (by omega)).mono (λe w' h=>⟨_,h.1,rfl,h.2⟩)
 have hdz:(Z9 (s.extract a s.size) x.pend).1<=900:=by
  have hz:(s.extract a s.size).size=s.size-a:=by rw[ByteArray.size_extract];omega
  have:=(zcZ (s.extract a s.size) x.pend (by omega)).2;omega
 generalize Z9 (s.extract a s.size) x.pend=q at Oh hdz ⊢;obtain⟨dn,ok⟩:=q;dsimp only at Oh hdz ⊢;have HD:=hid Oh;clear Oh hts hT hM hp;have q0:(0:Int)<=(a:Int):=by omega
 have q1:(a:Int)<=(s.size:Int):=by omega
 unfold zM xw;rw[hb];have kb:=(zf.new w #[.int .i64 (x.await:Int),.slice oa n c,.bool true] 62).alloc (.cells #[.int .i64 0,.int .i64 0,.int .i64 0,.bool false] 67);have kr:=kJ w (.cells #[.int .i64 (x.await:Int),.slice oa n c,.bool true] 62) #[.int .i64 0,.int .i64 0,.int .i64 0,.bool false] 67;have hB0:=KN w (.cells #[.int .i64 (x.await:Int),.slice oa n c,.bool true] 62) (.cells #[.int .i64 0,.int .i64 0,.int .i64 0,.bool false] 67);have hz0:((w.alloc (.cells #[.int .i64 (x.await:Int),.slice oa n c,.bool true] 62)).alloc (.cells #[.int .i64 0,.int .i64 0,.int .i64 0,.bool false] 67)).heap.size=w.heap.size+2:=by simp
 have a1:=kb.cell 1;have a2:=kb.cell 2;go_enter func109,ntmps109;go_wp2;obtain⟨W1,hW1⟩:∃X,(w.alloc (.cells #[.int .i64 (x.await:Int),.slice oa n c,.bool true] 62)).alloc (.cells #[.int .i64 0,.int .i64 0,.int .i64 0,.bool false] 67)=X:=⟨_,rfl⟩;rw[hW1]at kb kr hB0 hz0 ⊢;clear hW1 a1 a2;have a1:W1.drew.cell? ⟨w.heap.size,1,none⟩=some (.slice oa n c):=kb.drew.cell 1;have HB0:=hid hB0;clear hB0
 go_region_law (first
  |(refine GL (by rfl) func130 (by kernel_rfl) (by kernel_rfl) _ _ (by rfl) [.string (s.extract a s.size),.slice oa n c] (by rfl) _ (HD.out _ HB0.out.drew) ?_;intro v w2 hh;obtain⟨hv,hb2⟩:=hh;subst hv;have vw:=(kr.drew).below hb2;have hB2:=HB0.out.drew.trans (hb2.mono (by show w.heap.size<=W1.heap.size;omega))))
 all_goals
  have r0:=vw.cell 0;have r1:=vw.cell 1;have r2:=vw.cell 2;have r3:=vw.cell 3;have g0:=vw.frozen 0;have g1:=vw.frozen 1;have g2:=vw.frozen 2;have g3:=vw.frozen 3;go_wp2;have k3:=(((vw.set 0 (.int .i64 7)).set 1 (.int .i64 (a:Int))).set 2 (.int .i64 ((a:Int)+(dn:Int)))).set 3 (.bool (!ok));have hB3:=((((hB2.setCell (p:=⟨w.heap.size+1,0,none⟩) (by show _<=w.heap.size+1;omega) (.int .i64 7)).setCell (p:=⟨w.heap.size+1,1,none⟩) (by show _<=w.heap.size+1;omega) (.int .i64 (a:Int))).setCell (p:=⟨w.heap.size+1,2,none⟩) (by show _<=w.heap.size+1;omega) (.int .i64 ((a:Int)+(dn:Int)))).setCell (p:=⟨w.heap.size+1,3,none⟩) (by show _<=w.heap.size+1;omega) (.bool (!ok)));have h0:=k3.cell 0;have h1:=k3.cell 1;have h2:=k3.cell 2;have h3:=k3.cell 3;refine bodyPost_ret (v:=.agg #[.int .i64 7,.int .i64 (a:Int),.int .i64 ((a:Int)+(dn:Int)),.bool (!ok)]) (by simp[results,results109,go_sem,h0,h1,h2,h3]) rfl ⟨by push_cast;rfl,hB3⟩
theorem zm0(hb:x.body=false)(k:Nat)(hk:jZ s a=k)(h6:k≠6)(hk9:k<=9):
  Calls prog 109 #[.string s,.int .i64 (a:Int),zM x (.slice oa n c)] w λe w'=>e=.returned (xw ⟨k,a,uD s a,false⟩)/\Below w.heap.size w w':=by
 have hme:=Og ha;have GU:∀W,Below w.heap.size w W->Calls prog 131 #[.string s,.int .i64 (a:Int)] W λe w'=>e=.returned (.tuple #[.int .i64 ((jZ s a:Nat):Int),.int .i64 ((uD s a-a:Nat):Int)])/\Below W.heap.size W w':=λW hW=>zcQ W s a ha (by omega) (hT.b hW);rw[hk]at GU;have h6b:((k:Int)==6)=false:=beq_eq_false_iff_ne.2 (by omega);obtain⟨m,hm⟩:∃m,uD s a-a=m:=⟨_,rfl⟩;have DX:uD s a=a+m:=by omega
 rw[hm]at GU;have HD:=hid GU;rw[DX]at hme ⊢;clear GU hT hm DX;have q0:(0:Int)<=(a:Int):=by omega
 have q1:(a:Int)<=(a:Int)+(m:Int):=by omega
 have q2:(a:Int)+(m:Int)<=(s.size:Int):=by omega
 have q3:(a:Int)+(m:Int)<=900:=by omega
 unfold zM xw;rw[hb];have kb:=(zf.new w #[.int .i64 (x.await:Int),.slice oa n c,.bool false] 62).alloc (.cells #[.int .i64 0,.int .i64 0,.int .i64 0,.bool false] 67);have kr:=kJ w (.cells #[.int .i64 (x.await:Int),.slice oa n c,.bool false] 62) #[.int .i64 0,.int .i64 0,.int .i64 0,.bool false] 67;have hB0:=KN w (.cells #[.int .i64 (x.await:Int),.slice oa n c,.bool false] 62) (.cells #[.int .i64 0,.int .i64 0,.int .i64 0,.bool false] 67);have hz0:((w.alloc (.cells #[.int .i64 (x.await:Int),.slice oa n c,.bool false] 62)).alloc (.cells #[.int .i64 0,.int .i64 0,.int .i64 0,.bool false] 67)).heap.size=w.heap.size+2:=by simp
 have a1:=kb.cell 1;have a2:=kb.cell 2;go_enter func109,ntmps109
 go_wp2_with fail
 have HB0:=hid hB0;refine(HD.out _ HB0.out).mono ?_;rintro e1 w2 ⟨rfl,hb2⟩;have vw:=kr.below hb2;have hB2:=hB0.trans (hb2.mono (by omega));clear kb kr hB0 hz0 a1 a2;have Zc:=vw;have hB3:=hB2;clear vw hB2;have r0:=Zc.cell 0;have r1:=Zc.cell 1;have r2:=Zc.cell 2;have r3:=Zc.cell 3;have g0:=Zc.frozen 0;have g1:=Zc.frozen 1;have g2:=Zc.frozen 2;have g3:=Zc.frozen 3;go_wp2;have k3:=(((Zc.set 0 (.int .i64 (k:Int))).set 1 (.int .i64 (a:Int))).set 2 (.int .i64 ((a:Int)+(m:Int)))).set 3 (.bool false);have hB4:=((((hB3.setCell (p:=⟨w.heap.size+1,0,none⟩) (by show _<=w.heap.size+1;omega) (.int .i64 (k:Int))).setCell (p:=⟨w.heap.size+1,1,none⟩) (by show _<=w.heap.size+1;omega) (.int .i64 (a:Int))).setCell (p:=⟨w.heap.size+1,2,none⟩) (by show _<=w.heap.size+1;omega) (.int .i64 ((a:Int)+(m:Int)))).setCell (p:=⟨w.heap.size+1,3,none⟩) (by show _<=w.heap.size+1;omega) (.bool false));have h0:=k3.cell 0;have h1:=k3.cell 1;have h2:=k3.cell 2;have h3:=k3.cell 3;refine bodyPost_ret (v:=.agg #[.int .i64 (k:Int),.int .i64 (a:Int),.int .i64 ((a:Int)+(m:Int)),.bool false]) (by simp[results,results109,go_sem,h0,h1,h2,h3]) rfl ⟨by push_cast;rfl,hB4⟩
theorem zm1(hb:x.body=false)(hk:jZ s a=6):
  Calls prog 109 #[.string s,.int .i64 (a:Int),zM x (.slice oa n c)] w λe w'=>e=.returned (xw ⟨6,a,uD s a,Z7 (s.extract a (uD s a))⟩)/\Below w.heap.size w w':=by
 have hme:=Og ha;have GU:∀W,Below w.heap.size w W->Calls prog 131 #[.string s,.int .i64 (a:Int)] W λe w'=>e=.returned (.tuple #[.int .i64 ((jZ s a:Nat):Int),.int .i64 ((uD s a-a:Nat):Int)])/\Below W.heap.size W w':=λW hW=>zcQ W s a ha (by omega) (hT.b hW);rw[hk]at GU;have hts:(s.extract a (uD s a)).size<=900:=by rw[ByteArray.size_extract];omega
 have hcl:=λW=>zfq (s.extract a (uD s a)) hts W;have hop:Z7 (s.extract a (uD s a))=!(YD (ZN (zU (s.extract a (uD s a)) (s.extract a (uD s a)).size).st)).toList.isEmpty:=by
  rw[ByteArray.toList_eq];rfl
 rw[hop];clear hop hts;generalize YD (ZN (zU (s.extract a (uD s a)) (s.extract a (uD s a)).size).st)=CT at hcl ⊢;obtain⟨m,hm⟩:∃m,uD s a-a=m:=⟨_,rfl⟩;have DX:uD s a=a+m:=by omega
 rw[DX]at hcl;have XK:=hid hcl;clear hcl;rw[hm]at GU;have HD:=hid GU;rw[DX]at hme ⊢;clear GU hT hm DX;have q0:(0:Int)<=(a:Int):=by omega
 have q1:(a:Int)<=(a:Int)+(m:Int):=by omega
 have q2:(a:Int)+(m:Int)<=(s.size:Int):=by omega
 have q3:(a:Int)+(m:Int)<=900:=by omega
 unfold zM xw;rw[hb];have kb:=(zf.new w #[.int .i64 (x.await:Int),.slice oa n c,.bool false] 62).alloc (.cells #[.int .i64 0,.int .i64 0,.int .i64 0,.bool false] 67);have kr:=kJ w (.cells #[.int .i64 (x.await:Int),.slice oa n c,.bool false] 62) #[.int .i64 0,.int .i64 0,.int .i64 0,.bool false] 67;have hB0:=KN w (.cells #[.int .i64 (x.await:Int),.slice oa n c,.bool false] 62) (.cells #[.int .i64 0,.int .i64 0,.int .i64 0,.bool false] 67);have hz0:((w.alloc (.cells #[.int .i64 (x.await:Int),.slice oa n c,.bool false] 62)).alloc (.cells #[.int .i64 0,.int .i64 0,.int .i64 0,.bool false] 67)).heap.size=w.heap.size+2:=by simp
 have a1:=kb.cell 1;have a2:=kb.cell 2;go_enter func109,ntmps109
 go_wp2_with fail
 have HB0:=hid hB0;refine(HD.out _ HB0.out).mono ?_;rintro e1 w2 ⟨rfl,hb2⟩;have vw:=kr.below hb2;have hB2:=hB0.trans (hb2.mono (by omega));clear kb kr hB0 hz0 a1 a2
 go_wp2_with fail
 refine(XK.out _).mono ?_;rintro e2 w3 ⟨rfl,hb3⟩;have Zc:=vw.below hb3;have hB3:=hB2.trans (hb3.mono hB2.size);clear vw hB2;have r0:=Zc.cell 0;have r1:=Zc.cell 1;have r2:=Zc.cell 2;have r3:=Zc.cell 3;have g0:=Zc.frozen 0;have g1:=Zc.frozen 1;have g2:=Zc.frozen 2;have g3:=Zc.frozen 3;go_wp2;have k3:=(((Zc.set 0 (.int .i64 6)).set 1 (.int .i64 (a:Int))).set 2 (.int .i64 ((a:Int)+(m:Int)))).set 3 (.bool (!CT.toList.isEmpty));have hB4:=((((hB3.setCell (p:=⟨w.heap.size+1,0,none⟩) (by show _<=w.heap.size+1;omega) (.int .i64 6)).setCell (p:=⟨w.heap.size+1,1,none⟩) (by show _<=w.heap.size+1;omega) (.int .i64 (a:Int))).setCell (p:=⟨w.heap.size+1,2,none⟩) (by show _<=w.heap.size+1;omega) (.int .i64 ((a:Int)+(m:Int)))).setCell (p:=⟨w.heap.size+1,3,none⟩) (by show _<=w.heap.size+1;omega) (.bool (!CT.toList.isEmpty)));have h0:=k3.cell 0;have h1:=k3.cell 1;have h2:=k3.cell 2;have h3:=k3.cell 3;refine bodyPost_ret (v:=.agg #[.int .i64 6,.int .i64 (a:Int),.int .i64 ((a:Int)+(m:Int)),.bool (!CT.toList.isEmpty)]) (by simp[results,results109,go_sem,h0,h1,h2,h3]) rfl ⟨by push_cast;rfl,hB4⟩
theorem zm2(hM:ug w (.slice oa n c) x)(hp:x.pend.length<=900000):
  Calls prog 109 #[.string s,.int .i64 (a:Int),zM x (.slice oa n c)] w λe w'=>e=.returned (xw (xB s a x))/\Below w.heap.size w w':=by
 by_cases hb:x.body=true
 ·exact zmZ w x oa n c s a ha hs hT hM hp hb
 ·have hb':x.body=false:=by simpa using hb
  rw[show xB s a x=⟨jZ s a,a,uD s a,decide (jZ s a=6)&& Z7 (s.extract a (uD s a))⟩from if_neg hb];by_cases h6:jZ s a=6
  ·rw[h6]
   exact zm1 w x oa n c s a ha hs hT hb' h6
  ·rw[decide_eq_false h6]
   have:=zcY s a;exact zm0 w x oa n c s a ha hs hT hb' _ rfl h6 (by omega)
end
theorem zm3{X:World}{B z b o:Nat}{v v0 v1 v2 v3 v4 v5 v6:Value}(hB:B≠b)(hz:z≠b)
 (h:X.cell? ⟨B,0,none⟩=some v0/\X.cell? ⟨B,1,none⟩=some v1/\X.cell? ⟨B,2,none⟩=some v2/\X.cell? ⟨z,0,none⟩=some v3/\X.cell? ⟨z,1,none⟩=some v4/\X.cell? ⟨z,2,none⟩=some v5/\X.cell? ⟨z,3,none⟩=some v6):
  (X.setCell ⟨b,o,none⟩ v).cell? ⟨B,0,none⟩=some v0/\(X.setCell ⟨b,o,none⟩ v).cell? ⟨B,1,none⟩=some v1/\(X.setCell ⟨b,o,none⟩ v).cell? ⟨B,2,none⟩=some v2/\(X.setCell ⟨b,o,none⟩ v).cell? ⟨z,0,none⟩=some v3/\(X.setCell ⟨b,o,none⟩ v).cell? ⟨z,1,none⟩=some v4/\(X.setCell ⟨b,o,none⟩ v).cell? ⟨z,2,none⟩=some v5/\(X.setCell ⟨b,o,none⟩ v).cell? ⟨z,3,none⟩=some v6:=by
 have e1:∀j,(X.setCell ⟨b,o,none⟩ v).cell? ⟨B,j,none⟩=X.cell? ⟨B,j,none⟩:=λj=>World.cell?_of_block (Below.heap_setCell X _ _ B hB);have e2:∀j,(X.setCell ⟨b,o,none⟩ v).cell? ⟨z,j,none⟩=X.cell? ⟨z,j,none⟩:=λj=>World.cell?_of_block (Below.heap_setCell X _ _ z hz);simp only[e1,e2];exact h
section
variable(w:World)(x:Lx)(oa:Option Addr)(n c:Nat)(s:ByteArray)(a:Nat)(ha:a<s.size)(hs:s.size<=900)(hT:Tx w)
include ha hs hT
theorem vH(hM:ug w (.slice oa n c) x)(hp:x.pend.length<=800000)(haw:x.await<=1000):
  Calls prog 91 #[.string s,.int .i64 (a:Int),zM x (.slice oa n c)] w λe w'=>∃xC n' c',e=.returned (.tuple #[xw (xB s a x),zM (qY s a x) (.slice xC n' c')])/\ug w' (.slice xC n' c') (qY s a x)/\zg (λb=>(Value.slice oa n c).ownBlock=some b) w w'/\∀g,(Value.slice xC n' c').ownBlock=some g->(Value.slice oa n c).ownBlock=some g\/w.heap.size<=g:=by
 have hrd:∀W,Below w.heap.size w W->Calls prog 109 #[.string s,.int .i64 (a:Int),zM x (.slice oa n c)] W λe w'=>e=.returned (xw (xB s a x))/\Below W.heap.size W w':=λW hW=>zm2 W x oa n c s a ha hs (hT.b hW) (hM.below hW) (by omega);have hbe:∀W,Below w.heap.size w W->Calls prog 110 #[zM x (.slice oa n c),xw (xB s a x),.string (s.extract (xB s a x).zh (xB s a x).en)] W λe w'=>∃v,e=.returned v/\qM W w' oa n c (qY s a x) (.returned v):=λW hW=>(Po W x oa n c (hM.below hW) s a ha (by omega) (hT.b hW) (by omega) haw).mono (λe w' h=>by
  obtain⟨xC,n',c',he,hr⟩:=h;exact⟨_,he,xC,n',c',rfl,hr⟩)
 have hok:=Rj x ha;have TS:=hid hM.pos;generalize xB s a x=t at hrd hbe hok ⊢;obtain⟨tk,tf,te,top⟩:=t;obtain⟨h1,h2,h3⟩:=hok;dsimp only at h1 h2 h3 hrd hbe ⊢;subst h1;generalize qY s tf x=y at hbe ⊢;have qF:=hid hrd;have Zl:=hid hbe;clear hrd hbe hT hM ha;unfold xw zM at*;obtain⟨pv,hpv⟩:∃pv,Value.slice oa n c=pv:=⟨_,rfl⟩;have q0:(0:Int)<=(tf:Int):=by omega
 have q1:(tf:Int)<=(te:Int):=by omega
 have q2:(te:Int)<=(s.size:Int):=by omega
 clear hpv;go_enter func91,ntmps91;have kb:=((zf.new w #[.int .i64 (x.await:Int),.slice oa n c,.bool x.body] 62).alloc (.cells #[.int .i64 0,.int .i64 0,.int .i64 0,.bool false] 67)).alloc (.cells #[.int .i64 0,.slice none 0 0,.bool false] 62);have a0:=kb.cell 0;have a1:=kb.cell 1;have a2:=kb.cell 2
 go_wp2_with fail
 have hB0:=X5 w (.cells #[.int .i64 (x.await:Int),.slice oa n c,.bool x.body] 62) (.cells #[.int .i64 0,.int .i64 0,.int .i64 0,.bool false] 67) (.cells #[.int .i64 0,.slice none 0 0,.bool false] 62);have kt:=(kJ w (.cells #[.int .i64 (x.await:Int),.slice oa n c,.bool x.body] 62) #[.int .i64 0,.int .i64 0,.int .i64 0,.bool false] 67).alloc (.cells #[.int .i64 0,.slice none 0 0,.bool false] 62);have kr:=qZ w (.cells #[.int .i64 (x.await:Int),.slice oa n c,.bool x.body] 62) (.cells #[.int .i64 0,.int .i64 0,.int .i64 0,.bool false] 67) #[.int .i64 0,.slice none 0 0,.bool false] 62;refine(qF.out _ hB0).mono ?_;rintro e1 w2 ⟨rfl,hb2⟩;have kb2:=kb.below hb2;have KP:=kt.below hb2;have vw:=kr.below hb2;have hz2:w.heap.size+3<=w2.heap.size:=by have:=hb2.size;simp at this;omega
 have hB2:Below w.heap.size w w2:=hB0.trans (hb2.mono hB0.size);clear kb kt kr a0 a1 a2 hB0 hb2;obtain⟨Bz,Ia⟩:∃z,w.heap.size=z:=⟨_,rfl⟩;have Rk:=hid Ia;rw[Ia]at kb2 KP vw hz2 hB2 ⊢;clear Ia;have HB2:=hid hB2;clear hB2;go_wp2;obtain⟨W3,hW3⟩:∃X,w2.alloc (.cells #[.int .i64 (tk:Int),.int .i64 (tf:Int),.int .i64 (te:Int),.bool top] 67)=X:=⟨_,rfl⟩;obtain⟨z,hz⟩:∃z,w2.heap.size=z:=⟨_,rfl⟩;have k8:zf W3 z #[.int .i64 (tk:Int),.int .i64 (tf:Int),.int .i64 (te:Int),.bool top] 67:=by rw[←hW3,←hz];exact zf.new w2 _ _
 have Yr:zf W3 Bz #[.int .i64 (x.await:Int),.slice oa n c,.bool x.body] 62:=by rw[←hW3];exact kb2.alloc _
 have Qz:zf W3 (Bz+1) #[.int .i64 0,.int .i64 0,.int .i64 0,.bool false] 67:=by rw[←hW3];exact KP.alloc _
 have Zc:zf W3 (Bz+1+1) #[.int .i64 0,.slice none 0 0,.bool false] 62:=by rw[←hW3];exact vw.alloc _
 have hz3:W3.heap.size=z+1:=by rw[←hW3,←hz];simp
 have hB3:Below Bz w W3:=by rw[←hW3];exact HB2.out.alloc (by omega) _
 rw[hW3,hz];rw[hz]at hz2;clear hW3 hz kb2 KP vw;have HB3:=hid hB3;have yg:Hid (∀X,Below Bz w X->Below w.heap.size w X):=hid (λX h=>by rw[Rk.out];exact h);have VT:Hid (∀g,(Value.slice oa n c).ownBlock=some g->g<Bz):=hid (λg hg=>by have:=(TS.out g hg).2;have:=Rk.out;omega);clear hB3;have QR:Hid (∀X:World,Below Bz w X->Below Bz w ((((X.setCell ⟨Bz+1,0,none⟩ (.int .i64 (tk:Int))).setCell ⟨Bz+1,1,none⟩ (.int .i64 (tf:Int))).setCell ⟨Bz+1,2,none⟩ (.int .i64 (te:Int))).setCell ⟨Bz+1,3,none⟩ (.bool top))):=hid (λX h=>
  (((h.setCell (p:=⟨Bz+1,0,none⟩) (by show Bz<=Bz+1;omega) _).setCell (p:=⟨Bz+1,1,none⟩) (by show Bz<=Bz+1;omega) _).setCell (p:=⟨Bz+1,2,none⟩) (by show Bz<=Bz+1;omega) _).setCell (p:=⟨Bz+1,3,none⟩) (by show Bz<=Bz+1;omega) _)
 have zm4:=(((Qz.drew.set 0 (.int .i64 (tk:Int))).set 1 (.int .i64 (tf:Int))).set 2 (.int .i64 (te:Int))).set 3 (.bool top);have zm5:=(((Zc.drew.other 0 (.int .i64 (tk:Int)) (b':=Bz+1) (by omega)).other 1 (.int .i64 (tf:Int)) (b':=Bz+1) (by omega)).other 2 (.int .i64 (te:Int)) (b':=Bz+1) (by omega)).other 3 (.bool top) (b':=Bz+1) (by omega);have zm6:=(((Yr.drew.other 0 (.int .i64 (tk:Int)) (b':=Bz+1) (by omega)).other 1 (.int .i64 (tf:Int)) (b':=Bz+1) (by omega)).other 2 (.int .i64 (te:Int)) (b':=Bz+1) (by omega)).other 3 (.bool top) (b':=Bz+1) (by omega);have k8s:=(((k8.drew.other 0 (.int .i64 (tk:Int)) (b':=Bz+1) (by omega)).other 1 (.int .i64 (tf:Int)) (b':=Bz+1) (by omega)).other 2 (.int .i64 (te:Int)) (b':=Bz+1) (by omega)).other 3 (.bool top) (b':=Bz+1) (by omega);have hsz:((((W3.drew.setCell ⟨Bz+1,0,none⟩ (.int .i64 (tk:Int))).setCell ⟨Bz+1,1,none⟩ (.int .i64 (tf:Int))).setCell ⟨Bz+1,2,none⟩ (.int .i64 (te:Int))).setCell ⟨Bz+1,3,none⟩ (.bool top)).heap.size=z+1:=by
  simp[hz3]
 have b0:=Yr.drew.cell 0;have b1:=Yr.drew.cell 1;have b2:=Yr.drew.cell 2;have z0:=k8.drew.cell 0;have z1:=k8.drew.cell 1;have z2:=k8.drew.cell 2;have z3:=k8.drew.cell 3;have t0:=Qz.drew.cell 0;have t1:=Qz.drew.cell 1;have t2:=Qz.drew.cell 2;have t3:=Qz.drew.cell 3;have Xl:=Qz.drew.frozen 0;have Xm:=Qz.drew.frozen 1;have Xn:=Qz.drew.frozen 2;have Xo:=Qz.drew.frozen 3
 go_region_held3 (λw'=>w'.cell? ⟨Bz,0,none⟩=some (.int .i64 (x.await:Int))/\w'.cell? ⟨Bz,1,none⟩=some (.slice oa n c)/\w'.cell? ⟨Bz,2,none⟩=some (.bool x.body)/\w'.cell? ⟨z,0,none⟩=some (.int .i64 (tk:Int))/\w'.cell? ⟨z,1,none⟩=some (.int .i64 (tf:Int))/\w'.cell? ⟨z,2,none⟩=some (.int .i64 (te:Int))/\w'.cell? ⟨z,3,none⟩=some (.bool top)) (((repeat(refine zm3 (by omega) (by omega) ?_));first|exact⟨b0,b1,b2,z0,z1,z2,z3⟩|exact⟨X7.cell 0,X7.cell 1,X7.cell 2,TW.cell 0,TW.cell 1,TW.cell 2,TW.cell 3⟩)) (first
  |(refine GL (by rfl) func110 (by kernel_rfl) (by kernel_rfl) _ _ (by rfl) [.agg #[.int .i64 (x.await:Int),.slice oa n c,.bool x.body],.agg #[.int .i64 (tk:Int),.int .i64 (tf:Int),.int .i64 (te:Int),.bool top],.string (s.extract tf te)] (by rfl) _ (Zl.out _ (yg.out _ HB3.out.drew)) ?_;intro v w4 hh;obtain⟨VM,n4,c4,hv,zH,jh,hg4⟩:=hh;clear t0 t1 t2 t3 Xl Xm Xn Xo;have hv2:v=.agg #[.int .i64 (y.await:Int),.slice VM n4 c4,.bool y.body]:=(by injection hv);clear hv;subst hv2;have X7:=Yr.drew.zh jh (λe=>by have:=VT.out _ e;omega);have TW:=k8.drew.zh jh (λe=>by have:=VT.out _ e;omega);have KQ:=Qz.drew.zh jh (λe=>by have:=VT.out _ e;omega);have Vy:=Zc.drew.zh jh (λe=>by have:=VT.out _ e;omega);have u0:=KQ.cell 0;have u1:=KQ.cell 1;have u2:=KQ.cell 2;have u3:=KQ.cell 3;have uf0:=KQ.frozen 0;have wJ:=KQ.frozen 1;have BX:=KQ.frozen 2;have uf3:=KQ.frozen 3;have y0:=Vy.cell 0;have y1:=Vy.cell 1;have y2:=Vy.cell 2;have KR:=Vy.frozen 0;have XH:=Vy.frozen 1;have pR:=Vy.frozen 2)
  |(refine GL (by rfl) func110 (by kernel_rfl) (by kernel_rfl) _ _ (by rfl) [.agg #[.int .i64 (x.await:Int),.slice oa n c,.bool x.body],.agg #[.int .i64 (tk:Int),.int .i64 (tf:Int),.int .i64 (te:Int),.bool top],.string (s.extract tf te)] (by rfl) _ (Zl.out _ (yg.out _ (QR.out _ HB3.out.drew))) ?_;intro v w4 hh;obtain⟨VM,n4,c4,hv,zH,jh,hg4⟩:=hh;clear t0 t1 t2 t3 Xl Xm Xn Xo;have hv2:v=.agg #[.int .i64 (y.await:Int),.slice VM n4 c4,.bool y.body]:=(by injection hv);clear hv;subst hv2;have X7:=zm6.zh jh (λe=>by have:=VT.out _ e;omega);have TW:=k8s.zh jh (λe=>by have:=VT.out _ e;omega);have KQ:=zm4.zh jh (λe=>by have:=VT.out _ e;omega);have Vy:=zm5.zh jh (λe=>by have:=VT.out _ e;omega);have y0:=Vy.cell 0;have y1:=Vy.cell 1;have y2:=Vy.cell 2;have KR:=Vy.frozen 0;have XH:=Vy.frozen 1;have pR:=Vy.frozen 2))
 all_goals
  clear Zl qF;go_wp2;have e6:=(((KQ.set 0 (.int .i64 (tk:Int))).set 1 (.int .i64 (tf:Int))).set 2 (.int .i64 (te:Int))).set 3 (.bool top);have f6:=((e6.other 0 (.int .i64 (y.await:Int)) (b':=Bz+1+1) (by omega)).other 1 (.slice VM n4 c4) (b':=Bz+1+1) (by omega)).other 2 (.bool y.body) (b':=Bz+1+1) (by omega);have e7:=(((Vy.other 0 (.int .i64 (tk:Int)) (b':=Bz+1) (by omega)).other 1 (.int .i64 (tf:Int)) (b':=Bz+1) (by omega)).other 2 (.int .i64 (te:Int)) (b':=Bz+1) (by omega)).other 3 (.bool top) (b':=Bz+1) (by omega);have f7:=((e7.set 0 (.int .i64 (y.await:Int))).set 1 (.slice VM n4 c4)).set 2 (.bool y.body);have hF:zg (λb=>b=Bz+1\/b=Bz+1+1) w4 (((((((w4.setCell ⟨Bz+1,0,none⟩ (.int .i64 (tk:Int))).setCell ⟨Bz+1,1,none⟩ (.int .i64 (tf:Int))).setCell ⟨Bz+1,2,none⟩ (.int .i64 (te:Int))).setCell ⟨Bz+1,3,none⟩ (.bool top)).setCell ⟨Bz+1+1,0,none⟩ (.int .i64 (y.await:Int))).setCell ⟨Bz+1+1,1,none⟩ (.slice VM n4 c4)).setCell ⟨Bz+1+1,2,none⟩ (.bool y.body)):=
   (((((((zg.refl _ w4).setCell 0 (.inl (.inl rfl)) _).setCell 1 (.inl (.inl rfl)) _).setCell 2 (.inl (.inl rfl)) _).setCell 3 (.inl (.inl rfl)) _).setCell 0 (.inl (.inr rfl)) _).setCell 1 (.inl (.inr rfl)) _).setCell 2 (.inl (.inr rfl)) _
  obtain⟨W5,Zg⟩:∃X,((((((w4.setCell ⟨Bz+1,0,none⟩ (.int .i64 (tk:Int))).setCell ⟨Bz+1,1,none⟩ (.int .i64 (tf:Int))).setCell ⟨Bz+1,2,none⟩ (.int .i64 (te:Int))).setCell ⟨Bz+1,3,none⟩ (.bool top)).setCell ⟨Bz+1+1,0,none⟩ (.int .i64 (y.await:Int))).setCell ⟨Bz+1+1,1,none⟩ (.slice VM n4 c4)).setCell ⟨Bz+1+1,2,none⟩ (.bool y.body)=X:=⟨_,rfl⟩;rw[Zg]at f6 f7 hF ⊢;have h0:W5.cell? ⟨Bz+1,0,none⟩=some (.int .i64 (tk:Int)):=f6.cell 0;have h1:W5.cell? ⟨Bz+1,1,none⟩=some (.int .i64 (tf:Int)):=f6.cell 1;have h2:W5.cell? ⟨Bz+1,2,none⟩=some (.int .i64 (te:Int)):=f6.cell 2;have h3:W5.cell? ⟨Bz+1,3,none⟩=some (.bool top):=f6.cell 3;have i0:W5.cell? ⟨Bz+1+1,0,none⟩=some (.int .i64 (y.await:Int)):=f7.cell 0;have i1:W5.cell? ⟨Bz+1+1,1,none⟩=some (.slice VM n4 c4):=f7.cell 1;have i2:W5.cell? ⟨Bz+1+1,2,none⟩=some (.bool y.body):=f7.cell 2;refine bodyPost_ret (v:=.tuple #[.agg #[.int .i64 (tk:Int),.int .i64 (tf:Int),.int .i64 (te:Int),.bool top],.agg #[.int .i64 (y.await:Int),.slice VM n4 c4,.bool y.body]]) (by simp[results,results91,go_sem,h0,h1,h2,h3,i0,i1,i2]) rfl ?_;have DN:∀g,(Value.slice VM n4 c4).ownBlock=some g->¬(g=Bz+1\/g=Bz+1+1):=λg hg hh=>by
   rcases hg4 g hg with q|q
   ·have:=VT.out g q;omega
   ·first
     |(have:z+1<=g:=by have:=hz3;have:W3.heap.size<=g:=q;omega
       omega)
     |(rw[hsz]at q;omega)
  have hFw:zg (λb=>(Value.slice oa n c).ownBlock=some b) w w4:=by
   first
    |exact(zg.of_below (yg.out _ HB3.out.drew|>.mono (by rw[Rk.out];exact waa _))).trans jh (λ_ _ h=>h)
    |(have hq:=QR.out _ HB3.out.drew
      rw[←Rk.out]at hq;have hq2:=jh;rw[←Rk.out]at hq2;exact(zg.of_below hq).trans hq2 (λ_ _ h=>h))
  refine⟨VM,n4,c4,rfl,zH.zh hF DN,hFw.trans hF (λi hi hh=>by have:=Rk.out;omega),λg hg=>?_⟩;rcases hg4 g hg with q|q
  ·exact .inl q
  ·right
   have:=Rk.out
   first
    |(have:W3.heap.size<=g:=q
      omega)
    |(rw[hsz]at q;omega)
end
end Go.Proofs.YtkolpaonccmgiaaGreatDoor

/- A range over a function whose iterator yields what -/
import Derived.Test.YtkolpaonccmgiaaGreatDoorTkC
import Derived.Test.YtkolpaonccmgiaaGreatDoorAp
set_option linter.unusedVariables false
namespace Go.Proofs.YtkolpaonccmgiaaGreatDoor
set_option linter.unusedSectionVars false
set_option linter.unusedVariables false
open Go.RowKit
def SeqE {α:Type} (n:Nat) (P:Program) (g:Nat) (lb:Array Value) (E:α→(Nat→Prop)→World→Array Value→Prop) (C T0:Nat→Prop) (L:List α) (W:World):Prop:=
 ∀(l:Nat) (J Jx:List (α×Array Value)→(Nat→Prop)→World→Prop),Abid J→Abid Jx→
  (∀pre x vs rest T W1,L=pre.map Prod.fst++x::rest→J pre T W1→(∀b,T b→b<W1.heap.size)→E x T W1 vs→YieldAt Fence.wide (n - 1) P l vs W1 fun e W'=>
   KpT C T W1 W'∧((e=.returned (.bool true)∧J (pre++ [(x,vs)]) T W')∨(e=.returned (.bool false)∧Jx (pre++ [(x,vs)]) T W')))→
  J [] T0 W→
  CallsIn Fence.wide n P g (#[.func (.yield l) #[] #[]]++lb) W fun e W'=>(∃v,e=.returned v)∧((∃prs T,prs.map Prod.fst=L∧J prs T W'∧(∀x vs,prs.getLast?=some (x,vs)→E x T W' vs))∨(∃pre T,Jx pre T W'))
variable {n:Nat} {P:Program} {w:World}
theorem wpTE {α:Type} {g:Operand} {ps:Array Tmp} {assign body:Code} {Q:Exit→Act→World→Prop} {a:Act}
  {gf:Nat} {lb:Array Value} (hg:a.eval g=.func (.func gf) #[] lb) (eg:∀args w,(callFunc gf args).run P w=.ok (.enter gf args) w)
  {E:α→(Nat→Prop)→World→Array Value→Prop} {C T0:Nat→Prop} {L:List α} (hseq:∀W,Below w.heap.size w W→SeqE (n - 1) P gf lb E C T0 L W)
  (hC:∀b,C b→b<w.heap.size) (hT0:∀b,T0 b→b<w.heap.size) (hps:∀x T W vs,E x T W vs→vs.size=ps.size)
  (hE:∀x T W W' vs,E x T W vs→Frm (fun b=>b=w.heap.size+1) W W'→¬T (w.heap.size+1)→E x T W' vs)
  (I:List (α×Array Value)→(Nat→Prop)→World→Prop) (Ix:Code→List (α×Array Value)→(Nat→Prop)→World→Prop) (hI:AbidL (w.heap.size+1) I) (hIx:∀c,AbidL (w.heap.size+1) (Ix c))
  (h0:∀W,Below w.heap.size w W→W.heap.size=w.heap.size+2→I [] T0 W)
  (hround:∀pre x vs rest T W,L=pre.map Prod.fst++x::rest→I pre T W→E x T W vs→(∀b,T b→b<W.heap.size)→w.heap.size+2≤W.heap.size→(∃r,W.heap[w.heap.size+1]?=some (.loop r))→W.heap[w.heap.size]?=some (.deferred (some []))→¬T (w.heap.size+1)→¬T w.heap.size→
   assign.wpIn (Fence.wide.inRound (w.heap.size+1)) (n - 1 - 1) P (Exit.then (fun a' W'=>W'.heap[w.heap.size+1]?=W.heap[w.heap.size+1]?∧W'.heap[w.heap.size]?=W.heap[w.heap.size]?∧KpT C T W W'∧
    ∀r,body.wpIn (Fence.wide.inRound (w.heap.size+1)) (n - 1 - 1) P (postT C (w.heap.size+1) w.heap.size I Ix (pre++ [(x,vs)]) T (W'.putObj (w.heap.size+1) (.loop r))) a' (W'.putObj (w.heap.size+1) (.loop r))) (fun _ _ _=>False)) { tmps:=(ps.zip vs).foldl (fun t (p,v)=>t.setIfInBounds p v) a.tmps,defers:=[] } W)
  (hdone:∀prs T W,prs.map Prod.fst=L→I prs T W→(∀x vs,prs.getLast?=some (x,vs)→E x T W vs)→w.heap.size+2≤W.heap.size→W.heap[w.heap.size]?=some (.deferred (some []))→Q .normal { a with defers:={ target:=.collected w.heap.size,args:=#[] }::a.defers } W)
  (hstop:∀c pre T W,Ix c pre T W→w.heap.size+2≤W.heap.size→W.heap[w.heap.size]?=some (.deferred (some []))→c.wpIn Fence.wide n P Q { a with defers:={ target:=.collected w.heap.size,args:=#[] }::a.defers } W):
  (Code.rangeFunc g ps assign body).wpIn Fence.wide n P Q a w:=by
 refine wpIn_rangeFunc ?_
 intro fn hfn
 rw [show Fence.wide.round=none from rfl]
 obtain⟨rec,hrec⟩:∃rec:LoopState→Option Code→Loop,rec=fun st pe=>{ state:=st,pending:=pe,fn,tmps:=a.tmps,params:=ps,assign,body,defers:=w.heap.size }:=⟨_,rfl⟩
 obtain⟨W1,hW1⟩:∃W1,(w.alloc (.deferred (some []))).alloc (.loop (rec .ready none))=W1:=⟨_,rfl⟩
 have hL1:W1.heap[w.heap.size+1]?=some (.loop (rec .ready none)):=by
  rw [←hW1];have:=World.alloc_heap_new (w.alloc (.deferred (some []))) (.loop (rec .ready none));rwa [World.size_alloc]at this
 have hD1:W1.heap[w.heap.size]?=some (.deferred (some [])):=by
  rw [←hW1];exact(Below.heap_alloc _ _ _ (by simp)).trans (World.alloc_heap_new w _)
 have hs1:W1.heap.size=w.heap.size+2:=by rw [←hW1];simp
 have hb1:Below w.heap.size w W1:=by rw [←hW1];exact((Below.refl _ w).alloc (Nat.le_refl _) _).alloc (by simp) _
 refine⟨w.heap.size+1,[{ target:=.collected w.heap.size,args:=#[] }],W1,{ target:=.fn (.func gf) lb,args:=#[.func (.yield (w.heap.size+1)) #[] #[]] },W1,gf,
  #[.func (.yield (w.heap.size+1)) #[] #[]]++lb,W1,?_,?_,?_,?_,(fun h=>by cases h),?_⟩
 ·rw [←hW1,hrec];exact run_enterLoop_outer _ _ _ _ _
 ·simp only [resolve,hg]
  simp [go_sem]
 ·intro f' hf';trivial
 ·simp [invoke,go_sem,eg]
 ·refine(hseq W1 hb1 (w.heap.size+1)
   (fun pre T W=>I pre T W∧W.heap[w.heap.size+1]?=some (.loop (rec .ready none))∧W.heap[w.heap.size]?=some (.deferred (some []))∧¬T (w.heap.size+1)∧¬T w.heap.size)
   (fun pre T W=>∃c,Ix c pre T W∧W.heap[w.heap.size+1]?=some (.loop (rec .done (some c)))∧W.heap[w.heap.size]?=some (.deferred (some []))∧¬T (w.heap.size+1)∧¬T w.heap.size)
   ?_ ?_ ?_ ⟨h0 W1 hb1 hs1,hL1,hD1,fun h=>by have:=hT0 _ h;omega,fun h=>by have:=hT0 _ h;omega⟩).mono ?_
  ·rintro s T A B T' ⟨hi,hl,hd,t1,t2⟩ hf hT
   have l1:=(Array.getElem?_eq_some_iff.1 hl).1
   exact⟨hI s T A B T' hi (hf.mono fun _ _ h=> .inl h) hT,(hf.block _ l1 t1).trans hl,(hf.block _ (by omega) t2).trans hd,fun h=>by rcases hT _ h with h|h;exact t1 h;omega,fun h=>by rcases hT _ h with h|h;exact t2 h;omega⟩
  ·rintro s T A B T' ⟨c,hi,hl,hd,t1,t2⟩ hf hT
   have l1:=(Array.getElem?_eq_some_iff.1 hl).1
   exact⟨c,hIx c s T A B T' hi (hf.mono fun _ _ h=> .inl h) hT,(hf.block _ l1 t1).trans hl,(hf.block _ (by omega) t2).trans hd,fun h=>by rcases hT _ h with h|h;exact t1 h;omega,fun h=>by rcases hT _ h with h|h;exact t2 h;omega⟩
  ·rintro pre x vs rest T W hLx ⟨hi,hl,hd,t1,t2⟩ hTb hEx
   have c1:¬C (w.heap.size+1):=fun h=>by have:=hC _ h;omega
   have l1:=(Array.getElem?_eq_some_iff.1 hl).1
   have hy:=run_yield (P:=P) (args:=vs) hl (by rw [hrec];exact hps x T W vs hEx)
   rw [hrec]at hy
   refine⟨fn,_,assign,body,hy,roundIn_of_wpIn hfn (wpIn_mono (hround pre x vs rest T W hLx hi hEx hTb (by omega) ⟨_,hl⟩ hd t1 t2) ?_)⟩
   clear hy
   rintro e0 a' Wa he0
   cases e0 with
   |normal=>?_
   |ret=>exact he0.elim
   |exit id=>exact he0.elim
   |goto t=>exact he0.elim
   |panic ch=>exact he0.elim
   |outgrown=>exact he0.elim
   obtain⟨hla,hda,hka,hbody⟩:=he0
   have hl2:=hla.trans hl
   have hd2:=hda.trans hd
   have l2:=(Array.getElem?_eq_some_iff.1 hl2).1
   refine⟨_,run_beginRound hl2 (by rw [hrec]),?_⟩
   have hl3:(Wa.putObj (w.heap.size+1) (.loop { rec .ready none with state:=.busy })).heap[w.heap.size+1]?=some (.loop { rec .ready none with state:=.busy }):=World.putObj_heap_same l2
   have hd3:(Wa.putObj (w.heap.size+1) (.loop { rec .ready none with state:=.busy })).heap[w.heap.size]?=some (.deferred (some [])):=(World.putObj_heap_other (by omega)).trans hd2
   have hsame:∀b,T b→T b∨Wa.heap.size≤b:=fun _ h=> .inl h
   refine wpIn_mono (hbody { rec .ready none with state:=.busy }) ?_
   have fin:∀(jump:Option Code) (W3:World),W3.heap[w.heap.size+1]?=(Wa.putObj (w.heap.size+1) (.loop { rec .ready none with state:=.busy })).heap[w.heap.size+1]?→W3.heap[w.heap.size]?=(Wa.putObj (w.heap.size+1) (.loop { rec .ready none with state:=.busy })).heap[w.heap.size]?→
     (Instr.endRound (w.heap.size+1) jump).run P W3=.ok (.bool jump.isNone) (W3.putObj (w.heap.size+1) (.loop (rec (if jump.isNone then .ready else .done) jump)))∧
     (W3.putObj (w.heap.size+1) (.loop (rec (if jump.isNone then .ready else .done) jump))).heap[w.heap.size+1]?=some (.loop (rec (if jump.isNone then .ready else .done) jump))∧
     (W3.putObj (w.heap.size+1) (.loop (rec (if jump.isNone then .ready else .done) jump))).heap[w.heap.size]?=some (.deferred (some [])):=fun jump W3 h1 h2=>by
    have hl4:=h1.trans hl3
    have:=run_endRound (P:=P) jump hl4
    rw [hrec]at this ⊢
    exact⟨this,World.putObj_heap_same (Array.getElem?_eq_some_iff.1 hl4).1,(World.putObj_heap_other (by omega)).trans (h2.trans hd3)⟩
   rintro e a3 W3 hp
   cases e with
   |normal=>
    obtain⟨h1,h2,hk3,hi3⟩:=hp
    obtain⟨hr,hl4,hd4⟩:=fin none W3 h1 h2
    exact⟨_,_,hr,hka.trans (((KpT.putObj _ t1 c1).trans hk3).trans (KpT.putObj _ t1 c1)),.inl ⟨rfl,hI _ T _ _ T hi3 (frm_put W3 _ (.inr rfl)) (fun _ h=> .inl h),hl4,hd4,t1,t2⟩⟩
   |ret=>
    obtain⟨h1,h2,hk3,hi3⟩:=hp
    obtain⟨hr,hl4,hd4⟩:=fin (some .ret) W3 h1 h2
    exact⟨_,_,hr,hka.trans (((KpT.putObj _ t1 c1).trans hk3).trans (KpT.putObj _ t1 c1)),.inr ⟨rfl,.ret,hIx _ _ T _ _ T hi3 (frm_put W3 _ (.inr rfl)) (fun _ h=> .inl h),hl4,hd4,t1,t2⟩⟩
   |exit id=>
    obtain⟨h1,h2,hk3,hi3⟩:=hp
    obtain⟨hr,hl4,hd4⟩:=fin (some (.exit id)) W3 h1 h2
    exact⟨_,_,hr,hka.trans (((KpT.putObj _ t1 c1).trans hk3).trans (KpT.putObj _ t1 c1)),.inr ⟨rfl,.exit id,hIx _ _ T _ _ T hi3 (frm_put W3 _ (.inr rfl)) (fun _ h=> .inl h),hl4,hd4,t1,t2⟩⟩
   |goto t=>
    obtain⟨h1,h2,hk3,hi3⟩:=hp
    obtain⟨hr,hl4,hd4⟩:=fin (some (.goto t)) W3 h1 h2
    exact⟨_,_,hr,hka.trans (((KpT.putObj _ t1 c1).trans hk3).trans (KpT.putObj _ t1 c1)),.inr ⟨rfl,.goto t,hIx _ _ T _ _ T hi3 (frm_put W3 _ (.inr rfl)) (fun _ h=> .inl h),hl4,hd4,t1,t2⟩⟩
   |panic ch=>exact hp.elim
   |outgrown=>exact hp.elim
  ·rintro e W2 ⟨⟨v,rfl⟩,(⟨prs,T,hmap,⟨hi,hl,hd,t1,t2⟩,hlast⟩|⟨pre,T,c,hi,hl,hd,t1,t2⟩)⟩
   ·have l1:=(Array.getElem?_eq_some_iff.1 hl).1
    exact⟨none,_,by have:=run_endLoop (P:=P) hl (by rw [hrec];simp);rw [hrec]at this;exact this,hdone prs T _ hmap (hI _ T _ _ T hi (frm_put W2 _ (.inr rfl)) (fun _ h=> .inl h)) (fun x vs h=>hE x T _ _ vs (hlast x vs h) (frm_put W2 _ rfl) t1) (by simp;omega) ((World.putObj_heap_other (by omega)).trans hd)⟩
   ·have l1:=(Array.getElem?_eq_some_iff.1 hl).1
    exact⟨some c,_,by have:=run_endLoop (P:=P) hl (by rw [hrec];simp);rw [hrec]at this;exact this,hstop c pre T _ (hIx c _ T _ _ T hi (frm_put W2 _ (.inr rfl)) (fun _ h=> .inl h)) (by simp;omega) ((World.putObj_heap_other (by omega)).trans hd)⟩
end Go.Proofs.YtkolpaonccmgiaaGreatDoor
namespace Go.Proofs.YtkolpaonccmgiaaGreatDoor
set_option linter.unusedSectionVars false
set_option linter.unusedVariables false
open Go.RowKit Go.Shelf
attribute [local go_sem] Oper.semAt_some
theorem trimS_len (l p:List UInt8):(Lib.trimSuffix l p).length≤l.length:=by
 unfold Lib.trimSuffix
 split
 ·rw [List.length_take];omega
 ·exact Nat.le_refl _
section
variable (w:World)
set_option maxRecDepth 100000 in
set_option maxHeartbeats 4000000 in
theorem delimits_any (l:ByteArray) (d:Dl) (hs:l.size≤1000000):
  Calls Tryz.prog 158 #[.string l,.agg #[.string d.word,.bool d.tabs]] w fun e w'=>e=.returned (.bool (delL l d))∧Below w.heap.size w w':=by
 obtain⟨wd,tb⟩:=d
 have hts:=fun W=>Tryz.strings_TrimSuffix l ⟨#[10]⟩ W (by omega)
 have hlen:=trimS_len l.data.toList [10]
 obtain⟨X,hX⟩:∃X,(⟨(Lib.trimSuffix l.data.toList [10]).toArray⟩:ByteArray)=X:=⟨_,rfl⟩
 have hts2:∀W,Calls Tryz.prog 185 #[.string l,.string ⟨#[10]⟩] W fun e w'=>e=.returned (.string X)∧w'=W:=fun W=>by rw [←hX];exact hts W
 have hXl:X.data.toList=Lib.trimSuffix l.data.toList [10]:=by rw [←hX]
 have HTS:=Lib.hid hts2
 have kb:=Blk.new w #[.string wd,.bool tb] 105
 have hB1:Below w.heap.size w (w.alloc (.cells #[.string wd,.bool tb] 105)):=(Below.refl _ w).alloc (Nat.le_refl _) _
 have c0:=kb.cell 0
 have c1:=kb.cell 1
 cases tb with
 |true=>
  have htl:=fun W=>Tryz.strings_TrimLeft_one X 9 (by decide) W
  rw [hXl]at htl
  obtain⟨Y,hY⟩:∃Y,(⟨(Lib.trimLeftB (Lib.trimSuffix l.data.toList [10]) 9).toArray⟩:ByteArray)=Y:=⟨_,rfl⟩
  rw [hY]at htl
  have hd:delL l ⟨wd,true⟩=decide (Y=wd):=by unfold delL delT;simp only [if_true];rw [hY]
  have HD:=Lib.hid hd
  have HTL:=Lib.hid htl
  clear hts hts2 hXl htl hX hY hd hlen kb
  go_enter Tryz.func158,Tryz.ntmps158
  go_wp2_with fail
  refine(HTS.out _).mono ?_
  rintro e w1 ⟨rfl,rfl⟩
  go_wp2_with fail
  refine(HTL.out _).mono ?_
  rintro e w2 ⟨rfl,rfl⟩
  go_wp2
  go_ret
  refine⟨?_,hB1⟩
  rw [HD.out,←bs_eqb]
  rfl
 |false=>
  have hd:delL l ⟨wd,false⟩=decide (X=wd):=by unfold delL delT;simp only [if_neg (show ¬false=true by decide)];rw [hX]
  have HD:=Lib.hid hd
  clear hts hts2 hXl hX hd hlen kb
  go_enter Tryz.func158,Tryz.ntmps158
  go_wp2_with fail
  refine(HTS.out _).mono ?_
  rintro e w1 ⟨rfl,rfl⟩
  go_wp2
  go_ret
  refine⟨?_,hB1⟩
  rw [HD.out,←bs_eqb]
  rfl
end
def encL (x:ByteArray) (T:Nat→Prop) (W:World) (vs:Array Value):Prop:=vs=#[.string x]
def strSz:Option Value→Nat
 |some (.string x)=>x.size
 |_=>0
def LiRl (t:ByteArray) (Bs:Nat) (J:List (ByteArray×Array Value)→(Nat→Prop)→World→Prop) (wr:World):Prop:=
 ∃(a:Nat) (pre:List (ByteArray×Array Value)),a≤t.size∧LNs t=pre.map Prod.fst++lnF t (t.size - a) a∧Blk wr Bs #[.string (t.extract a t.size)] 9∧J pre (fun b=>b=Bs) wr∧∀p∈pre,p.2=#[.string p.1]
set_option maxRecDepth 100000 in
set_option maxHeartbeats 8000000 in
theorem lines_seq (n:Nat) (hn:1≤n) (t:ByteArray) (ht:t.size≤1000000) (Bs:Nat) (W:World) (hb:Blk W Bs #[.string t] 9):
  SeqE n Tryz.prog 184 #[.pointer (some ⟨Bs,0,none⟩)] encL (fun _=>False) (fun b=>b=Bs) (LNs t) W:=by
 intro l J Jx hJ hJx hY hJ0
 have HY:=Lib.hid hY
 have HJ:=Lib.hid hJ
 have HJ0:=Lib.hid hJ0
 have hro:Fence.wide.round=none:=rfl
 have hfn:Fence.wide.fn 184:=trivial
 have hst:LiRl t Bs J W:=⟨0,[],Nat.zero_le _,rfl,by rw [ByteArray.extract_zero_size];exact hb,hJ0,fun p h=>by cases h⟩
 have HST:=Lib.hid hst
 have hfb:Fence.wide.fn 78:=trivial
 clear hY hJ hJ0 hst hb
 refine callsIn_of_wp Tryz.func184 rfl hfn ?_ hro
 simp only [Tryz.ntmps184,List.size_toArray,List.length_cons,List.length_nil,Nat.reduceAdd,Nat.reduceSub,Array.replicate_succ,Array.replicate_zero,List.push_toArray,List.append_toArray,List.nil_append,List.cons_append]
 gi_wp2
 gi_loopw [3] (fun v3 wr=>LiRl t Bs J wr) (fun _ wr=>strSz (wr.cell? ⟨Bs,0,none⟩))
 case atStart=>exact HST.out
 case round=>
  obtain⟨a,pre,ha,hL,kb,hj,hpv⟩:=hrel
  have HPV:=Lib.hid hpv
  clear hpv
  have hRz:=ext_size (s:=t) (a:=a) (b:=t.size) (Nat.le_refl _)
  have hc0:wr.cell? ⟨Bs,0,none⟩=some (.string (t.extract a t.size)):=kb.cell 0
  have hf0:=kb.frozen 0
  have hix:=fun W=>Tryz.strings_IndexByte (t.extract a t.size) 10 W
  have hnl:=idx_nl (t.extract a t.size)
  rw [nlE_ext ha]at hnl
  have hnle:=nlE_le ha
  by_cases hlt:a<t.size
  ·have hlx:=lnF_next hlt
   rw [hlx]at hL
   have hgt:=lnE_gt hlt
   obtain⟨R,hR⟩:∃R,t.extract a t.size=R:=⟨_,rfl⟩
   rw [hR]at hRz hc0 hix hnl kb
   have hRp:(0:Int)<(R.size:Int):=by omega
   have hix2:∀W,Calls Tryz.prog 78 #[.string R,.int .u8 10] W fun e w'=>e=.returned (.int .i64 (if nlE t a - a<R.size then((nlE t a - a:Nat):Int)else -1))∧w'=W:=fun W=>by rw [←hnl];exact hix W
   by_cases hnb:nlE t a<t.size
   ·have hln:lnE t a=nlE t a+1:=by unfold lnE;rw [if_pos hnb]
    rw [if_pos (by omega)]at hix2
    obtain⟨i,hi⟩:∃i,nlE t a - a=i:=⟨_,rfl⟩
    rw [hi]at hix2
    have HIX:=Lib.hid (fun W=>(callsIn_wide (n:=n - 1)).2 (hix2 W))
    have e1:R.extract 0 (i+1)=t.extract a (lnE t a):=by
     rw [←hR,ByteArray.extract_extract,hln]
     congr 1<;>omega
    have e2:R.extract (i+1) R.size=t.extract (lnE t a) t.size:=by
     rw [←hR,ByteArray.extract_extract,hln,ext_size (Nat.le_refl _)]
     congr 1<;>omega
    have q1:(0:Int)≤(i:Int):=by omega
    have q2:(i:Int)+1≤(R.size:Int):=by omega
    have q3:IntKind.i64.wrap ((i:Int)+1)=(i:Int)+1:=IntWalk.i64_in _ (by omega)
    have HE1:=Lib.hid e1
    have HE2:=Lib.hid e2
    have HL:=Lib.hid hL
    have HK:=Lib.hid kb
    have HJJ:=Lib.hid hj
    clear hix hix2 hnl hi e1 e2 hL kb hj hlx hR
    gi_wp2_with fail
    refine(HIX.out _).mono ?_
    rintro e w1 ⟨rfl,rfl⟩
    have hF2:Frm (fun b=>b=Bs) w1 (w1.setCell ⟨Bs,0,none⟩ (.string (R.extract (i+1) (t.size - a)))).drew:=(Frm.setCell (p:=fun b=>b=Bs) (Frm.refl _ w1) 0 (.inl rfl) _).drew
    have HJ2:=Lib.hid (HJ.out.same HJJ.out hF2)
    have HK2:=Lib.hid ((HK.out.set 0 (.string (R.extract (i+1) (t.size - a)))).drew:Blk (w1.setCell ⟨Bs,0,none⟩ (.string (R.extract (i+1) (t.size - a)))).drew Bs #[.string (R.extract (i+1) (t.size - a))] 9)
    rw [hRz]at HE2
    gi_wp2
    gi_region
    obtain⟨fn,tmps,assign,body,hy,hR2⟩:=HY.out pre (t.extract a (lnE t a)) #[.string (R.extract 0 (i+1))] _ (fun b=>b=Bs) _ HL.out HJ2.out (fun b hb=>by rw [hb];exact HK2.out.lt) (by unfold encL;rw [HE1.out])
    gi_wp2
    refine hR2.mono ?_
    rintro e W' ⟨hk3,(⟨rfl,hJ3⟩|⟨rfl,hJx3⟩)⟩
    ·have kb3:Blk W' Bs #[.string (t.extract (lnE t a) t.size)] 9:=by
      rw [←HE2.out]
      exact(hk3.same Bs HK2.out.lt (.inl rfl)).trans HK2.out
     have hLn:LNs t=(pre++ [(t.extract a (lnE t a),#[Value.string (R.extract 0 (i+1))])]).map Prod.fst++lnF t (t.size - lnE t a) (lnE t a):=by rw [HL.out];simp
     have HLN:=Lib.hid hLn
     have KB3:=Lib.hid kb3
     clear kb3 hLn
     gi_wp2
     go_roundw
     case rel=>
      refine⟨lnE t a,_,hgt.2,HLN.out,KB3.out,hJ3,fun p hp=>?_⟩
      rcases List.mem_append.1 hp with h|h
      ·exact HPV.out p h
      ·rw [List.mem_singleton.1 h,←HE1.out]
     case measure=>
      rw [show W'.cell? ⟨Bs,0,none⟩=some (.string (t.extract (lnE t a) t.size))from KB3.out.cell 0,hc0]
      show(t.extract (lnE t a) t.size).size<R.size
      rw [ext_size (Nat.le_refl _)]
      omega
    ·gi_wp2
     refine bodyPost_ret (results_none rfl _ _ _) rfl ?_
     exact⟨⟨_,rfl⟩,.inr ⟨_,_,hJx3⟩⟩
   ·have hln:lnE t a=t.size:=by unfold lnE;rw [if_neg hnb]
    rw [if_neg (by omega)]at hix2
    have HIX:=Lib.hid (fun W=>(callsIn_wide (n:=n - 1)).2 (hix2 W))
    have e1:R=t.extract a (lnE t a):=by rw [←hR,hln]
    have e2:(⟨#[]⟩:ByteArray)=t.extract (lnE t a) t.size:=by
     have h1:(t.extract (lnE t a) t.size).size=0:=by rw [ext_size (Nat.le_refl _)];omega
     exact(ByteArray.ext (Array.eq_empty_of_size_eq_zero h1)).symm
    have HE1:=Lib.hid e1
    have HE2:=Lib.hid e2
    have HL:=Lib.hid hL
    have HK:=Lib.hid kb
    have HJJ:=Lib.hid hj
    clear hix hix2 hnl e1 e2 hL kb hj hlx hR
    gi_wp2_with fail
    refine(HIX.out _).mono ?_
    rintro e w1 ⟨rfl,rfl⟩
    have hF2:Frm (fun b=>b=Bs) w1 (w1.setCell ⟨Bs,0,none⟩ (.string ⟨#[]⟩)):=Frm.setCell (p:=fun b=>b=Bs) (Frm.refl _ w1) 0 (.inl rfl) _
    have HJ2:=Lib.hid (HJ.out.same HJJ.out hF2)
    have HK2:=Lib.hid (HK.out.set 0 (.string ⟨#[]⟩):Blk (w1.setCell ⟨Bs,0,none⟩ (.string ⟨#[]⟩)) Bs #[.string ⟨#[]⟩] 9)
    obtain⟨fn,tmps,assign,body,hy,hR2⟩:=HY.out pre (t.extract a (lnE t a)) #[.string R] _ (fun b=>b=Bs) _ HL.out HJ2.out (fun b hb=>by rw [hb];exact HK2.out.lt) (by unfold encL;rw [HE1.out])
    gi_wp2
    refine hR2.mono ?_
    rintro e W' ⟨hk3,(⟨rfl,hJ3⟩|⟨rfl,hJx3⟩)⟩
    ·have kb3:Blk W' Bs #[.string (t.extract (lnE t a) t.size)] 9:=by
      rw [←HE2.out]
      exact(hk3.same Bs HK2.out.lt (.inl rfl)).trans HK2.out
     have hLn:LNs t=(pre++ [(t.extract a (lnE t a),#[Value.string R])]).map Prod.fst++lnF t (t.size - lnE t a) (lnE t a):=by rw [HL.out];simp
     have HLN:=Lib.hid hLn
     have KB3:=Lib.hid kb3
     clear kb3 hLn
     gi_wp2
     go_roundw
     case rel=>
      refine⟨lnE t a,_,hgt.2,HLN.out,KB3.out,hJ3,fun p hp=>?_⟩
      rcases List.mem_append.1 hp with h|h
      ·exact HPV.out p h
      ·rw [List.mem_singleton.1 h];exact congrArg (fun x=> #[Value.string x]) HE1.out
     case measure=>
      rw [show W'.cell? ⟨Bs,0,none⟩=some (.string (t.extract (lnE t a) t.size))from KB3.out.cell 0,hc0]
      show(t.extract (lnE t a) t.size).size<R.size
      rw [ext_size (Nat.le_refl _)]
      omega
    ·gi_wp2
     refine bodyPost_ret (results_none rfl _ _ _) rfl ?_
     exact⟨⟨_,rfl⟩,.inr ⟨_,_,hJx3⟩⟩
  ·have hR0:t.extract a t.size=⟨#[]⟩:=by
    have h1:(t.extract a t.size).size=0:=by rw [ext_size (Nat.le_refl _)];omega
    exact ByteArray.ext (Array.eq_empty_of_size_eq_zero h1)
   rw [lnF_end hlt,List.append_nil]at hL
   rw [hR0]at hc0
   have HL:=Lib.hid hL
   clear hix hnl hRz hL hR0 kb
   gi_wp2
   go_end0
   refine⟨⟨_,rfl⟩,.inl ⟨pre,_,HL.out.symm,hj,fun x vs h=>?_⟩⟩
   exact HPV.out (x,vs) (List.mem_of_getLast? h)
attribute [local go_sem] Oper.semAt_some
def cellD (d:Dl):List Value:=[.string d.word,.bool d.tabs]
def cellsD (l:List Dl):List Value:=l.flatMap cellD
theorem cellsD_cons (d:Dl) (l:List Dl):cellsD (d::l)=.string d.word::.bool d.tabs::cellsD l:=by
 unfold cellsD;rw [List.flatMap_cons];rfl
theorem cellsD_append (l k:List Dl):cellsD (l++k)=cellsD l++cellsD k:=by unfold cellsD;rw [List.flatMap_append]
theorem cellsD_one (l:List Dl):∀v∈cellsD l,v.oneCell'=true:=by
 intro v hv
 obtain⟨s,_,hs⟩:=List.mem_flatMap.1 hv
 simp [cellD]at hs
 rcases hs with rfl|rfl<;>rfl
def sumL (pre:List (ByteArray×Array Value)):Nat:=(pre.map fun p=>p.1.size).sum
theorem sumL_snoc (pre:List (ByteArray×Array Value)) (x:ByteArray) (vs:Array Value):sumL (pre++ [(x,vs)])=sumL pre+x.size:=by
 unfold sumL;simp
theorem lnF_sum (t:ByteArray):∀(k a:Nat),a≤t.size→((lnF t k a).map fun x=>x.size).sum≤t.size - a
 |0,a,h=>by simp [lnF]
 |k+1,a,h=>by
  unfold lnF
  by_cases ha:a<t.size
  ·rw [if_pos ha]
   have hg:=lnE_gt ha
   have:=lnF_sum t k (lnE t a) hg.2
   rw [List.map_cons,List.sum_cons,ext_size hg.2]
   omega
  ·rw [if_neg ha];simp
theorem sumL_le {t:ByteArray} {pre:List (ByteArray×Array Value)} {rest:List ByteArray} (h:LNs t=pre.map Prod.fst++rest):sumL pre+(rest.map fun x=>x.size).sum≤t.size:=by
 have h1:=lnF_sum t t.size 0 (Nat.zero_le _)
 have h2:LNs t=lnF t t.size 0:=rfl
 rw [←h2,h,List.map_append,List.sum_append]at h1
 have h3:sumL pre=((pre.map Prod.fst).map fun x=>x.size).sum:=by unfold sumL;rw [List.map_map];rfl
 omega
def DoI (t:ByteArray) (d:Dl) (pv:Value) (w:World) (z Bp Bn Be Bs:Nat) (pre:List (ByteArray×Array Value)) (T:Nat→Prop) (W:World):Prop:=
 Blk W Bp #[pv] 60∧Blk W Bn #[.int .i64 ((sumL pre:Nat):Int)] 3∧Blk W Be #[.bool false] 4∧(∀b,T b→b=Bs∨z+2≤b)∧z+2≤W.heap.size∧Below w.heap.size w W∧∀rest,LNs t=pre.map Prod.fst++rest→docL d (LNs t) 0=docL d rest (sumL pre)
def DoX (t:ByteArray) (d:Dl) (id:Nat) (w:World) (z Bn Be Bs:Nat) (c:Code) (pre:List (ByteArray×Array Value)) (T:Nat→Prop) (W:World):Prop:=
 c=.exit id∧Blk W Bn #[.int .i64 (((docL d (LNs t) 0).1:Nat):Int)] 3∧Blk W Be #[.bool (docL d (LNs t) 0).2] 4∧(∀b,T b→b=Bs∨z+2≤b)∧z+2≤W.heap.size∧Below w.heap.size w W
theorem DoI.abid {t:ByteArray} {d:Dl} {pv:Value} {w:World} {z Bp Bn Be Bs:Nat} (h1:Bp<Bs) (h2:Bn<Bs) (h3:Be<Bs) (hs:Bs<z) (hw:w.heap.size≤Bs):AbidL (z+1) (DoI t d pv w z Bp Bn Be Bs):=by
 rintro pre T W W' T' ⟨k1,k2,k3,hT,hz,hB,hd⟩ hf hT'
 have no:∀b,b<Bs→¬(T b∨b=z+1):=fun b hb hh=>by rcases hh with g|g;(rcases hT b g with e|e<;>omega);omega
 refine⟨k1.frm hf (no _ h1),k2.frm hf (no _ h2),k3.frm hf (no _ h3),fun b hb=>?_,?_,?_,hd⟩
 ·rcases hT' b hb with e|e
  ·exact hT b e
  ·omega
 ·have:=hf.size;omega
 ·exact hB.trans ((hf.below (n:=w.heap.size) hB.size (fun b hh=>by rcases hh with e|e;(rcases hT b e with g|g<;>omega);omega)))
theorem DoX.abid {t:ByteArray} {d:Dl} {id:Nat} {w:World} {z Bn Be Bs:Nat} (h2:Bn<Bs) (h3:Be<Bs) (hs:Bs<z) (hw:w.heap.size≤Bs) (c:Code):AbidL (z+1) (DoX t d id w z Bn Be Bs c):=by
 rintro pre T W W' T' ⟨rfl,k2,k3,hT,hz,hB⟩ hf hT'
 have no:∀b,b<Bs→¬(T b∨b=z+1):=fun b hb hh=>by rcases hh with g|g;(rcases hT b g with e|e<;>omega);omega
 refine⟨rfl,k2.frm hf (no _ h2),k3.frm hf (no _ h3),fun b hb=>?_,?_,?_⟩
 ·rcases hT' b hb with e|e
  ·exact hT b e
  ·omega
 ·have:=hf.size;omega
 ·exact hB.trans ((hf.below (n:=w.heap.size) hB.size (fun b hh=>by rcases hh with e|e;(rcases hT b e with g|g<;>omega);omega)))
section
variable (w:World)
set_option maxHeartbeats 1000000 in
theorem lines_any (t:ByteArray):Calls Tryz.prog 157 #[.string t] w fun e w'=>e=.returned (.func (.func 184) #[] #[.pointer (some ⟨w.heap.size,0,none⟩)])∧w'=w.alloc (.cells #[.string t] 9):=by
 go_enter Tryz.func157,Tryz.ntmps157
 go_wp2
 go_ret
 exact⟨rfl,rfl⟩
set_option maxRecDepth 100000 in
set_option maxHeartbeats 8000000 in
theorem document_any (t:ByteArray) (ht:t.size≤1000000) (pv:Value) (pend:List Dl) (hS:Src w pv pend.length (cellsD pend)) (hl:pend.length≤1000000):
  Calls Tryz.prog 130 #[.string t,pv] w fun e w'=>e=.returned (.tuple #[.int .i64 (((docN t pend).1:Nat):Int),.bool (docN t pend).2])∧Below w.heap.size w w':=by
 refine(callsIn_wide (n:=5)).1 ?_
 have hfn:Fence.wide.fn 130:=trivial
 have b1:=((Blk.new w #[pv] 60).alloc (.cells #[.int .i64 0] 3)).alloc (.cells #[.bool false] 4)
 have b2:=(Blk.new (w.alloc (.cells #[pv] 60)) #[.int .i64 0] 3).alloc (.cells #[.bool false] 4)
 have b3:=Blk.new ((w.alloc (.cells #[pv] 60)).alloc (.cells #[.int .i64 0] 3)) #[.bool false] 4
 have hB0:Below w.heap.size w (((w.alloc (.cells #[pv] 60)).alloc (.cells #[.int .i64 0] 3)).alloc (.cells #[.bool false] 4)):=(((Below.refl _ w).alloc (Nat.le_refl _) _).alloc (by simp) _).alloc (by simp;omega) _
 have hz0:(((w.alloc (.cells #[pv] 60)).alloc (.cells #[.int .i64 0] 3)).alloc (.cells #[.bool false] 4)).heap.size=w.heap.size+3:=by simp
 simp only [World.size_alloc]at b2 b3
 refine callsIn_of_wp_marks Tryz.func130 rfl hfn ?_ rfl
 refine(wpIn_wide (n:=5)).2 ?_
 simp only [Tryz.ntmps130,List.size_toArray,List.length_cons,List.length_nil,Nat.reduceAdd,Nat.reduceSub,Array.replicate_succ,Array.replicate_zero,List.push_toArray,List.append_toArray,List.nil_append,List.cons_append]
 cases pend with
 |nil=>
  obtain⟨oa,c,rfl⟩:∃oa c,pv=.slice oa 0 c:=by
   rcases hS with⟨h,_,_⟩|⟨b,off,c,h,_⟩
   ·exact⟨none,0,h⟩
   ·exact⟨_,c,h⟩
  have hdn:docN t []=(t.size,false):=rfl
  rw [hdn]
  dsimp only
  have c1:=b1.cell 0
  have c2:=b2.cell 0
  have c3:=b3.cell 0
  have f2:=b2.frozen 0
  have f3:=b3.frozen 0
  clear hS hdn hl
  go_wp2
  obtain⟨W0,hW0⟩:∃X,((w.alloc (.cells #[.slice oa 0 c] 60)).alloc (.cells #[.int .i64 0] 3)).alloc (.cells #[.bool false] 4)=X:=⟨_,rfl⟩
  rw [hW0]at b1 b2 b3 hB0 hz0 c1 c2 c3 f2 f3 ⊢
  clear hW0
  obtain⟨Bp,h1⟩:∃x,w.heap.size=x:=⟨_,rfl⟩
  have H1:=Lib.hid h1
  rw [h1]at b1 b2 b3 hz0 c1 c2 c3 f2 f3 ⊢
  obtain⟨Bn,h2⟩:∃x,Bp+1=x:=⟨_,rfl⟩
  rw [h2]at b2 b3 c2 c3 f2 f3 ⊢
  obtain⟨Be,h3⟩:∃x,Bn+1=x:=⟨_,rfl⟩
  rw [h3]at b3 c3 f3 ⊢
  have hall:Bp<Bn∧Bn<Be:=by omega
  have hne:Bn≠Be:=by omega
  have hne2:Be≠Bn:=by omega
  clear h1 h2 h3
  have g4:=((b2.set 0 (.int .i64 (t.size:Int))).other 0 (.bool false) hne).cell 0
  have g5:=((b3.other 0 (.int .i64 (t.size:Int)) hne2).set 0 (.bool false)).cell 0
  have hF2:Frm (fun x=>x=Bn∨x=Be) W0 ((W0.setCell ⟨Bn,0,none⟩ (.int .i64 (t.size:Int))).setCell ⟨Be,0,none⟩ (.bool false)):=
   Frm.setCell (p:=fun x=>x=Bn∨x=Be) (Frm.setCell (p:=fun x=>x=Bn∨x=Be) (Frm.refl _ W0) 0 (.inl (.inl rfl)) _) 0 (.inl (.inr rfl)) _
  have hBF:=hB0.trans (hF2.below hB0.size (fun x hx=>by have:=H1.out;omega))
  go_step3
  go_wp2
  rw [Exit.noGoto_ret]
  refine⟨.tuple #[.int .i64 (t.size:Int),.bool false],?_,rfl,hBF⟩
  simp [results,Tryz.f130,go_sem,g4,g5]
 |cons d ds=>
  obtain⟨b,off,c,hpv,hbl,hcell⟩:∃b off c,pv=.slice (some ⟨b,off,none⟩) (ds.length+1) c∧b<w.heap.size∧∀j u,(cellsD (d::ds))[j]?=some u→w.cell? ⟨b,off+j,none⟩=some u:=by
   rcases hS with⟨_,h,_⟩|h
   ·cases h
   ·exact h
  have d0:=hcell 0 (.string d.word) (by rw [cellsD_cons];rfl)
  have d1:=hcell 1 (.bool d.tabs) (by rw [cellsD_cons];rfl)
  rw [Nat.add_zero]at d0
  have hdn:docN t (d::ds)=docL d (LNs t) 0:=rfl
  rw [hdn]
  obtain⟨N,hN⟩:∃N,(docL d (LNs t) 0).1=N:=⟨_,rfl⟩
  obtain⟨B,hB2⟩:∃B,(docL d (LNs t) 0).2=B:=⟨_,rfl⟩
  rw [hN,hB2]
  have HN:=Lib.hid hN
  have HBB:=Lib.hid hB2
  clear hN hB2
  obtain⟨m,hm⟩:∃m,ds.length+1=m:=⟨_,rfl⟩
  have hm0:((m:Int)==0)=false:=beq_eq_false_iff_ne.2 (by omega)
  rw [hm]at hpv
  subst hpv
  have c1:=b1.cell 0
  have HM:=Lib.hid hm
  clear hS hcell hdn hm hl
  have f1:=b1.frozen 0
  go_wp2
  obtain⟨W0,hW0⟩:∃X,((w.alloc (.cells #[.slice (some ⟨b,off,none⟩) m c] 60)).alloc (.cells #[.int .i64 0] 3)).alloc (.cells #[.bool false] 4)=X:=⟨_,rfl⟩
  rw [hW0]at b1 b2 b3 hB0 hz0 c1 f1 ⊢
  clear hW0
  obtain⟨Bp,h1⟩:∃x,w.heap.size=x:=⟨_,rfl⟩
  have H1:=Lib.hid h1
  rw [h1]at b1 b2 b3 hz0 c1 f1 hbl ⊢
  obtain⟨Bn,h2⟩:∃x,Bp+1=x:=⟨_,rfl⟩
  rw [h2]at b2 b3 ⊢
  obtain⟨Be,h3⟩:∃x,Bn+1=x:=⟨_,rfl⟩
  rw [h3]at b3 ⊢
  have d0':W0.cell? ⟨b,off,none⟩=some (.string d.word):=(hB0.cell (p:=⟨b,off,none⟩) (by show b<w.heap.size;have:=H1.out;omega)).trans d0
  go_step3
  go_wp2
  go_step3
  go_wp2_with fail
  refine(lines_any _ t).mono ?_
  rintro en W1 ⟨rfl,hW1⟩
  have kB:Blk W1 W0.heap.size #[.string t] 9:=by rw [hW1];exact Blk.new W0 _ _
  have hB1:Below W0.heap.size W0 W1:=by rw [hW1];exact(Below.refl _ _).alloc (Nat.le_refl _) _
  have hz1:W1.heap.size=W0.heap.size+1:=by rw [hW1];simp
  have hBw:Below w.heap.size w W1:=hB0.trans (hB1.mono hB0.size)
  obtain⟨Bs,hBs⟩:∃x,W0.heap.size=x:=⟨_,rfl⟩
  have k1:=b1.below hB1
  have k2:=b2.below hB1
  have k3:=b3.below hB1
  rw [hBs]at kB hz1 ⊢
  have hord:Bp<Bs∧Bn<Bs∧Be<Bs∧Bs<W1.heap.size∧w.heap.size≤Bs:=by have:=H1.out;omega
  have hall:Bp<Bn∧Bn<Be:=by omega
  have hseq:∀W,Below W1.heap.size W1 W→SeqE (5 - 1) Tryz.prog 184 #[.pointer (some ⟨Bs,0,none⟩)] encL (fun _=>False) (fun b=>b=Bs) (LNs t) W:=fun W hW=>lines_seq 4 (by omega) t ht Bs W (kB.below hW)
  have HZ1:=Lib.hid hz1
  have HSEQ:=Lib.hid hseq
  have HD0:=Lib.hid d0
  have HD1:=Lib.hid d1
  clear hz1 hW1 hseq b1 b2 b3 hB0 hB1 hz0 c1 f1 h1 h2 h3 d0' hBs d0 d1
  go_wp2
  refine(wpIn_wide (n:=5)).1 (wpTE (L:=LNs t) (E:=encL) (C:=fun _=>False) (T0:=fun b=>b=Bs) (gf:=184) (lb:=#[.pointer (some ⟨Bs,0,none⟩)]) rfl (enters_of Tryz.func184 (by kernel_rfl) rfl) HSEQ.out (fun b hb=>hb.elim) (fun b hb=>by rw [hb];exact hord.2.2.2.1) ?hps ?hE
   (DoI t d (.slice (some ⟨b,off,none⟩) m c) w W1.heap.size Bp Bn Be Bs) (DoX t d 0 w W1.heap.size Bn Be Bs) (DoI.abid hord.1 hord.2.1 hord.2.2.1 hord.2.2.2.1 hord.2.2.2.2) (DoX.abid hord.2.1 hord.2.2.1 hord.2.2.2.1 hord.2.2.2.2) ?start ?round ?fin ?stop)
  case hps=>intro x T W vs h;rw [h];rfl
  case hE=>intro x T W W' vs h _ _;exact h
  case start=>
   intro W hB hz
   exact⟨k1.below hB,k2.below hB,k3.below hB,fun b hb=> .inl hb,by omega,hBw.trans (hB.mono hBw.size),fun rest h=>by rw [show LNs t=rest from h];rfl⟩
  case fin=>
   rintro prs T W hmap ⟨k1,k2,k3,hT,hzW,hB,hd⟩ hlast hWz hWd
   have hdn:=hd [] (by rw [hmap,List.append_nil])
   have hd1:(docL d (LNs t) 0).1=sumL prs:=by rw [hdn];rfl
   have hd2:(docL d (LNs t) 0).2=false:=by rw [hdn];rfl
   rw [←hd1]at k2
   rw [←hd2]at k3
   rw [HN.out]at k2
   rw [HBB.out]at k3
   have c2:=k2.cell 0
   have c3:=k3.cell 0
   have f2:=k2.frozen 0
   have f3:=k3.frozen 0
   have hne:Bn≠Be:=by omega
   have hne2:Be≠Bn:=by omega
   clear hd1 hd2 hdn hd
   dsimp only
   go_wp2
   go_region
   go_wp2
   have hF2:Frm (fun x=>x=Bn∨x=Be) W (((W.setCell ⟨Bn,0,none⟩ (.int .i64 (N:Int))).setCell ⟨Be,0,none⟩ (.bool B)).drew):=
    (Frm.setCell (p:=fun x=>x=Bn∨x=Be) (Frm.setCell (p:=fun x=>x=Bn∨x=Be) (Frm.refl _ W) 0 (.inl (.inl rfl)) _) 0 (.inl (.inr rfl)) _).drew
   have g4:=((k2.set 0 (.int .i64 (N:Int))).other 0 (.bool B) hne).drew.cell 0
   have g5:=((k3.other 0 (.int .i64 (N:Int)) hne2).set 0 (.bool B)).drew.cell 0
   have hBF:Below w.heap.size w (((W.setCell ⟨Bn,0,none⟩ (.int .i64 (N:Int))).setCell ⟨Be,0,none⟩ (.bool B)).drew):=hB.trans (hF2.below (by have:=hB.size;omega) (fun x hx=>by have:=H1.out;rcases hx with rfl|rfl<;>omega))
   have hKD:(((W.setCell ⟨Bn,0,none⟩ (.int .i64 (N:Int))).setCell ⟨Be,0,none⟩ (.bool B)).drew).heap[W1.heap.size]?=some (.deferred (some [])):=(hF2.block _ (Array.getElem?_eq_some_iff.1 hWd).1 (fun h=>by rcases h with h|h<;>omega)).trans hWd
   obtain⟨W5,hW5⟩:∃X,((W.setCell ⟨Bn,0,none⟩ (.int .i64 (N:Int))).setCell ⟨Be,0,none⟩ (.bool B)).drew=X:=⟨_,rfl⟩
   rw [hW5]at hKD hBF g4 g5 ⊢
   rw [Exit.noGoto_ret]
   refine⟨by simp,.inl ⟨_,_,rfl,run_takeDeferred hKD,?_⟩⟩
   have hc0:=cell_kept g4 (grownBy_putObj' _ W1.heap.size (.deferred none)) (fun r e=>by cases e;exact⟨_,hKD,rfl⟩)
   have hc1:=cell_kept g5 (grownBy_putObj' _ W1.heap.size (.deferred none)) (fun r e=>by cases e;exact⟨_,hKD,rfl⟩)
   refine⟨.tuple #[.int .i64 (N:Int),.bool B],?_,rfl,?_⟩
   ·simp [results,Tryz.f130,go_sem,hc0,hc1]
   ·exact hBF.trans (belowK_b (w:=w) (Nat.le_refl _) W5 W1.heap.size _ _ (by omega) hKD rfl rfl)
  case stop=>
   rintro c pre T W ⟨rfl,k2,k3,hT,hzW,hB⟩ hWz hWd
   rw [HN.out]at k2
   rw [HBB.out]at k3
   have c2:=k2.cell 0
   have c3:=k3.cell 0
   have f2:=k2.frozen 0
   have f3:=k3.frozen 0
   have hne:Bn≠Be:=by omega
   have hne2:Be≠Bn:=by omega
   gi_wp2
   go_wp2
   go_region
   go_wp2
   have hF2:Frm (fun x=>x=Bn∨x=Be) W (((W.setCell ⟨Bn,0,none⟩ (.int .i64 (N:Int))).setCell ⟨Be,0,none⟩ (.bool B)).drew):=
    (Frm.setCell (p:=fun x=>x=Bn∨x=Be) (Frm.setCell (p:=fun x=>x=Bn∨x=Be) (Frm.refl _ W) 0 (.inl (.inl rfl)) _) 0 (.inl (.inr rfl)) _).drew
   have g4:=((k2.set 0 (.int .i64 (N:Int))).other 0 (.bool B) hne).drew.cell 0
   have g5:=((k3.other 0 (.int .i64 (N:Int)) hne2).set 0 (.bool B)).drew.cell 0
   have hBF:Below w.heap.size w (((W.setCell ⟨Bn,0,none⟩ (.int .i64 (N:Int))).setCell ⟨Be,0,none⟩ (.bool B)).drew):=hB.trans (hF2.below (by have:=hB.size;omega) (fun x hx=>by have:=H1.out;rcases hx with rfl|rfl<;>omega))
   have hKD:(((W.setCell ⟨Bn,0,none⟩ (.int .i64 (N:Int))).setCell ⟨Be,0,none⟩ (.bool B)).drew).heap[W1.heap.size]?=some (.deferred (some [])):=(hF2.block _ (Array.getElem?_eq_some_iff.1 hWd).1 (fun h=>by rcases h with h|h<;>omega)).trans hWd
   obtain⟨W5,hW5⟩:∃X,((W.setCell ⟨Bn,0,none⟩ (.int .i64 (N:Int))).setCell ⟨Be,0,none⟩ (.bool B)).drew=X:=⟨_,rfl⟩
   rw [hW5]at hKD hBF g4 g5 ⊢
   rw [Exit.noGoto_ret]
   refine⟨by simp,.inl ⟨_,_,rfl,run_takeDeferred hKD,?_⟩⟩
   have hc0:=cell_kept g4 (grownBy_putObj' _ W1.heap.size (.deferred none)) (fun r e=>by cases e;exact⟨_,hKD,rfl⟩)
   have hc1:=cell_kept g5 (grownBy_putObj' _ W1.heap.size (.deferred none)) (fun r e=>by cases e;exact⟨_,hKD,rfl⟩)
   refine⟨.tuple #[.int .i64 (N:Int),.bool B],?_,rfl,?_⟩
   ·simp [results,Tryz.f130,go_sem,hc0,hc1]
   ·exact hBF.trans (belowK_b (w:=w) (Nat.le_refl _) W5 W1.heap.size _ _ (by omega) hKD rfl rfl)
  case round=>
   rintro pre x vs rest T W hLx ⟨k1,k2,k3,hT,hzW,hB,hd⟩ hEx hTb hWz hrec hdef t1 t2
   unfold encL at hEx
   subst hEx
   have hxz:sumL pre+x.size≤1000000:=by
    have:=sumL_le hLx
    rw [List.map_cons,List.sum_cons]at this
    omega
   have hx:=hd (x::rest) hLx
   have hdl:docL d (x::rest) (sumL pre)=if delL x d=true then(sumL pre+x.size,true)else docL d rest (sumL pre+x.size):=rfl
   rw [hdl]at hx
   gi_wp2
   refine⟨trivial,trivial,KpT.refl _ _ _,fun r=>?_⟩
   obtain⟨W3,hW3⟩:∃X,W.putObj (W1.heap.size+1) (.loop r)=X:=⟨_,rfl⟩
   have hF3:Frm (fun x=>x=W1.heap.size+1) W W3:=by rw [←hW3];exact frm_put (p:=fun x=>x=W1.heap.size+1) W _ rfl
   have z3:W3.heap.size=W.heap.size:=by rw [←hW3];simp
   rw [hW3]
   clear hW3 hrec hdef hdl
   have m1:=k1.frm hF3 (by omega)
   have m2:=k2.frm hF3 (by omega)
   have m3:=k3.frm hF3 (by omega)
   have hB3:Below w.heap.size w W3:=hB.trans (hF3.below hB.size (fun x hx=>by omega))
   have e0:W3.cell? ⟨b,off,none⟩=some (.string d.word):=(hB3.cell (p:=⟨b,off,none⟩) (by show b<w.heap.size;have:=H1.out;omega)).trans HD0.out
   have e1:W3.cell? ⟨b,off+1,none⟩=some (.bool d.tabs):=(hB3.cell (p:=⟨b,off+1,none⟩) (by show b<w.heap.size;have:=H1.out;omega)).trans HD1.out
   obtain⟨S,hS⟩:∃S,sumL pre=S:=⟨_,rfl⟩
   obtain⟨S2,hS2⟩:∃S2,S+x.size=S2:=⟨_,rfl⟩
   rw [hS]at m2 hxz hx
   rw [hS2]at hxz hx
   have c1:=m1.cell 0
   have c2:=m2.cell 0
   have f2:=m2.frozen 0
   have c3:=m3.cell 0
   have f3:=m3.frozen 0
   have q1:IntKind.i64.wrap ((S:Int)+(x.size:Int))=(S2:Int):=by rw [IntWalk.i64_in _ (by omega)];omega
   obtain⟨y,hy⟩:∃y,delL x d=y:=⟨_,rfl⟩
   have hdm:=fun W=>delimits_any W x d (by omega)
   rw [hy]at hdm hx
   have HDM:=Lib.hid (fun W=>CallsIn.inRound (W1.heap.size+1) ((callsIn_wide (n:=5 - 1 - 1 - 1)).2 (hdm W)))
   have HX:=Lib.hid hx
   have HS:=Lib.hid hS
   have HS2:=Lib.hid hS2
   have HLX:=Lib.hid hLx
   have hne12:Bn≠Bp:=by omega
   have hne13:Bp≠Bn:=by omega
   have hm0':(0:Int)<(m:Int):=by have:=HM.out;omega
   have h11:1≤5 - 1 - 1:=by omega
   clear hx hd hdm hy hS hS2 hLx k1 k2 k3
   have hF4:Frm (fun x=>x=Bn) W3 (W3.setCell ⟨Bn,0,none⟩ (.int .i64 (S2:Int))):=Frm.setCell (p:=fun x=>x=Bn) (Frm.refl _ W3) 0 (.inl rfl) _
   have n2:=m2.set 0 (.int .i64 (S2:Int))
   have n3:=m3.frm hF4 (by omega)
   have n1:=m1.frm hF4 (by omega)
   have nc1:=n1.cell 0
   have ne0:(W3.setCell ⟨Bn,0,none⟩ (.int .i64 (S2:Int))).cell? ⟨b,off,none⟩=some (.string d.word):=(hF4.cell (a:=⟨b,off,none⟩) (by show b<W3.heap.size;have:=hB3.size;have:=H1.out;omega) (by show ¬b=Bn;omega)).trans e0
   have ne1:(W3.setCell ⟨Bn,0,none⟩ (.int .i64 (S2:Int))).cell? ⟨b,off+1,none⟩=some (.bool d.tabs):=(hF4.cell (a:=⟨b,off+1,none⟩) (by show b<W3.heap.size;have:=hB3.size;have:=H1.out;omega) (by show ¬b=Bn;omega)).trans e1
   have N1:=Lib.hid n1
   have N2:=Lib.hid n2
   have N3:=Lib.hid n3
   clear n1 n2 n3
   gi_wp2_with fail
   refine⟨trivial,(HDM.out _).mono ?_⟩
   rintro en W6 ⟨rfl,hB6⟩
   have hz4:=hF4.size
   have p1:=N1.out.below hB6
   have p2:=N2.out.below hB6
   have p3:=N3.out.below hB6
   have cc3:=p3.cell 0
   have ff3:=p3.frozen 0
   have hs6:=hB6.size
   have hF7:Frm (fun x=>x=Be) W6 (W6.setCell ⟨Be,0,none⟩ (.bool y)):=Frm.setCell (p:=fun x=>x=Be) (Frm.refl _ W6) 0 (.inl rfl) _
   have hFA:Frm (fun x=>x=Bn∨x=Be) W3 (W6.setCell ⟨Be,0,none⟩ (.bool y)):=
    ((hF4.mono (q:=fun x=>x=Bn∨x=Be) (fun _ _ h=> .inl h)).trans (Frm.of_below (p:=fun x=>x=Bn∨x=Be) hB6) (fun _ _ h=>h)).trans (hF7.mono (q:=fun x=>x=Bn∨x=Be) (fun _ _ h=> .inr h)) (fun _ _ h=>h)
   have r1:=p1.frm hF7 (by omega)
   have r2:=p2.frm hF7 (by omega)
   have r3:=p3.set 0 (.bool y)
   have g1:=hFA.block (W1.heap.size+1) (by omega) (by omega)
   have g2:=hFA.block W1.heap.size (by omega) (by omega)
   have hBA:Below w.heap.size w (W6.setCell ⟨Be,0,none⟩ (.bool y)):=hB3.trans (hFA.below hB3.size (fun x hx=>by have:=H1.out;omega))
   have hK:KpT (fun _=>False) T W3 (W6.setCell ⟨Be,0,none⟩ (.bool y)):=KpT.of_frm hFA (fun x _ hx=>⟨fun ht=>by rcases hT x ht with e|e<;>omega,fun h=>h⟩)
   have hsA:=hFA.size
   have cy:=r3.cell 0
   have R1:=Lib.hid r1
   have R2:=Lib.hid r2
   have R3:=Lib.hid r3
   have G1:=Lib.hid g1
   have G2:=Lib.hid g2
   have HK:=Lib.hid hK
   have HBA:=Lib.hid hBA
   have HY:Hid (y=y):=Lib.hid rfl
   clear r1 r2 r3 g1 g2 hK hBA
   cases y with
   |true=>
    gi_wp2
    refine⟨G1.out,G2.out,HK.out,rfl,?_,?_,hT,?_,HBA.out⟩
    ·rw [HX.out,if_pos trivial];exact R2.out
    ·rw [HX.out,if_pos trivial];exact R3.out
    ·omega
   |false=>
    gi_wp2
    refine⟨G1.out,G2.out,HK.out,R1.out,?_,R3.out,hT,by omega,HBA.out,fun rest' h=>?_⟩
    ·rw [sumL_snoc,HS.out,HS2.out];exact R2.out
    ·have hr:rest'=rest:=by
      have h1:=HLX.out.symm.trans h
      rw [List.map_append,List.append_assoc]at h1
      have h2:=List.append_cancel_left h1
      simpa using h2.symm
     rw [hr,HX.out,if_neg (by decide),sumL_snoc,HS.out,HS2.out]
end
open Go.RowKit
theorem infoDl:(Tryz.prog.info? 105).map (fun i=>(i.zero,i.size,i.bytes))=some (some (.agg #[.string ⟨#[]⟩,.bool false]),2,24):=by kernel_rfl
def aggT (t:Tk):Value:=.agg #[.int .i64 (t.kind:Int),.int .i64 (t.frm:Int),.int .i64 (t.en:Int),.bool t.op]
def aggL (x:Lx) (pv:Value):Value:=.agg #[.int .i64 (x.await:Int),pv,.bool x.body]
structure LxM (W:World) (pv:Value) (x:Lx):Prop where
 src:Src W pv x.pend.length (cellsD x.pend)
 own:x.body=false→W.ownsRow 1 105 2 pv x.pend.length (cellsD x.pend)
 pos:∀g,pv.ownBlock=some g→1≤g∧g<W.heap.size
 cap:∃oa c,pv=.slice oa x.pend.length c∧x.pend.length≤c
theorem LxM.zero (W:World):LxM W (.slice none 0 0) Lx.zero:=⟨.inl ⟨rfl,rfl,rfl⟩,fun _=>World.ownsRow_nil _ _ _ _,fun g h=>(by cases h),⟨none,0,rfl,Nat.le_refl _⟩⟩
theorem LxM.frm {p:Nat→Prop} {W W':World} {pv:Value} {x:Lx} (h:LxM W pv x) (hf:Frm p W W') (hp:∀g,pv.ownBlock=some g→¬p g):LxM W' pv x:=
 ⟨h.src.frm hf hp,fun hb=>own_frm hf (h.own hb) hp,fun g hg=>⟨(h.pos g hg).1,Nat.lt_of_lt_of_le (h.pos g hg).2 hf.size⟩,h.cap⟩
theorem LxM.below {W W':World} {pv:Value} {x:Lx} (h:LxM W pv x) (hb:Below W.heap.size W W'):LxM W' pv x:=h.frm (Frm.of_below (p:=fun _=>False) hb) (fun _ _ h=>h)
theorem LxM.same {W:World} {pv:Value} {x y:Lx} (h:LxM W pv x) (hp:y.pend=x.pend) (hb:y.body=false→x.body=false):LxM W pv y:=by
 obtain⟨h1,h2,h3,h4⟩:=h
 rw [←hp]at h1 h2 h4
 exact⟨h1,fun e=>h2 (hb e),h3,h4⟩
section
variable (w:World)
set_option maxHeartbeats 1000000 in
theorem awaiting_any (t:ByteArray) (hs:t.size≤1000000) (hT:Tx w):
  Calls Tryz.prog 134 #[.string t] w fun e w'=>e=.returned (.int .i64 (((if ofN t=4∨ofN t=5 then ofN t else 0:Nat)):Int))∧Below w.heap.size w w':=by
 have hof:=of5_any t w hs hT
 obtain⟨o,ho⟩:∃o,ofN t=o:=⟨_,rfl⟩
 rw [ho]at hof ⊢
 have HOF:=Lib.hid hof
 clear hof ho
 by_cases h4:o=4
 ·subst h4
  go_enter Tryz.func134,Tryz.ntmps134
  go_wp2_with fail
  refine(HOF.out).mono ?_
  rintro e w1 ⟨rfl,hB⟩
  go_wp2
  go_ret
  exact⟨rfl,hB.below⟩
 ·by_cases h5:o=5
  ·subst h5
   go_enter Tryz.func134,Tryz.ntmps134
   go_wp2_with fail
   refine(HOF.out).mono ?_
   rintro e w1 ⟨rfl,hB⟩
   go_wp2
   go_ret
   exact⟨rfl,hB.below⟩
  ·rw [if_neg (by omega)]
   have t1:((o:Int)==4)=false:=beq_eq_false_iff_ne.2 (by omega)
   have t2:((o:Int)==5)=false:=beq_eq_false_iff_ne.2 (by omega)
   clear h4 h5
   go_enter Tryz.func134,Tryz.ntmps134
   go_wp2_with fail
   refine(HOF.out).mono ?_
   rintro e w1 ⟨rfl,hB⟩
   go_wp2
   go_ret
   exact⟨rfl,hB.below⟩
theorem LxM.tail {W:World} {d:Dl} {ds:List Dl} {aw aw2:Nat} {b off c:Nat} (h:LxM W (.slice (some ⟨b,off,none⟩) (ds.length+1) c) ⟨aw,d::ds,true⟩) (hne:ds≠ []):LxM W (.slice (some ⟨b,off+2,none⟩) ds.length (c - 1)) ⟨aw2,ds,true⟩:=by
 obtain⟨oa,c',e,hc⟩:=h.cap
 have hl:(d::ds).length=ds.length+1:=rfl
 rw [show(⟨aw,d::ds,true⟩:Lx).pend.length=ds.length+1 from rfl]at e hc
 injection e with e1 e2 e3
 subst e3
 refine⟨?_,fun h=>(by cases h),fun g hg=>?_,⟨_,_,rfl,by show ds.length≤c - 1;omega⟩⟩
 ·rcases h.src with⟨_,h1,_⟩|⟨b2,off2,c2,e4,h2,h3⟩
  ·cases h1
  ·injection e4 with e5
   injection e5 with e6
   injection e6 with e7 e8
   subst e7 e8
   refine .inr ⟨b,off+2,_,rfl,h2,fun j u hj=>?_⟩
   have:=h3 (j+2) u (by
    show(cellsD (d::ds))[j+2]?=_
    rw [cellsD_cons]
    simpa using hj)
   rw [show off+2+j=off+(j+2) by omega]
   exact this
 ·exact h.pos g hg
theorem below_a2' (W:World) (o o':Obj):Below W.heap.size W ((W.alloc o).alloc o'):=((Below.refl _ _).alloc (Nat.le_refl _) _).alloc (by simp) _
theorem blk_a2 (W:World) (o:Obj) (cs:Array Value) (ty:TypeId):Blk ((W.alloc o).alloc (.cells cs ty)) (W.heap.size+1) cs ty:=by
 have:=Blk.new (W.alloc o) cs ty
 rwa [World.size_alloc]at this
set_option maxRecDepth 100000 in
set_option maxHeartbeats 2000000 in
theorem shorter_open (x:Lx) (oa:Option Addr) (n c:Nat):
  Calls Tryz.prog 133 #[aggL x (.slice oa n c),.bool true] w fun e w'=>e=.returned (aggL x (.slice oa n c))∧Below w.heap.size w w':=by
 unfold aggL
 have kb:=(Blk.new w #[.int .i64 (x.await:Int),.slice oa n c,.bool x.body] 62).alloc (.cells #[.int .i64 0,.slice none 0 0,.bool false] 62)
 have kr:=Blk.new (w.alloc (.cells #[.int .i64 (x.await:Int),.slice oa n c,.bool x.body] 62)) #[.int .i64 0,.slice none 0 0,.bool false] 62
 rw [World.size_alloc]at kr
 have hB:=((Below.refl _ w).alloc (Nat.le_refl _) (.cells #[.int .i64 (x.await:Int),.slice oa n c,.bool x.body] 62)).alloc (by simp) (.cells #[.int .i64 0,.slice none 0 0,.bool false] 62)
 have a0:=kb.cell 0
 have a1:=kb.cell 1
 have a2:=kb.cell 2
 have b0:=kb.frozen 0
 have b1:=kb.frozen 1
 have b2:=kb.frozen 2
 have r0:=kr.cell 0
 have r1:=kr.cell 1
 have r2:=kr.cell 2
 have g0:=kr.frozen 0
 have g1:=kr.frozen 1
 have g2:=kr.frozen 2
 go_enter Tryz.func133,Tryz.ntmps133
 go_wp2
 have k:=blk_a2 w (.cells #[.int .i64 (x.await:Int),.slice oa n c,.bool x.body] 62) #[.int .i64 (x.await:Int),.slice oa n c,.bool x.body] 62
 have h0:=k.cell 0
 have h1:=k.cell 1
 have h2:=k.cell 2
 refine bodyPost_ret (v:=.agg #[.int .i64 (x.await:Int),.slice oa n c,.bool x.body]) (by simp [results,Tryz.results133,go_sem,h0,h1,h2]) rfl ?_
 exact⟨rfl,below_a2' _ _ _⟩
set_option maxRecDepth 100000 in
set_option maxHeartbeats 2000000 in
theorem shorter_last (aw b off c:Nat) (hc:1≤c):
  Calls Tryz.prog 133 #[.agg #[.int .i64 (aw:Int),.slice (some ⟨b,off,none⟩) 1 c,.bool true],.bool false] w fun e w'=>e=.returned (.agg #[.int .i64 (aw:Int),.slice none 0 0,.bool false])∧Below w.heap.size w w':=by
 have kb:=(Blk.new w #[.int .i64 (aw:Int),.slice (some ⟨b,off,none⟩) 1 c,.bool true] 62).alloc (.cells #[.int .i64 0,.slice none 0 0,.bool false] 62)
 have kr:=Blk.new (w.alloc (.cells #[.int .i64 (aw:Int),.slice (some ⟨b,off,none⟩) 1 c,.bool true] 62)) #[.int .i64 0,.slice none 0 0,.bool false] 62
 rw [World.size_alloc]at kr
 have hB:=((Below.refl _ w).alloc (Nat.le_refl _) (.cells #[.int .i64 (aw:Int),.slice (some ⟨b,off,none⟩) 1 c,.bool true] 62)).alloc (by simp) (.cells #[.int .i64 0,.slice none 0 0,.bool false] 62)
 have a0:=kb.cell 0
 have a1:=kb.cell 1
 have a2:=kb.cell 2
 have b0:=kb.frozen 0
 have b1:=kb.frozen 1
 have b2:=kb.frozen 2
 have r0:=kr.cell 0
 have r1:=kr.cell 1
 have r2:=kr.cell 2
 have g0:=kr.frozen 0
 have g1:=kr.frozen 1
 have g2:=kr.frozen 2
 have q1:(1:Int)≤(c:Int):=by omega
 go_enter Tryz.func133,Tryz.ntmps133
 go_wp2
 all_goals
  have k:=fun o=>blk_a2 w o #[.int .i64 (aw:Int),.slice none 0 0,.bool false] 62
  have h0:=fun o=>(k o).cell 0
  have h1:=fun o=>(k o).cell 1
  have h2:=fun o=>(k o).cell 2
  refine bodyPost_ret (v:=.agg #[.int .i64 (aw:Int),.slice none 0 0,.bool false]) (by simp [results,Tryz.results133,go_sem,h0,h1,h2]) rfl ?_
  exact⟨rfl,below_a2' _ _ _⟩
set_option maxRecDepth 100000 in
set_option maxHeartbeats 2000000 in
theorem shorter_more (aw b off n c:Nat) (hn:2≤n) (hc:n≤c):
  Calls Tryz.prog 133 #[.agg #[.int .i64 (aw:Int),.slice (some ⟨b,off,none⟩) n c,.bool true],.bool false] w fun e w'=>e=.returned (.agg #[.int .i64 (aw:Int),.slice (some ⟨b,off+2,none⟩) (n - 1) (c - 1),.bool true])∧Below w.heap.size w w':=by
 have kb:=(Blk.new w #[.int .i64 (aw:Int),.slice (some ⟨b,off,none⟩) n c,.bool true] 62).alloc (.cells #[.int .i64 0,.slice none 0 0,.bool false] 62)
 have kr:=Blk.new (w.alloc (.cells #[.int .i64 (aw:Int),.slice (some ⟨b,off,none⟩) n c,.bool true] 62)) #[.int .i64 0,.slice none 0 0,.bool false] 62
 rw [World.size_alloc]at kr
 have hB:=((Below.refl _ w).alloc (Nat.le_refl _) (.cells #[.int .i64 (aw:Int),.slice (some ⟨b,off,none⟩) n c,.bool true] 62)).alloc (by simp) (.cells #[.int .i64 0,.slice none 0 0,.bool false] 62)
 have a0:=kb.cell 0
 have a1:=kb.cell 1
 have a2:=kb.cell 2
 have b0:=kb.frozen 0
 have b1:=kb.frozen 1
 have b2:=kb.frozen 2
 have r0:=kr.cell 0
 have r1:=kr.cell 1
 have r2:=kr.cell 2
 have g0:=kr.frozen 0
 have g1:=kr.frozen 1
 have g2:=kr.frozen 2
 have q1:(1:Int)≤(n:Int):=by omega
 have q2:(n:Int)≤(c:Int):=by omega
 go_enter Tryz.func133,Tryz.ntmps133
 go_wp2
 all_goals
  have k:=fun o=>blk_a2 w o #[.int .i64 (aw:Int),.slice (some ⟨b,off+2,none⟩) (n - 1) (c - 1),.bool true] 62
  have h0:=fun o=>(k o).cell 0
  have h1:=fun o=>(k o).cell 1
  have h2:=fun o=>(k o).cell 2
  refine bodyPost_ret (v:=.agg #[.int .i64 (aw:Int),.slice (some ⟨b,off+2,none⟩) (n - 1) (c - 1),.bool true]) (by simp [results,Tryz.results133,go_sem,h0,h1,h2]) rfl ?_
  exact⟨rfl,below_a2' _ _ _⟩
end
def BhP (w w':World) (oa:Option Addr) (n c:Nat) (y:Lx) (e:Ending):Prop:=∃oa' n' c',e=.returned (aggL y (.slice oa' n' c'))∧LxM w' (.slice oa' n' c') y∧Frm (fun b=>(Value.slice oa n c).ownBlock=some b) w w'∧∀g,(Value.slice oa' n' c').ownBlock=some g→(Value.slice oa n c).ownBlock=some g∨w.heap.size≤g
theorem BhP.same {w w':World} {oa:Option Addr} {n c:Nat} {x y:Lx} (hM:LxM w (.slice oa n c) x) (hB:Below w.heap.size w w') (hp:y.pend=x.pend) (hb:y.body=false→x.body=false):BhP w w' oa n c y (.returned (aggL y (.slice oa n c))):=
 ⟨oa,n,c,rfl,(hM.below hB).same hp hb,Frm.of_below hB,fun g h=> .inl h⟩
theorem blk_a3 (W:World) (o o2:Obj) (cs:Array Value) (ty:TypeId):Blk (((W.alloc o).alloc o2).alloc (.cells cs ty)) (W.heap.size+1+1) cs ty:=by
 have:=Blk.new ((W.alloc o).alloc o2) cs ty
 rwa [World.size_alloc,World.size_alloc]at this
theorem below_a3 (W:World) (o o' o2:Obj):Below W.heap.size W (((W.alloc o).alloc o').alloc o2):=(((Below.refl _ _).alloc (Nat.le_refl _) _).alloc (by simp) _).alloc (by simp;omega) _
section
variable (w:World) (x:Lx) (oa:Option Addr) (n c:Nat) (hM:LxM w (.slice oa n c) x) (f e:Nat) (op:Bool) (text:ByteArray)
include hM
set_option maxRecDepth 100000 in
set_option maxHeartbeats 4000000 in
theorem behind_blank:
  Calls Tryz.prog 110 #[aggL x (.slice oa n c),aggT ⟨1,f,e,op⟩,.string text] w fun e' w'=>BhP w w' oa n c x e':=by
 unfold aggT
 have kb:=((Blk.new w #[.int .i64 (x.await:Int),.slice oa n c,.bool x.body] 62).alloc (.cells #[.int .i64 1,.int .i64 (f:Int),.int .i64 (e:Int),.bool op] 67)).alloc (.cells #[.int .i64 0,.slice none 0 0,.bool false] 62)
 have kt:=(blk_a2 w (.cells #[.int .i64 (x.await:Int),.slice oa n c,.bool x.body] 62) #[.int .i64 1,.int .i64 (f:Int),.int .i64 (e:Int),.bool op] 67).alloc (.cells #[.int .i64 0,.slice none 0 0,.bool false] 62)
 have kr:=blk_a3 w (.cells #[.int .i64 (x.await:Int),.slice oa n c,.bool x.body] 62) (.cells #[.int .i64 1,.int .i64 (f:Int),.int .i64 (e:Int),.bool op] 67) #[.int .i64 0,.slice none 0 0,.bool false] 62
 have a0:=kb.cell 0
 have a1:=kb.cell 1
 have a2:=kb.cell 2
 have b0:=kb.frozen 0
 have b1:=kb.frozen 1
 have b2:=kb.frozen 2
 have t0:=kt.cell 0
 have t3:=kt.cell 3
 have r0:=kr.cell 0
 have r1:=kr.cell 1
 have r2:=kr.cell 2
 have g0:=kr.frozen 0
 have g1:=kr.frozen 1
 have g2:=kr.frozen 2
 go_enter Tryz.func110,Tryz.ntmps110
 unfold aggL
 go_wp2
 have k:=fun o o2=>blk_a3 w o o2 #[.int .i64 (x.await:Int),.slice oa n c,.bool x.body] 62
 have h0:=fun o o2=>(k o o2).cell 0
 have h1:=fun o o2=>(k o o2).cell 1
 have h2:=fun o o2=>(k o o2).cell 2
 refine bodyPost_ret (v:=.agg #[.int .i64 (x.await:Int),.slice oa n c,.bool x.body]) (by simp [results,Tryz.results110,go_sem,h0,h1,h2]) rfl ?_
 exact BhP.same hM (below_a3 _ _ _ _) rfl (fun h=>h)
set_option maxRecDepth 100000 in
set_option maxHeartbeats 4000000 in
theorem behind_comment:
  Calls Tryz.prog 110 #[aggL x (.slice oa n c),aggT ⟨3,f,e,op⟩,.string text] w fun e' w'=>BhP w w' oa n c ⟨0,x.pend,x.body⟩ e':=by
 unfold aggT
 have kb:=((Blk.new w #[.int .i64 (x.await:Int),.slice oa n c,.bool x.body] 62).alloc (.cells #[.int .i64 3,.int .i64 (f:Int),.int .i64 (e:Int),.bool op] 67)).alloc (.cells #[.int .i64 0,.slice none 0 0,.bool false] 62)
 have kt:=(blk_a2 w (.cells #[.int .i64 (x.await:Int),.slice oa n c,.bool x.body] 62) #[.int .i64 3,.int .i64 (f:Int),.int .i64 (e:Int),.bool op] 67).alloc (.cells #[.int .i64 0,.slice none 0 0,.bool false] 62)
 have kr:=blk_a3 w (.cells #[.int .i64 (x.await:Int),.slice oa n c,.bool x.body] 62) (.cells #[.int .i64 3,.int .i64 (f:Int),.int .i64 (e:Int),.bool op] 67) #[.int .i64 0,.slice none 0 0,.bool false] 62
 have a0:=kb.cell 0
 have a1:=kb.cell 1
 have a2:=kb.cell 2
 have b0:=kb.frozen 0
 have b1:=kb.frozen 1
 have b2:=kb.frozen 2
 have t0:=kt.cell 0
 have t3:=kt.cell 3
 have r0:=kr.cell 0
 have r1:=kr.cell 1
 have r2:=kr.cell 2
 have g0:=kr.frozen 0
 have g1:=kr.frozen 1
 have g2:=kr.frozen 2
 go_enter Tryz.func110,Tryz.ntmps110
 unfold aggL
 go_wp2
 have k:=fun o o2=>blk_a3 w o o2 #[.int .i64 0,.slice oa n c,.bool x.body] 62
 have h0:=fun o o2=>(k o o2).cell 0
 have h1:=fun o o2=>(k o o2).cell 1
 have h2:=fun o o2=>(k o o2).cell 2
 refine bodyPost_ret (v:=.agg #[.int .i64 0,.slice oa n c,.bool x.body]) (by simp [results,Tryz.results110,go_sem,h0,h1,h2]) rfl ?_
 exact BhP.same hM (below_a3 _ _ _ _) rfl (fun h=>h)
set_option maxRecDepth 100000 in
set_option maxHeartbeats 4000000 in
theorem behind_number:
  Calls Tryz.prog 110 #[aggL x (.slice oa n c),aggT ⟨5,f,e,op⟩,.string text] w fun e' w'=>BhP w w' oa n c ⟨0,x.pend,x.body⟩ e':=by
 unfold aggT
 have kb:=((Blk.new w #[.int .i64 (x.await:Int),.slice oa n c,.bool x.body] 62).alloc (.cells #[.int .i64 5,.int .i64 (f:Int),.int .i64 (e:Int),.bool op] 67)).alloc (.cells #[.int .i64 0,.slice none 0 0,.bool false] 62)
 have kt:=(blk_a2 w (.cells #[.int .i64 (x.await:Int),.slice oa n c,.bool x.body] 62) #[.int .i64 5,.int .i64 (f:Int),.int .i64 (e:Int),.bool op] 67).alloc (.cells #[.int .i64 0,.slice none 0 0,.bool false] 62)
 have kr:=blk_a3 w (.cells #[.int .i64 (x.await:Int),.slice oa n c,.bool x.body] 62) (.cells #[.int .i64 5,.int .i64 (f:Int),.int .i64 (e:Int),.bool op] 67) #[.int .i64 0,.slice none 0 0,.bool false] 62
 have a0:=kb.cell 0
 have a1:=kb.cell 1
 have a2:=kb.cell 2
 have b0:=kb.frozen 0
 have b1:=kb.frozen 1
 have b2:=kb.frozen 2
 have t0:=kt.cell 0
 have t3:=kt.cell 3
 have r0:=kr.cell 0
 have r1:=kr.cell 1
 have r2:=kr.cell 2
 have g0:=kr.frozen 0
 have g1:=kr.frozen 1
 have g2:=kr.frozen 2
 go_enter Tryz.func110,Tryz.ntmps110
 unfold aggL
 go_wp2
 have k:=fun o o2=>blk_a3 w o o2 #[.int .i64 0,.slice oa n c,.bool x.body] 62
 have h0:=fun o o2=>(k o o2).cell 0
 have h1:=fun o o2=>(k o o2).cell 1
 have h2:=fun o o2=>(k o o2).cell 2
 refine bodyPost_ret (v:=.agg #[.int .i64 0,.slice oa n c,.bool x.body]) (by simp [results,Tryz.results110,go_sem,h0,h1,h2]) rfl ?_
 exact BhP.same hM (below_a3 _ _ _ _) rfl (fun h=>h)
set_option maxRecDepth 100000 in
set_option maxHeartbeats 4000000 in
theorem behind_word0 (h0:x.await=0):
  Calls Tryz.prog 110 #[aggL x (.slice oa n c),aggT ⟨6,f,e,op⟩,.string text] w fun e' w'=>BhP w w' oa n c ⟨0,x.pend,x.body⟩ e':=by
 unfold aggT
 have kb:=((Blk.new w #[.int .i64 (x.await:Int),.slice oa n c,.bool x.body] 62).alloc (.cells #[.int .i64 6,.int .i64 (f:Int),.int .i64 (e:Int),.bool op] 67)).alloc (.cells #[.int .i64 0,.slice none 0 0,.bool false] 62)
 have kt:=(blk_a2 w (.cells #[.int .i64 (x.await:Int),.slice oa n c,.bool x.body] 62) #[.int .i64 6,.int .i64 (f:Int),.int .i64 (e:Int),.bool op] 67).alloc (.cells #[.int .i64 0,.slice none 0 0,.bool false] 62)
 have kr:=blk_a3 w (.cells #[.int .i64 (x.await:Int),.slice oa n c,.bool x.body] 62) (.cells #[.int .i64 6,.int .i64 (f:Int),.int .i64 (e:Int),.bool op] 67) #[.int .i64 0,.slice none 0 0,.bool false] 62
 have a0:=kb.cell 0
 have a1:=kb.cell 1
 have a2:=kb.cell 2
 have b0:=kb.frozen 0
 have b1:=kb.frozen 1
 have b2:=kb.frozen 2
 have t0:=kt.cell 0
 have t3:=kt.cell 3
 have r0:=kr.cell 0
 have r1:=kr.cell 1
 have r2:=kr.cell 2
 have g0:=kr.frozen 0
 have g1:=kr.frozen 1
 have g2:=kr.frozen 2
 have h00:(x.await:Int)=0:=by omega
 rw [h00]at kb kt kr a0 a1 a2 b0 b1 b2 t0 t3 r0 r1 r2 g0 g1 g2
 go_enter Tryz.func110,Tryz.ntmps110
 unfold aggL
 rw [h00]
 clear h00
 go_wp2
 have k:=fun o o2=>blk_a3 w o o2 #[.int .i64 0,.slice oa n c,.bool x.body] 62
 have h0:=fun o o2=>(k o o2).cell 0
 have h1:=fun o o2=>(k o o2).cell 1
 have h2:=fun o o2=>(k o o2).cell 2
 refine bodyPost_ret (v:=.agg #[.int .i64 0,.slice oa n c,.bool x.body]) (by simp [results,Tryz.results110,go_sem,h0,h1,h2]) rfl ?_
 exact BhP.same hM (below_a3 _ _ _ _) rfl (fun h=>h)
set_option maxRecDepth 100000 in
set_option maxHeartbeats 4000000 in
theorem behind_newline (hb:x.body=false):
  Calls Tryz.prog 110 #[aggL x (.slice oa n c),aggT ⟨2,f,e,op⟩,.string text] w fun e' w'=>BhP w w' oa n c ⟨0,x.pend,!x.pend.isEmpty⟩ e':=by
 have hcap:=hM.cap
 obtain⟨oa2,c2,he,_⟩:=hcap
 have hn:n=x.pend.length:=by injection he
 clear he
 have hbe:(!x.pend.isEmpty)=decide (0<n):=by
  rw [hn]
  cases x.pend with
  |nil=>rfl
  |cons d ds=>simp
 have HBE:=Lib.hid hbe
 have HNN:=Lib.hid hn
 clear hbe hn
 unfold aggT
 have kb:=((Blk.new w #[.int .i64 (x.await:Int),.slice oa n c,.bool x.body] 62).alloc (.cells #[.int .i64 2,.int .i64 (f:Int),.int .i64 (e:Int),.bool op] 67)).alloc (.cells #[.int .i64 0,.slice none 0 0,.bool false] 62)
 have kt:=(blk_a2 w (.cells #[.int .i64 (x.await:Int),.slice oa n c,.bool x.body] 62) #[.int .i64 2,.int .i64 (f:Int),.int .i64 (e:Int),.bool op] 67).alloc (.cells #[.int .i64 0,.slice none 0 0,.bool false] 62)
 have kr:=blk_a3 w (.cells #[.int .i64 (x.await:Int),.slice oa n c,.bool x.body] 62) (.cells #[.int .i64 2,.int .i64 (f:Int),.int .i64 (e:Int),.bool op] 67) #[.int .i64 0,.slice none 0 0,.bool false] 62
 have a0:=kb.cell 0
 have a1:=kb.cell 1
 have a2:=kb.cell 2
 have b0:=kb.frozen 0
 have b1:=kb.frozen 1
 have b2:=kb.frozen 2
 have t0:=kt.cell 0
 have t3:=kt.cell 3
 have r0:=kr.cell 0
 have r1:=kr.cell 1
 have r2:=kr.cell 2
 have g0:=kr.frozen 0
 have g1:=kr.frozen 1
 have g2:=kr.frozen 2
 go_enter Tryz.func110,Tryz.ntmps110
 unfold aggL
 by_cases h:0<n
 ·have hi:(0:Int)<(n:Int):=by omega
  go_wp2
  rw [HBE.out,decide_eq_true h]
  have k:=fun o o2=>blk_a3 w o o2 #[.int .i64 0,.slice oa n c,.bool true] 62
  have h0:=fun o o2=>(k o o2).cell 0
  have h1:=fun o o2=>(k o o2).cell 1
  have h2:=fun o o2=>(k o o2).cell 2
  refine bodyPost_ret (v:=.agg #[.int .i64 0,.slice oa n c,.bool true]) (by simp [results,Tryz.results110,go_sem,h0,h1,h2]) rfl ?_
  exact BhP.same hM (below_a3 _ _ _ _) rfl (fun h=>by cases h)
 ·have hi:¬(0:Int)<(n:Int):=by omega
  go_wp2
  rw [HBE.out,decide_eq_false h]
  have k:=fun o o2=>blk_a3 w o o2 #[.int .i64 0,.slice oa n c,.bool false] 62
  have h0:=fun o o2=>(k o o2).cell 0
  have h1:=fun o o2=>(k o o2).cell 1
  have h2:=fun o o2=>(k o o2).cell 2
  refine bodyPost_ret (v:=.agg #[.int .i64 0,.slice oa n c,.bool false]) (by simp [results,Tryz.results110,go_sem,h0,h1,h2]) rfl ?_
  exact BhP.same hM (below_a3 _ _ _ _) rfl (fun _=>hb)
set_option maxRecDepth 100000 in
set_option maxHeartbeats 4000000 in
theorem behind_oper (hT:Tx w) (ht:text.size≤1000000):
  Calls Tryz.prog 110 #[aggL x (.slice oa n c),aggT ⟨4,f,e,op⟩,.string text] w fun e' w'=>BhP w w' oa n c ⟨if ofN text=4∨ofN text=5 then ofN text else 0,x.pend,x.body⟩ e':=by
 obtain⟨A,hA⟩:∃A,(if ofN text=4∨ofN text=5 then ofN text else 0)=A:=⟨_,rfl⟩
 have haw:=fun W (hW:Tx W)=>awaiting_any W text ht hW
 rw [hA]at haw
 rw [hA]
 have HAW:=Lib.hid haw
 clear haw hA
 unfold aggT
 have kb:=((Blk.new w #[.int .i64 (x.await:Int),.slice oa n c,.bool x.body] 62).alloc (.cells #[.int .i64 4,.int .i64 (f:Int),.int .i64 (e:Int),.bool op] 67)).alloc (.cells #[.int .i64 0,.slice none 0 0,.bool false] 62)
 have kt:=(blk_a2 w (.cells #[.int .i64 (x.await:Int),.slice oa n c,.bool x.body] 62) #[.int .i64 4,.int .i64 (f:Int),.int .i64 (e:Int),.bool op] 67).alloc (.cells #[.int .i64 0,.slice none 0 0,.bool false] 62)
 have kr:=blk_a3 w (.cells #[.int .i64 (x.await:Int),.slice oa n c,.bool x.body] 62) (.cells #[.int .i64 4,.int .i64 (f:Int),.int .i64 (e:Int),.bool op] 67) #[.int .i64 0,.slice none 0 0,.bool false] 62
 have a0:=kb.cell 0
 have a1:=kb.cell 1
 have a2:=kb.cell 2
 have b0:=kb.frozen 0
 have b1:=kb.frozen 1
 have b2:=kb.frozen 2
 have t0:=kt.cell 0
 have t3:=kt.cell 3
 have r0:=kr.cell 0
 have r1:=kr.cell 1
 have r2:=kr.cell 2
 have g0:=kr.frozen 0
 have g1:=kr.frozen 1
 have g2:=kr.frozen 2
 go_enter Tryz.func110,Tryz.ntmps110
 unfold aggL
 have kb0:=fun o o2=>((Blk.new w #[.int .i64 0,.slice oa n c,.bool x.body] 62).alloc o).alloc o2
 go_wp2_with fail
 refine(HAW.out _ (hT.b (below_a3 _ _ _ _))).mono ?_
 rintro e1 w1 ⟨rfl,hB1⟩
 have kb1:=(kb0 _ _).below hB1
 have kr1:=(blk_a3 w _ _ _ _).below hB1
 have a0:=kb1.cell 0
 have a1:=kb1.cell 1
 have a2:=kb1.cell 2
 have b0:=kb1.frozen 0
 have b1:=kb1.frozen 1
 have b2:=kb1.frozen 2
 have r0:=kr1.cell 0
 have r1:=kr1.cell 1
 have r2:=kr1.cell 2
 have g0:=kr1.frozen 0
 have g1:=kr1.frozen 1
 have g2:=kr1.frozen 2
 have hBw:Below w.heap.size w w1:=(below_a3 _ _ _ _).trans (hB1.mono (by simp;omega))
 clear kb kt kr
 go_wp2
 have kr2:=(((kr1.other 0 (.int .i64 (A:Int)) (b':=w.heap.size) (by omega)).set 0 (.int .i64 (A:Int))).set 1 (.slice oa n c)).set 2 (.bool x.body)
 have hBf:Below w.heap.size w ((((w1.setCell ⟨w.heap.size,0,none⟩ (.int .i64 (A:Int))).setCell ⟨w.heap.size+1+1,0,none⟩ (.int .i64 (A:Int))).setCell ⟨w.heap.size+1+1,1,none⟩ (.slice oa n c)).setCell ⟨w.heap.size+1+1,2,none⟩ (.bool x.body)):=
  (((hBw.setCell (p:=⟨w.heap.size,0,none⟩) (Nat.le_refl _) _).setCell (p:=⟨w.heap.size+1+1,0,none⟩) (by show _≤w.heap.size+1+1;omega) _).setCell (p:=⟨w.heap.size+1+1,1,none⟩) (by show _≤w.heap.size+1+1;omega) _).setCell (p:=⟨w.heap.size+1+1,2,none⟩) (by show _≤w.heap.size+1+1;omega) _
 obtain⟨W5,hW5⟩:∃X,(((w1.setCell ⟨w.heap.size,0,none⟩ (.int .i64 (A:Int))).setCell ⟨w.heap.size+1+1,0,none⟩ (.int .i64 (A:Int))).setCell ⟨w.heap.size+1+1,1,none⟩ (.slice oa n c)).setCell ⟨w.heap.size+1+1,2,none⟩ (.bool x.body)=X:=⟨_,rfl⟩
 rw [hW5]at kr2 hBf ⊢
 have h0:W5.cell? ⟨w.heap.size+1+1,0,none⟩=some (.int .i64 (A:Int)):=kr2.cell 0
 have h1:W5.cell? ⟨w.heap.size+1+1,1,none⟩=some (.slice oa n c):=kr2.cell 1
 have h2:W5.cell? ⟨w.heap.size+1+1,2,none⟩=some (.bool x.body):=kr2.cell 2
 refine bodyPost_ret (v:=.agg #[.int .i64 (A:Int),.slice oa n c,.bool x.body]) (by simp [results,Tryz.results110,go_sem,h0,h1,h2]) rfl ?_
 exact BhP.same hM hBf rfl (fun h=>h)
set_option maxRecDepth 100000 in
set_option maxHeartbeats 4000000 in
theorem behind_here_open:
  Calls Tryz.prog 110 #[aggL x (.slice oa n c),aggT ⟨7,f,e,true⟩,.string text] w fun e' w'=>BhP w w' oa n c x e':=by
 unfold aggT
 have kb:=((Blk.new w #[.int .i64 (x.await:Int),.slice oa n c,.bool x.body] 62).alloc (.cells #[.int .i64 7,.int .i64 (f:Int),.int .i64 (e:Int),.bool true] 67)).alloc (.cells #[.int .i64 0,.slice none 0 0,.bool false] 62)
 have kt:=(blk_a2 w (.cells #[.int .i64 (x.await:Int),.slice oa n c,.bool x.body] 62) #[.int .i64 7,.int .i64 (f:Int),.int .i64 (e:Int),.bool true] 67).alloc (.cells #[.int .i64 0,.slice none 0 0,.bool false] 62)
 have kr:=blk_a3 w (.cells #[.int .i64 (x.await:Int),.slice oa n c,.bool x.body] 62) (.cells #[.int .i64 7,.int .i64 (f:Int),.int .i64 (e:Int),.bool true] 67) #[.int .i64 0,.slice none 0 0,.bool false] 62
 have a0:=kb.cell 0
 have a1:=kb.cell 1
 have a2:=kb.cell 2
 have b0:=kb.frozen 0
 have b1:=kb.frozen 1
 have b2:=kb.frozen 2
 have t0:=kt.cell 0
 have t3:=kt.cell 3
 have r0:=kr.cell 0
 have r1:=kr.cell 1
 have r2:=kr.cell 2
 have g0:=kr.frozen 0
 have g1:=kr.frozen 1
 have g2:=kr.frozen 2
 go_enter Tryz.func110,Tryz.ntmps110
 unfold aggL
 go_wp2_with fail
 refine(shorter_open _ x oa n c).mono ?_
 rintro e1 w1 ⟨rfl,hB1⟩
 unfold aggL
 have kr1:=(blk_a3 w _ _ _ _).below hB1
 have r0:=kr1.cell 0
 have r1:=kr1.cell 1
 have r2:=kr1.cell 2
 have g0:=kr1.frozen 0
 have g1:=kr1.frozen 1
 have g2:=kr1.frozen 2
 have hBw:Below w.heap.size w w1:=(below_a3 _ _ _ _).trans (hB1.mono (by simp;omega))
 clear kb kt kr
 go_wp2
 have kr2:=((kr1.set 0 (.int .i64 (x.await:Int))).set 1 (.slice oa n c)).set 2 (.bool x.body)
 have hBf:Below w.heap.size w (((w1.setCell ⟨w.heap.size+1+1,0,none⟩ (.int .i64 (x.await:Int))).setCell ⟨w.heap.size+1+1,1,none⟩ (.slice oa n c)).setCell ⟨w.heap.size+1+1,2,none⟩ (.bool x.body)):=
  ((hBw.setCell (p:=⟨w.heap.size+1+1,0,none⟩) (by show _≤w.heap.size+1+1;omega) _).setCell (p:=⟨w.heap.size+1+1,1,none⟩) (by show _≤w.heap.size+1+1;omega) _).setCell (p:=⟨w.heap.size+1+1,2,none⟩) (by show _≤w.heap.size+1+1;omega) _
 obtain⟨W5,hW5⟩:∃X,((w1.setCell ⟨w.heap.size+1+1,0,none⟩ (.int .i64 (x.await:Int))).setCell ⟨w.heap.size+1+1,1,none⟩ (.slice oa n c)).setCell ⟨w.heap.size+1+1,2,none⟩ (.bool x.body)=X:=⟨_,rfl⟩
 rw [hW5]at kr2 hBf ⊢
 have h0:W5.cell? ⟨w.heap.size+1+1,0,none⟩=some (.int .i64 (x.await:Int)):=kr2.cell 0
 have h1:W5.cell? ⟨w.heap.size+1+1,1,none⟩=some (.slice oa n c):=kr2.cell 1
 have h2:W5.cell? ⟨w.heap.size+1+1,2,none⟩=some (.bool x.body):=kr2.cell 2
 refine bodyPost_ret (v:=.agg #[(.int .i64 (x.await:Int)),(.slice oa n c),(.bool x.body)]) (by simp [results,Tryz.results110,go_sem,h0,h1,h2]) rfl ?_
 exact BhP.same hM hBf rfl (fun h=>h)
set_option maxRecDepth 100000 in
set_option maxHeartbeats 4000000 in
theorem behind_here_last (b off:Nat) (ha:oa=some ⟨b,off,none⟩) (hn:n=1) (hc:1≤c) (hbd:x.body=true):
  Calls Tryz.prog 110 #[aggL x (.slice oa n c),aggT ⟨7,f,e,false⟩,.string text] w fun e' w'=>BhP w w' oa n c ⟨x.await,[],false⟩ e':=by
 subst ha
 subst hn
 have HBD:=Lib.hid hbd
 clear hbd
 unfold aggT
 have kb:=((Blk.new w #[.int .i64 (x.await:Int),.slice (some ⟨b,off,none⟩) 1 c,.bool true] 62).alloc (.cells #[.int .i64 7,.int .i64 (f:Int),.int .i64 (e:Int),.bool false] 67)).alloc (.cells #[.int .i64 0,.slice none 0 0,.bool false] 62)
 have kt:=(blk_a2 w (.cells #[.int .i64 (x.await:Int),.slice (some ⟨b,off,none⟩) 1 c,.bool true] 62) #[.int .i64 7,.int .i64 (f:Int),.int .i64 (e:Int),.bool false] 67).alloc (.cells #[.int .i64 0,.slice none 0 0,.bool false] 62)
 have kr:=blk_a3 w (.cells #[.int .i64 (x.await:Int),.slice (some ⟨b,off,none⟩) 1 c,.bool true] 62) (.cells #[.int .i64 7,.int .i64 (f:Int),.int .i64 (e:Int),.bool false] 67) #[.int .i64 0,.slice none 0 0,.bool false] 62
 have a0:=kb.cell 0
 have a1:=kb.cell 1
 have a2:=kb.cell 2
 have b0:=kb.frozen 0
 have b1:=kb.frozen 1
 have b2:=kb.frozen 2
 have t0:=kt.cell 0
 have t3:=kt.cell 3
 have r0:=kr.cell 0
 have r1:=kr.cell 1
 have r2:=kr.cell 2
 have g0:=kr.frozen 0
 have g1:=kr.frozen 1
 have g2:=kr.frozen 2
 go_enter Tryz.func110,Tryz.ntmps110
 unfold aggL
 rw [HBD.out]
 go_wp2_with fail
 refine(shorter_last _ x.await b off c hc).mono ?_
 rintro e1 w1 ⟨rfl,hB1⟩
 have kr1:=(blk_a3 w _ _ _ _).below hB1
 have r0:=kr1.cell 0
 have r1:=kr1.cell 1
 have r2:=kr1.cell 2
 have g0:=kr1.frozen 0
 have g1:=kr1.frozen 1
 have g2:=kr1.frozen 2
 have hBw:Below w.heap.size w w1:=(below_a3 _ _ _ _).trans (hB1.mono (by simp;omega))
 clear kb kt kr
 go_wp2
 have kr2:=((kr1.set 0 (.int .i64 (x.await:Int))).set 1 (.slice none 0 0)).set 2 (.bool false)
 have hBf:Below w.heap.size w (((w1.setCell ⟨w.heap.size+1+1,0,none⟩ (.int .i64 (x.await:Int))).setCell ⟨w.heap.size+1+1,1,none⟩ (.slice none 0 0)).setCell ⟨w.heap.size+1+1,2,none⟩ (.bool false)):=
  ((hBw.setCell (p:=⟨w.heap.size+1+1,0,none⟩) (by show _≤w.heap.size+1+1;omega) _).setCell (p:=⟨w.heap.size+1+1,1,none⟩) (by show _≤w.heap.size+1+1;omega) _).setCell (p:=⟨w.heap.size+1+1,2,none⟩) (by show _≤w.heap.size+1+1;omega) _
 obtain⟨W5,hW5⟩:∃X,((w1.setCell ⟨w.heap.size+1+1,0,none⟩ (.int .i64 (x.await:Int))).setCell ⟨w.heap.size+1+1,1,none⟩ (.slice none 0 0)).setCell ⟨w.heap.size+1+1,2,none⟩ (.bool false)=X:=⟨_,rfl⟩
 rw [hW5]at kr2 hBf ⊢
 have h0:W5.cell? ⟨w.heap.size+1+1,0,none⟩=some (.int .i64 (x.await:Int)):=kr2.cell 0
 have h1:W5.cell? ⟨w.heap.size+1+1,1,none⟩=some (.slice none 0 0):=kr2.cell 1
 have h2:W5.cell? ⟨w.heap.size+1+1,2,none⟩=some (.bool false):=kr2.cell 2
 refine bodyPost_ret (v:=.agg #[(.int .i64 (x.await:Int)),(.slice none 0 0),(.bool false)]) (by simp [results,Tryz.results110,go_sem,h0,h1,h2]) rfl ?_
 exact⟨none,0,0,rfl,LxM.same (x:=Lx.zero) (LxM.zero _) rfl (fun h=>rfl),Frm.of_below hBf,fun g h=>(by cases h)⟩
set_option maxRecDepth 100000 in
set_option maxHeartbeats 4000000 in
theorem behind_here_more (b off:Nat) (d:Dl) (ds:List Dl) (ha:oa=some ⟨b,off,none⟩) (hn:n=ds.length+1) (hne:ds≠ []) (hxe:x=⟨x.await,d::ds,true⟩) (hc:n≤c) (hbd:x.body=true):
  Calls Tryz.prog 110 #[aggL x (.slice oa n c),aggT ⟨7,f,e,false⟩,.string text] w fun e' w'=>BhP w w' oa n c ⟨x.await,ds,true⟩ e':=by
 subst ha
 have hn2:2≤n:=by
  rw [hn]
  have:=List.length_pos_iff.2 hne
  omega
 have HBD:=Lib.hid hbd
 rw [hxe]at hM
 have HN:Hid (n - 1=ds.length∧LxM w (.slice (some ⟨b,off,none⟩) (ds.length+1) c) ⟨x.await,d::ds,true⟩):=Lib.hid ⟨by omega,by rw [←hn];exact hM⟩
 have HNE:=Lib.hid hne
 clear hbd hn hxe hne hM
 unfold aggT
 have kb:=((Blk.new w #[.int .i64 (x.await:Int),.slice (some ⟨b,off,none⟩) n c,.bool true] 62).alloc (.cells #[.int .i64 7,.int .i64 (f:Int),.int .i64 (e:Int),.bool false] 67)).alloc (.cells #[.int .i64 0,.slice none 0 0,.bool false] 62)
 have kt:=(blk_a2 w (.cells #[.int .i64 (x.await:Int),.slice (some ⟨b,off,none⟩) n c,.bool true] 62) #[.int .i64 7,.int .i64 (f:Int),.int .i64 (e:Int),.bool false] 67).alloc (.cells #[.int .i64 0,.slice none 0 0,.bool false] 62)
 have kr:=blk_a3 w (.cells #[.int .i64 (x.await:Int),.slice (some ⟨b,off,none⟩) n c,.bool true] 62) (.cells #[.int .i64 7,.int .i64 (f:Int),.int .i64 (e:Int),.bool false] 67) #[.int .i64 0,.slice none 0 0,.bool false] 62
 have a0:=kb.cell 0
 have a1:=kb.cell 1
 have a2:=kb.cell 2
 have b0:=kb.frozen 0
 have b1:=kb.frozen 1
 have b2:=kb.frozen 2
 have t0:=kt.cell 0
 have t3:=kt.cell 3
 have r0:=kr.cell 0
 have r1:=kr.cell 1
 have r2:=kr.cell 2
 have g0:=kr.frozen 0
 have g1:=kr.frozen 1
 have g2:=kr.frozen 2
 go_enter Tryz.func110,Tryz.ntmps110
 unfold aggL
 rw [HBD.out]
 go_wp2_with fail
 refine(shorter_more _ x.await b off n c hn2 hc).mono ?_
 rintro e1 w1 ⟨rfl,hB1⟩
 have kr1:=(blk_a3 w _ _ _ _).below hB1
 have r0:=kr1.cell 0
 have r1:=kr1.cell 1
 have r2:=kr1.cell 2
 have g0:=kr1.frozen 0
 have g1:=kr1.frozen 1
 have g2:=kr1.frozen 2
 have hBw:Below w.heap.size w w1:=(below_a3 _ _ _ _).trans (hB1.mono (by simp;omega))
 clear kb kt kr
 go_wp2
 have kr2:=((kr1.set 0 (.int .i64 (x.await:Int))).set 1 (.slice (some ⟨b,off+2,none⟩) (n - 1) (c - 1))).set 2 (.bool true)
 have hBf:Below w.heap.size w (((w1.setCell ⟨w.heap.size+1+1,0,none⟩ (.int .i64 (x.await:Int))).setCell ⟨w.heap.size+1+1,1,none⟩ (.slice (some ⟨b,off+2,none⟩) (n - 1) (c - 1))).setCell ⟨w.heap.size+1+1,2,none⟩ (.bool true)):=
  ((hBw.setCell (p:=⟨w.heap.size+1+1,0,none⟩) (by show _≤w.heap.size+1+1;omega) _).setCell (p:=⟨w.heap.size+1+1,1,none⟩) (by show _≤w.heap.size+1+1;omega) _).setCell (p:=⟨w.heap.size+1+1,2,none⟩) (by show _≤w.heap.size+1+1;omega) _
 obtain⟨W5,hW5⟩:∃X,((w1.setCell ⟨w.heap.size+1+1,0,none⟩ (.int .i64 (x.await:Int))).setCell ⟨w.heap.size+1+1,1,none⟩ (.slice (some ⟨b,off+2,none⟩) (n - 1) (c - 1))).setCell ⟨w.heap.size+1+1,2,none⟩ (.bool true)=X:=⟨_,rfl⟩
 rw [hW5]at kr2 hBf ⊢
 have h0:W5.cell? ⟨w.heap.size+1+1,0,none⟩=some (.int .i64 (x.await:Int)):=kr2.cell 0
 have h1:W5.cell? ⟨w.heap.size+1+1,1,none⟩=some (.slice (some ⟨b,off+2,none⟩) (n - 1) (c - 1)):=kr2.cell 1
 have h2:W5.cell? ⟨w.heap.size+1+1,2,none⟩=some (.bool true):=kr2.cell 2
 refine bodyPost_ret (v:=.agg #[(.int .i64 (x.await:Int)),(.slice (some ⟨b,off+2,none⟩) (n - 1) (c - 1)),(.bool true)]) (by simp [results,Tryz.results110,go_sem,h0,h1,h2]) rfl ?_
 refine⟨some ⟨b,off+2,none⟩,n - 1,c - 1,rfl,?_,Frm.of_below hBf,fun g h=> .inl h⟩
 rw [HN.out.1]
 exact(HN.out.2.tail HNE.out).below hBf
end
theorem src_d {W:World} {b:Nat} {a:ByteArray} {t:Bool} (h:Blk W b #[.string a,.bool t] 105):Src W (.slice (some ⟨b,0,none⟩) 1 1) 1 [.string a,.bool t]:=by
 refine .inr ⟨_,0,1,rfl,h.lt,fun j u hj=>?_⟩
 rw [Nat.zero_add,h.cell j]
 simpa using hj
section
variable (w:World) (x:Lx) (oa:Option Addr) (n c:Nat) (hM:LxM w (.slice oa n c) x) (f e:Nat) (op:Bool) (text:ByteArray)
include hM
set_option maxRecDepth 100000 in
set_option maxHeartbeats 8000000 in
theorem behind_word (h0:x.await≠0) (hb:x.body=false) (hp:x.pend.length≤900000) (ht:text.size≤60000) (haw:x.await≤1000):
  Calls Tryz.prog 110 #[aggL x (.slice oa n c),aggT ⟨6,f,e,op⟩,.string text] w fun e' w'=>BhP w w' oa n c ⟨0,x.pend++ [⟨bareL (PCs text),decide (x.await=5)⟩],x.body⟩ e':=by
 have hcap:=hM.cap
 obtain⟨oa2,c2,he,hnc⟩:=hcap
 have hn:n=x.pend.length:=by injection he
 clear he
 have hown:=hM.own hb
 have hpos:=hM.pos
 have hdec:((x.await:Int)==5)=decide (x.await=5):=by
  by_cases h5:x.await=5
  ·rw [h5];rfl
  ·rw [decide_eq_false h5];exact beq_eq_false_iff_ne.2 (by omega)
 obtain⟨A,hA⟩:∃A,x.await=A:=⟨_,rfl⟩
 obtain⟨pd,hpd⟩:∃pd,x.pend=pd:=⟨_,rfl⟩
 obtain⟨T5,hT5⟩:∃T5,decide (x.await=5)=T5:=⟨_,rfl⟩
 obtain⟨BT,hBT⟩:∃BT,bareL (PCs text)=BT:=⟨_,rfl⟩
 have HBA:=Lib.hid (fun W=>bare8_any W text ht)
 rw [hBT]at HBA ⊢
 unfold aggT aggL
 rw [hT5]at hdec ⊢
 rw [hpd]at hp hn hown ⊢
 rw [hA]at hdec h0 haw ⊢
 rw [←hn]at hown
 have h0i:¬(A:Int)=0:=by omega
 have h0b:((A:Int)==0)=false:=beq_eq_false_iff_ne.2 h0i
 have kb:=((Blk.new w #[.int .i64 (A:Int),.slice oa n c,.bool x.body] 62).alloc (.cells #[.int .i64 6,.int .i64 (f:Int),.int .i64 (e:Int),.bool op] 67)).alloc (.cells #[.int .i64 0,.slice none 0 0,.bool false] 62)
 have kt:=(blk_a2 w (.cells #[.int .i64 (A:Int),.slice oa n c,.bool x.body] 62) #[.int .i64 6,.int .i64 (f:Int),.int .i64 (e:Int),.bool op] 67).alloc (.cells #[.int .i64 0,.slice none 0 0,.bool false] 62)
 have kr:=blk_a3 w (.cells #[.int .i64 (A:Int),.slice oa n c,.bool x.body] 62) (.cells #[.int .i64 6,.int .i64 (f:Int),.int .i64 (e:Int),.bool op] 67) #[.int .i64 0,.slice none 0 0,.bool false] 62
 have a0:=kb.cell 0
 have a1:=kb.cell 1
 have a2:=kb.cell 2
 have b0:=kb.frozen 0
 have b1:=kb.frozen 1
 have b2:=kb.frozen 2
 have t0:=kt.cell 0
 have t3:=kt.cell 3
 have r0:=kr.cell 0
 have r1:=kr.cell 1
 have r2:=kr.cell 2
 have g0:=kr.frozen 0
 have g1:=kr.frozen 1
 have g2:=kr.frozen 2
 have HX:=Lib.hid (And.intro hA (And.intro hpd (And.intro hn hb)))
 have HOWN:=Lib.hid hown
 have HPOS:=Lib.hid hpos
 have hnn:n≤900000:=by omega
 have hM':=Lib.hid hM
 have HC:=Lib.hid hnc
 clear hA hpd hn hb hown hpos hM hnc hT5 hBT hp
 go_enter Tryz.func110,Tryz.ntmps110
 go_wp2
 obtain⟨W1,hW1⟩:∃X,((w.alloc (.cells #[.int .i64 0,.slice oa n c,.bool x.body] 62)).alloc (.cells #[.int .i64 6,.int .i64 (f:Int),.int .i64 (e:Int),.bool op] 67)).alloc (.cells #[.int .i64 0,.slice none 0 0,.bool false] 62)=X:=⟨_,rfl⟩
 have kb1:Blk W1 w.heap.size #[.int .i64 0,.slice oa n c,.bool x.body] 62:=by rw [←hW1];exact((Blk.new w _ _).alloc _).alloc _
 have kr1:Blk W1 (w.heap.size+1+1) #[.int .i64 0,.slice none 0 0,.bool false] 62:=by rw [←hW1];exact blk_a3 _ _ _ _ _
 have hB1:Below w.heap.size w W1:=by rw [←hW1];exact below_a3 _ _ _ _
 have hz1:W1.heap.size=w.heap.size+3:=by rw [←hW1];simp
 have ho1:W1.ownsRow 1 105 2 (.slice oa n c) n (cellsD pd):=own_below HOWN.out hB1
 rw [hW1]
 clear hW1 kb kt kr a0 a1 a2 b0 b1 b2 t0 t3 r0 r1 r2 g0 g1 g2
 obtain⟨Bx,hBx⟩:∃z,w.heap.size=z:=⟨_,rfl⟩
 have HBX:=Lib.hid hBx
 rw [hBx]at kb1 kr1 hB1 hz1 ⊢
 clear hBx
 have HO1:=Lib.hid ho1
 have hst:∀W:World,Calls Tryz.prog 135 #[.string text] W fun e w'=>∃v,e=.returned v∧(v=.string BT∧Below W.heap.size W w'):=fun W=>(HBA.out W).mono (fun e w' h=>⟨_,h.1,rfl,h.2⟩)
 have HST:=Lib.hid hst
 clear hst
 have HB1:=Lib.hid hB1
 have hs0:W1.drew.cell? ⟨Bx,1,none⟩=some (.slice oa n c):=kb1.drew.cell 1
 clear ho1 hB1
 go_region_law (first
  |(refine step_call (by rfl) Tryz.func135 (by kernel_rfl) (by kernel_rfl) _ _ (by rfl) [.string text] (by rfl) _ (HST.out _) ?_;intro v w2 hh;obtain⟨hv,hb2⟩:=hh;subst hv;have kb2:=(kb1.drew).below hb2;have kr2:=(kr1.drew).below hb2;have hs2:=kb2.cell 1;have hs2a:∀o,(w2.alloc o).cell? ⟨Bx,1,none⟩=some (.slice oa n c):=fun o=>(kb2.alloc o).cell 1;have hz2:=hb2.size)
  |(refine step_app_gen (by rfl) _ _ 60 105 2 24 _ (by rfl) Tryz.underlying60 infoDl rfl (by omega) (by omega) 1 (.slice oa n c) n (cellsD pd) (by rfl) ((own_below HO1.out.drew hb2).alloc _) _ 1 [.string BT,.bool T5] (by rfl) (src_d (Blk.new w2 _ _)) rfl (cellsD_one [⟨BT,T5⟩]) (by omega) (by rw [World.size_alloc];omega) (n+1) rfl ?_;intro oa9 c9 w9 hown9 hgr9 hg9;have kb9:=(kb2.alloc (.cells #[.string BT,.bool T5] 105)).grown hgr9 (fun e=>by have:=(HPOS.out _ e.symm).2;have:=HBX.out;omega);have kr9:=(kr2.alloc (.cells #[.string BT,.bool T5] 105)).grown hgr9 (fun e=>by have:=(HPOS.out _ e.symm).2;have:=HBX.out;omega);have hs9:=kb9.cell 1;have e90:=kb9.cell 0;have e92:=kb9.cell 2;have f90:=kb9.frozen 0;have f91:=kb9.frozen 1;have f92:=kb9.frozen 2;have r90:=kr9.cell 0;have r91:=kr9.cell 1;have r92:=kr9.cell 2;have q90:=kr9.frozen 0;have q91:=kr9.frozen 1;have q92:=kr9.frozen 2))
 all_goals
  have k9:=kb9.set 1 (.slice oa9 (n+1) c9)
  have kr10:=kr9.other 1 (.slice oa9 (n+1) c9) (b':=Bx) (by omega)
  have hB2:Below Bx w w2:=HB1.out.drew.trans (hb2.mono (by show Bx≤W1.heap.size;omega))
  have hz2':Bx+3≤w2.heap.size:=by have:W1.heap.size≤w2.heap.size:=hz2;omega
  have hBX:=HBX.out
  have hpos:=HPOS.out
  have hfr:Frm (fun b=>(Value.slice oa n c).ownBlock=some b) w w9:=((Frm.of_below (by rw [hBX];exact hB2)).alloc _).grown hgr9 (fun k hk=> .inl hk)
  obtain⟨g9,cap9,he9,hge9,hnc9,_,hlt9⟩:=owns_nil hown9 (by omega)
  have hc9:n+1≤c9:=by
   injection he9 with _ _ e3
   omega
  have hgo:∀g,(Value.slice oa9 (n+1) c9).ownBlock=some g→(Value.slice oa n c).ownBlock=some g∨w.heap.size≤g:=fun g hg=>by
   rcases hg9 with q|q
   ·exact .inl (q.symm.trans hg)
   ·rw [q,World.size_alloc]at hg
    injection hg with hg
    exact .inr (by omega)
  have hgl:∀g,(Value.slice oa9 (n+1) c9).ownBlock=some g→1≤g∧g<w9.heap.size∧g≠Bx∧g≠Bx+1+1:=fun g hg=>by
   have hq:g=g9:=by
    rw [he9]at hg
    injection hg with hg
    exact hg.symm
   refine⟨by omega,by omega,?_,?_⟩
   ·rcases hg9 with q|q
    ·have:=(hpos g (q.symm.trans hg)).2;omega
    ·rw [q,World.size_alloc]at hg
     injection hg with hg
     omega
   ·rcases hg9 with q|q
    ·have:=(hpos g (q.symm.trans hg)).2;omega
    ·rw [q,World.size_alloc]at hg
     injection hg with hg
     omega
  have HHE:=Lib.hid (And.intro hfr (And.intro hgo (And.intro hgl (And.intro hc9 hown9))))
  clear hfr hgo hgl hc9 hown9 he9 hge9 hnc9 hlt9 hg9
  go_wp2
  have k10:=((kr10.set 0 (.int .i64 0)).set 1 (.slice oa9 (n+1) c9)).set 2 (.bool x.body)
  obtain⟨hfr,hgo,hgl,hc9,hown9⟩:=HHE.out
  have hF:Frm (fun b=>b=Bx∨b=Bx+1+1) w9 ((((w9.setCell ⟨Bx,1,none⟩ (.slice oa9 (n+1) c9)).setCell ⟨Bx+1+1,0,none⟩ (.int .i64 0)).setCell ⟨Bx+1+1,1,none⟩ (.slice oa9 (n+1) c9)).setCell ⟨Bx+1+1,2,none⟩ (.bool x.body)):=
   ((((Frm.refl _ w9).setCell 1 (.inl (.inl rfl)) _).setCell 0 (.inl (.inr rfl)) _).setCell 1 (.inl (.inr rfl)) _).setCell 2 (.inl (.inr rfl)) _
  obtain⟨W5,hW5⟩:∃X,(((w9.setCell ⟨Bx,1,none⟩ (.slice oa9 (n+1) c9)).setCell ⟨Bx+1+1,0,none⟩ (.int .i64 0)).setCell ⟨Bx+1+1,1,none⟩ (.slice oa9 (n+1) c9)).setCell ⟨Bx+1+1,2,none⟩ (.bool x.body)=X:=⟨_,rfl⟩
  rw [hW5]at k10 hF ⊢
  have h0:W5.cell? ⟨Bx+1+1,0,none⟩=some (.int .i64 0):=k10.cell 0
  have h1:W5.cell? ⟨Bx+1+1,1,none⟩=some (.slice oa9 (n+1) c9):=k10.cell 1
  have h2:W5.cell? ⟨Bx+1+1,2,none⟩=some (.bool x.body):=k10.cell 2
  refine bodyPost_ret (v:=.agg #[.int .i64 0,.slice oa9 (n+1) c9,.bool x.body]) (by simp [results,Tryz.results110,go_sem,h0,h1,h2]) rfl ?_
  have hlen:(pd++ [(⟨BT,T5⟩:Dl)]).length=n+1:=by rw [List.length_append,HX.out.2.2.1];rfl
  have hce:cellsD (pd++ [(⟨BT,T5⟩:Dl)])=cellsD pd++ [.string BT,.bool T5]:=by rw [cellsD_append];rfl
  have hownF:W5.ownsRow 1 105 2 (.slice oa9 (n+1) c9) (n+1) (cellsD pd++ [.string BT,.bool T5]):=own_frm hF hown9 (fun g hg hh=>by have:=hgl g hg;omega)
  refine⟨oa9,n+1,c9,rfl,⟨?_,fun _=>?_,fun g hg=>⟨(hgl g hg).1,Nat.lt_of_lt_of_le (hgl g hg).2.1 hF.size⟩,⟨oa9,c9,?_,?_⟩⟩,hfr.trans hF (fun i hi hh=>by omega),hgo⟩
  ·show Src W5 _ (pd++ [(⟨BT,T5⟩:Dl)]).length (cellsD (pd++ [(⟨BT,T5⟩:Dl)]))
   rw [hlen,hce]
   exact Src.of_own hownF
  ·show W5.ownsRow 1 _ 2 _ (pd++ [(⟨BT,T5⟩:Dl)]).length (cellsD (pd++ [(⟨BT,T5⟩:Dl)]))
   rw [hlen,hce]
   exact hownF
  ·show _=Value.slice oa9 (pd++ [(⟨BT,T5⟩:Dl)]).length c9
   rw [hlen]
  ·show(pd++ [(⟨BT,T5⟩:Dl)]).length≤c9
   rw [hlen];exact hc9
end
theorem docN_nil (t:ByteArray):docN t []=(t.size,false):=rfl
theorem meK_le (s:ByteArray) (a:Nat):meK s a=1∨meK s a=2∨meK s a=3∨meK s a=4∨meK s a=5∨meK s a=6:=by
 unfold meK
 repeat' split
 all_goals omega
theorem behind_any (w:World) (x:Lx) (oa:Option Addr) (n c:Nat) (hM:LxM w (.slice oa n c) x) (s:ByteArray) (a:Nat) (ha:a<s.size) (hs:s.size≤60000) (hT:Tx w) (hp:x.pend.length≤900000) (haw:x.await≤1000):
  Calls Tryz.prog 110 #[aggL x (.slice oa n c),aggT (tkN s a x),.string (s.extract (tkN s a x).frm (tkN s a x).en)] w fun e' w'=>BhP w w' oa n c (nxN s a x) e':=by
 obtain⟨oa2,c2,he,hnc⟩:=hM.cap
 injection he with he1 hn he3
 subst he1 he3
 have hts:(s.extract (tkN s a x).frm (tkN s a x).en).size≤60000:=by rw [ByteArray.size_extract];omega
 unfold nxN
 by_cases hb:x.body=true
 ·have htk:tkN s a x=⟨7,a,a+(docN (s.extract a s.size) x.pend).1,!(docN (s.extract a s.size) x.pend).2⟩:=if_pos hb
  generalize s.extract (tkN s a x).frm (tkN s a x).en=text at hts ⊢
  rw [htk]
  generalize hdo:docN (s.extract a s.size) x.pend=q
  obtain⟨dn,ok⟩:=q
  cases ok with
  |false=>exact behind_here_open w x oa n c hM a (a+dn) text
  |true=>
   cases hpd:x.pend with
   |nil=>rw [hpd,docN_nil]at hdo;cases hdo
   |cons d ds=>
    have hx:x=⟨x.await,d::ds,true⟩:=by rw [←hpd,←hb]
    rw [hpd]at hn hnc
    simp only [List.length_cons]at hn hnc
    rcases hM.src with⟨h1,h2,_⟩|⟨b,off,cc,e4,h2,h3⟩
    ·rw [hpd]at h2;cases h2
    ·injection e4 with e5 e6 e7
     show Calls _ _ #[_,aggT ⟨7,a,a+dn,false⟩,_] w fun e' w'=>BhP w w' oa n c ⟨x.await,x.pend.tail,!x.pend.tail.isEmpty && x.body⟩ e'
     rw [hpd,hb]
     cases ds with
     |nil=>
      exact behind_here_last w x oa n c hM a (a+dn) text b off e5 (by simpa using hn) (by simp at hnc;omega) hb
     |cons d2 ds2=>
      exact behind_here_more w x oa n c hM a (a+dn) text b off d (d2::ds2) e5 hn (by simp) hx (by omega) hb
 ·have hb':x.body=false:=by simpa using hb
  have htk:tkN s a x=⟨meK s a,a,meE s a,decide (meK s a=6)&& opnW (s.extract a (meE s a))⟩:=if_neg hb
  generalize s.extract (tkN s a x).frm (tkN s a x).en=text at hts ⊢
  rw [htk]
  generalize(decide (meK s a=6)&& opnW (s.extract a (meE s a)))=op
  generalize meE s a=e
  have hme:=meK_le s a
  generalize meK s a=k at hme ⊢
  rcases hme with h|h|h|h|h|h
  ·subst h;exact behind_blank w x oa n c hM a e op text
  ·subst h;exact behind_newline w x oa n c hM a e op text hb'
  ·subst h;exact behind_comment w x oa n c hM a e op text
  ·subst h;exact behind_oper w x oa n c hM a e op text hT (by omega)
  ·subst h;exact behind_number w x oa n c hM a e op text
  ·subst h
   by_cases h0:x.await=0
   ·have:=behind_word0 w x oa n c hM a e op text h0
    show Calls _ _ #[_,aggT ⟨6,a,e,op⟩,_] w fun e' w'=>BhP w w' oa n c (lxN x 6 op text) e'
    rw [show lxN x 6 op text=⟨0,x.pend,x.body⟩ by unfold lxN;rw [if_neg (by omega),if_neg (by omega),if_neg (by omega),if_neg (by omega),if_neg (by rintro⟨_,h⟩;exact h h0)]]
    exact this
   ·have:=behind_word w x oa n c hM a e op text h0 hb' hp hts haw
    show Calls _ _ #[_,aggT ⟨6,a,e,op⟩,_] w fun e' w'=>BhP w w' oa n c (lxN x 6 op text) e'
    rw [show lxN x 6 op text=⟨0,x.pend++ [⟨bareL (PCs text),decide (x.await=5)⟩],x.body⟩ by unfold lxN;rw [if_neg (by omega),if_neg (by omega),if_neg (by omega),if_neg (by omega),if_pos ⟨rfl,h0⟩]]
    exact this
theorem cls_op:∀b,b<256→cls b=3→∃k∈ops,(txt k).size=1∧(bt (txt k) 0).toNat=b:=by decide+kernel
theorem cls_nl:∀b,b<256→cls b=2→b=10:=by decide+kernel
theorem opN_of {s:ByteArray} {a k:Nat} (hk:k∈ops) (hf:fits s a (txt k)):opN s a≠0:=by
 unfold opN
 cases hd:ops.find? (fun k=>decide (fits s a (txt k)))with
 |none=>exact absurd (by simpa using hf) (List.find?_eq_none.1 hd k hk)
 |some j=>
  have:=List.mem_of_find?_eq_some hd
  have:=mem_ops.1 this
  show j≠0
  omega
theorem meE_ok {s:ByteArray} {a:Nat} (ha:a<s.size):a<meE s a∧meE s a≤s.size:=by
 have h1:=blE_le (s:=s) (Nat.le_of_lt ha)
 have h2:=nlE_le (s:=s) (Nat.le_of_lt ha)
 have h3:=wdE_le (s:=s) (Nat.le_of_lt ha)
 have h4:=rowN_le s a 6
 unfold meE
 split
 ·rename_i hb
  exact⟨blE_gt (Nat.le_of_lt ha) hb,h1.2⟩
 rename_i hb
 split
 ·omega
 rename_i h10
 split
 ·rename_i h35
  refine⟨?_,h2.2⟩
  rcases Nat.lt_or_ge a (nlE s a)with h|h
  ·exact h
  ·have e:nlE s a=a:=by omega
   have:=nlE_at (s:=s) (a:=a) (by omega)
   rw [e]at this
   omega
 split
 ·rename_i ho
  have:=txt_size_in (opN_mem ho)
  have:=fits_le (opN_fits ho)
  omega
 rename_i ho
 split
 ·rename_i hn
  have:numN s a≤rowN s a 6:=by unfold numN;split<;>omega
  omega
 ·refine⟨?_,h3.2⟩
  rcases Nat.lt_or_ge a (wdE s a)with h|h
  ·exact h
  ·exfalso
   have e:lead (fun i=>!stops (fromK s a 0 i) (by8 s (a+i))) (s.size - a)=0:=by unfold wdE at h;omega
   have hs:=lead_stop (fun i=>!stops (fromK s a 0 i) (by8 s (a+i))) (z:=s.size - a) (by omega)
   rw [e]at hs
   have hs2:stops (fromK s a 0 0) (by8 s a)=true:=by simpa using hs
   have he:endsB (by8 s a)=true:=by
    unfold stops at hs2
    rw [Bool.and_eq_true]at hs2
    exact hs2.1
   have hlt:=by8_lt s a
   have hc:cls (by8 s a)=1∨cls (by8 s a)=2∨cls (by8 s a)=3:=by simpa [endsB]using he
   rcases hc with hc|hc|hc
   ·have hr:rowN s a 1≠0:=fun hz=>by
     have:=lead_stop (fun i=>decide (cl s (a+i)=1)) (z:=s.size - a) (by show rowN s a 1<_;omega)
     rw [show lead (fun i=>decide (cl s (a+i)=1)) (s.size - a)=0 from hz]at this
     simp at this
     exact this hc
    apply hb
    unfold bstep
    rw [if_pos (by omega)]
    exact hr
   ·exact h10 (cls_nl _ hlt hc)
   ·obtain⟨k,hk,hk1,hk2⟩:=cls_op _ hlt hc
    apply ho
    refine opN_of hk (fits_of_bt (by omega) (fun i hi=>?_))
    have:i=0:=by omega
    subst this
    exact UInt8.toNat_inj.1 hk2.symm
theorem docL_le (t:ByteArray) (d:Dl):∀(k a:Nat),a≤t.size→a≤(docL d (lnF t k a) a).1∧(docL d (lnF t k a) a).1≤t.size
 |0,a,h=>⟨Nat.le_refl _,h⟩
 |k+1,a,h=>by
  unfold lnF
  by_cases hl:a<t.size
  ·have hg:=lnE_gt hl
   rw [if_pos hl]
   have hz:a+(t.extract a (lnE t a)).size=lnE t a:=by rw [ByteArray.size_extract];omega
   unfold docL
   rw [hz]
   split
   ·exact⟨by show a≤lnE t a;omega,hg.2⟩
   ·have:=docL_le t d k (lnE t a) hg.2
    exact⟨by omega,this.2⟩
  ·rw [if_neg hl]
   exact⟨Nat.le_refl _,h⟩
theorem docN_ok (t:ByteArray) (pend:List Dl) (h:0<t.size):0<(docN t pend).1∧(docN t pend).1≤t.size:=by
 cases pend with
 |nil=>exact⟨h,Nat.le_refl _⟩
 |cons d ds=>
  show 0<(docL d (lnF t t.size 0) 0).1∧(docL d (lnF t t.size 0) 0).1≤t.size
  refine⟨?_,(docL_le t d t.size 0 (Nat.zero_le _)).2⟩
  obtain⟨k,hk⟩:∃k,t.size=k+1:=⟨t.size - 1,by omega⟩
  have hg:=lnE_gt (s:=t) (a:=0) h
  rw [hk]
  unfold lnF
  rw [if_pos h]
  have hz:0+(t.extract 0 (lnE t 0)).size=lnE t 0:=by rw [ByteArray.size_extract];omega
  unfold docL
  rw [hz]
  split
  ·exact hg.1
  ·have:=docL_le t d k (lnE t 0) hg.2
   omega
theorem tkN_ok {s:ByteArray} {a:Nat} (x:Lx) (ha:a<s.size):(tkN s a x).frm=a∧a<(tkN s a x).en∧(tkN s a x).en≤s.size:=by
 unfold tkN
 split
 ·have hz:(s.extract a s.size).size=s.size - a:=by rw [ByteArray.size_extract];omega
  have:=docN_ok (s.extract a s.size) x.pend (by omega)
  refine⟨rfl,?_,?_⟩
  ·show a<a+_;omega
  ·show a+_≤_;omega
 ·have:=meE_ok ha
  exact⟨rfl,this.1,this.2⟩
section
variable (w:World) (x:Lx) (oa:Option Addr) (n c:Nat) (s:ByteArray) (a:Nat) (ha:a<s.size) (hs:s.size≤900) (hT:Tx w)
include ha hs hT
set_option maxRecDepth 100000 in
set_option maxHeartbeats 8000000 in
theorem read_body (hM:LxM w (.slice oa n c) x) (hp:x.pend.length≤900000) (hb:x.body=true):
  Calls Tryz.prog 109 #[.string s,.int .i64 (a:Int),aggL x (.slice oa n c)] w fun e w'=>e=.returned (aggT (tkN s a x))∧Below w.heap.size w w':=by
 rw [show tkN s a x=⟨7,a,a+(docN (s.extract a s.size) x.pend).1,!(docN (s.extract a s.size) x.pend).2⟩from if_pos hb]
 have hts:(s.extract a s.size).size≤1000000:=by rw [ByteArray.size_extract];omega
 have hdoc:∀W,Below w.heap.size w W→Calls Tryz.prog 130 #[.string (s.extract a s.size),.slice oa n c] W fun e w'=>∃v,e=.returned v∧(v=.tuple #[.int .i64 (((docN (s.extract a s.size) x.pend).1:Nat):Int),.bool (docN (s.extract a s.size) x.pend).2]∧Below W.heap.size W w'):=fun W hW=>
  (document_any W (s.extract a s.size) hts (.slice oa n c) x.pend (hM.src.below hW) (by omega)).mono (fun e w' h=>⟨_,h.1,rfl,h.2⟩)
 have hdz:(docN (s.extract a s.size) x.pend).1≤900:=by
  have hz:(s.extract a s.size).size=s.size - a:=by rw [ByteArray.size_extract];omega
  have:=(docN_ok (s.extract a s.size) x.pend (by omega)).2
  omega
 generalize docN (s.extract a s.size) x.pend=q at hdoc hdz ⊢
 obtain⟨dn,ok⟩:=q
 dsimp only at hdoc hdz ⊢
 have HD:=Lib.hid hdoc
 clear hdoc hts hT hM hp
 have q0:(0:Int)≤(a:Int):=by omega
 have q1:(a:Int)≤(s.size:Int):=by omega
 unfold aggL aggT
 rw [hb]
 have kb:=(Blk.new w #[.int .i64 (x.await:Int),.slice oa n c,.bool true] 62).alloc (.cells #[.int .i64 0,.int .i64 0,.int .i64 0,.bool false] 67)
 have kr:=blk_a2 w (.cells #[.int .i64 (x.await:Int),.slice oa n c,.bool true] 62) #[.int .i64 0,.int .i64 0,.int .i64 0,.bool false] 67
 have hB0:=below_a2' w (.cells #[.int .i64 (x.await:Int),.slice oa n c,.bool true] 62) (.cells #[.int .i64 0,.int .i64 0,.int .i64 0,.bool false] 67)
 have hz0:((w.alloc (.cells #[.int .i64 (x.await:Int),.slice oa n c,.bool true] 62)).alloc (.cells #[.int .i64 0,.int .i64 0,.int .i64 0,.bool false] 67)).heap.size=w.heap.size+2:=by simp
 have a1:=kb.cell 1
 have a2:=kb.cell 2
 go_enter Tryz.func109,Tryz.ntmps109
 go_wp2
 obtain⟨W1,hW1⟩:∃X,(w.alloc (.cells #[.int .i64 (x.await:Int),.slice oa n c,.bool true] 62)).alloc (.cells #[.int .i64 0,.int .i64 0,.int .i64 0,.bool false] 67)=X:=⟨_,rfl⟩
 rw [hW1]at kb kr hB0 hz0 ⊢
 clear hW1 a1 a2
 have a1:W1.drew.cell? ⟨w.heap.size,1,none⟩=some (.slice oa n c):=kb.drew.cell 1
 have HB0:=Lib.hid hB0
 clear hB0
 go_region_law (first
  |(refine step_call (by rfl) Tryz.func130 (by kernel_rfl) (by kernel_rfl) _ _ (by rfl) [.string (s.extract a s.size),.slice oa n c] (by rfl) _ (HD.out _ HB0.out.drew) ?_;intro v w2 hh;obtain⟨hv,hb2⟩:=hh;subst hv;have kr2:=(kr.drew).below hb2;have hB2:=HB0.out.drew.trans (hb2.mono (by show w.heap.size≤W1.heap.size;omega))))
 all_goals
  have r0:=kr2.cell 0
  have r1:=kr2.cell 1
  have r2:=kr2.cell 2
  have r3:=kr2.cell 3
  have g0:=kr2.frozen 0
  have g1:=kr2.frozen 1
  have g2:=kr2.frozen 2
  have g3:=kr2.frozen 3
  go_wp2
  have k3:=(((kr2.set 0 (.int .i64 7)).set 1 (.int .i64 (a:Int))).set 2 (.int .i64 ((a:Int)+(dn:Int)))).set 3 (.bool (!ok))
  have hB3:=((((hB2.setCell (p:=⟨w.heap.size+1,0,none⟩) (by show _≤w.heap.size+1;omega) (.int .i64 7)).setCell (p:=⟨w.heap.size+1,1,none⟩) (by show _≤w.heap.size+1;omega) (.int .i64 (a:Int))).setCell (p:=⟨w.heap.size+1,2,none⟩) (by show _≤w.heap.size+1;omega) (.int .i64 ((a:Int)+(dn:Int)))).setCell (p:=⟨w.heap.size+1,3,none⟩) (by show _≤w.heap.size+1;omega) (.bool (!ok)))
  have h0:=k3.cell 0
  have h1:=k3.cell 1
  have h2:=k3.cell 2
  have h3:=k3.cell 3
  refine bodyPost_ret (v:=.agg #[.int .i64 7,.int .i64 (a:Int),.int .i64 ((a:Int)+(dn:Int)),.bool (!ok)]) (by simp [results,Tryz.results109,go_sem,h0,h1,h2,h3]) rfl ⟨by push_cast;rfl,hB3⟩
set_option maxRecDepth 100000 in
set_option maxHeartbeats 8000000 in
theorem read_else (hb:x.body=false) (k:Nat) (hk:meK s a=k) (h6:k≠6) (hk9:k≤9):
  Calls Tryz.prog 109 #[.string s,.int .i64 (a:Int),aggL x (.slice oa n c)] w fun e w'=>e=.returned (aggT ⟨k,a,meE s a,false⟩)∧Below w.heap.size w w':=by
 have hme:=meE_ok ha
 have hmea:∀W,Below w.heap.size w W→Calls Tryz.prog 131 #[.string s,.int .i64 (a:Int)] W fun e w'=>e=.returned (.tuple #[.int .i64 ((meK s a:Nat):Int),.int .i64 ((meE s a - a:Nat):Int)])∧Below W.heap.size W w':=fun W hW=>measure_any W s a ha (by omega) (hT.b hW)
 rw [hk]at hmea
 have h6b:((k:Int)==6)=false:=beq_eq_false_iff_ne.2 (by omega)
 obtain⟨m,hm⟩:∃m,meE s a - a=m:=⟨_,rfl⟩
 have hme2:meE s a=a+m:=by omega
 rw [hm]at hmea
 have HD:=Lib.hid hmea
 rw [hme2]at hme ⊢
 clear hmea hT hm hme2
 have q0:(0:Int)≤(a:Int):=by omega
 have q1:(a:Int)≤(a:Int)+(m:Int):=by omega
 have q2:(a:Int)+(m:Int)≤(s.size:Int):=by omega
 have q3:(a:Int)+(m:Int)≤900:=by omega
 unfold aggL aggT
 rw [hb]
 have kb:=(Blk.new w #[.int .i64 (x.await:Int),.slice oa n c,.bool false] 62).alloc (.cells #[.int .i64 0,.int .i64 0,.int .i64 0,.bool false] 67)
 have kr:=blk_a2 w (.cells #[.int .i64 (x.await:Int),.slice oa n c,.bool false] 62) #[.int .i64 0,.int .i64 0,.int .i64 0,.bool false] 67
 have hB0:=below_a2' w (.cells #[.int .i64 (x.await:Int),.slice oa n c,.bool false] 62) (.cells #[.int .i64 0,.int .i64 0,.int .i64 0,.bool false] 67)
 have hz0:((w.alloc (.cells #[.int .i64 (x.await:Int),.slice oa n c,.bool false] 62)).alloc (.cells #[.int .i64 0,.int .i64 0,.int .i64 0,.bool false] 67)).heap.size=w.heap.size+2:=by simp
 have a1:=kb.cell 1
 have a2:=kb.cell 2
 go_enter Tryz.func109,Tryz.ntmps109
 go_wp2_with fail
 have HB0:=Lib.hid hB0
 refine(HD.out _ HB0.out).mono ?_
 rintro e1 w2 ⟨rfl,hb2⟩
 have kr2:=kr.below hb2
 have hB2:=hB0.trans (hb2.mono (by omega))
 clear kb kr hB0 hz0 a1 a2
 have kr3:=kr2
 have hB3:=hB2
 clear kr2 hB2
 have r0:=kr3.cell 0
 have r1:=kr3.cell 1
 have r2:=kr3.cell 2
 have r3:=kr3.cell 3
 have g0:=kr3.frozen 0
 have g1:=kr3.frozen 1
 have g2:=kr3.frozen 2
 have g3:=kr3.frozen 3
 go_wp2
 have k3:=(((kr3.set 0 (.int .i64 (k:Int))).set 1 (.int .i64 (a:Int))).set 2 (.int .i64 ((a:Int)+(m:Int)))).set 3 (.bool false)
 have hB4:=((((hB3.setCell (p:=⟨w.heap.size+1,0,none⟩) (by show _≤w.heap.size+1;omega) (.int .i64 (k:Int))).setCell (p:=⟨w.heap.size+1,1,none⟩) (by show _≤w.heap.size+1;omega) (.int .i64 (a:Int))).setCell (p:=⟨w.heap.size+1,2,none⟩) (by show _≤w.heap.size+1;omega) (.int .i64 ((a:Int)+(m:Int)))).setCell (p:=⟨w.heap.size+1,3,none⟩) (by show _≤w.heap.size+1;omega) (.bool false))
 have h0:=k3.cell 0
 have h1:=k3.cell 1
 have h2:=k3.cell 2
 have h3:=k3.cell 3
 refine bodyPost_ret (v:=.agg #[.int .i64 (k:Int),.int .i64 (a:Int),.int .i64 ((a:Int)+(m:Int)),.bool false]) (by simp [results,Tryz.results109,go_sem,h0,h1,h2,h3]) rfl ⟨by push_cast;rfl,hB4⟩
set_option maxRecDepth 100000 in
set_option maxHeartbeats 8000000 in
theorem read_word (hb:x.body=false) (hk:meK s a=6):
  Calls Tryz.prog 109 #[.string s,.int .i64 (a:Int),aggL x (.slice oa n c)] w fun e w'=>e=.returned (aggT ⟨6,a,meE s a,opnW (s.extract a (meE s a))⟩)∧Below w.heap.size w w':=by
 have hme:=meE_ok ha
 have hmea:∀W,Below w.heap.size w W→Calls Tryz.prog 131 #[.string s,.int .i64 (a:Int)] W fun e w'=>e=.returned (.tuple #[.int .i64 ((meK s a:Nat):Int),.int .i64 ((meE s a - a:Nat):Int)])∧Below W.heap.size W w':=fun W hW=>measure_any W s a ha (by omega) (hT.b hW)
 rw [hk]at hmea
 have hts:(s.extract a (meE s a)).size≤900:=by rw [ByteArray.size_extract];omega
 have hcl:=fun W=>closing_any (s.extract a (meE s a)) hts W
 have hop:opnW (s.extract a (meE s a))=!(closeT (closeL (runK (s.extract a (meE s a)) (s.extract a (meE s a)).size).st)).toList.isEmpty:=by
  rw [ByteArray.toList_eq]
  rfl
 rw [hop]
 clear hop hts
 generalize closeT (closeL (runK (s.extract a (meE s a)) (s.extract a (meE s a)).size).st)=CT at hcl ⊢
 obtain⟨m,hm⟩:∃m,meE s a - a=m:=⟨_,rfl⟩
 have hme2:meE s a=a+m:=by omega
 rw [hme2]at hcl
 have HCL:=Lib.hid hcl
 clear hcl
 rw [hm]at hmea
 have HD:=Lib.hid hmea
 rw [hme2]at hme ⊢
 clear hmea hT hm hme2
 have q0:(0:Int)≤(a:Int):=by omega
 have q1:(a:Int)≤(a:Int)+(m:Int):=by omega
 have q2:(a:Int)+(m:Int)≤(s.size:Int):=by omega
 have q3:(a:Int)+(m:Int)≤900:=by omega
 unfold aggL aggT
 rw [hb]
 have kb:=(Blk.new w #[.int .i64 (x.await:Int),.slice oa n c,.bool false] 62).alloc (.cells #[.int .i64 0,.int .i64 0,.int .i64 0,.bool false] 67)
 have kr:=blk_a2 w (.cells #[.int .i64 (x.await:Int),.slice oa n c,.bool false] 62) #[.int .i64 0,.int .i64 0,.int .i64 0,.bool false] 67
 have hB0:=below_a2' w (.cells #[.int .i64 (x.await:Int),.slice oa n c,.bool false] 62) (.cells #[.int .i64 0,.int .i64 0,.int .i64 0,.bool false] 67)
 have hz0:((w.alloc (.cells #[.int .i64 (x.await:Int),.slice oa n c,.bool false] 62)).alloc (.cells #[.int .i64 0,.int .i64 0,.int .i64 0,.bool false] 67)).heap.size=w.heap.size+2:=by simp
 have a1:=kb.cell 1
 have a2:=kb.cell 2
 go_enter Tryz.func109,Tryz.ntmps109
 go_wp2_with fail
 have HB0:=Lib.hid hB0
 refine(HD.out _ HB0.out).mono ?_
 rintro e1 w2 ⟨rfl,hb2⟩
 have kr2:=kr.below hb2
 have hB2:=hB0.trans (hb2.mono (by omega))
 clear kb kr hB0 hz0 a1 a2
 go_wp2_with fail
 refine(HCL.out _).mono ?_
 rintro e2 w3 ⟨rfl,hb3⟩
 have kr3:=kr2.below hb3
 have hB3:=hB2.trans (hb3.mono hB2.size)
 clear kr2 hB2
 have r0:=kr3.cell 0
 have r1:=kr3.cell 1
 have r2:=kr3.cell 2
 have r3:=kr3.cell 3
 have g0:=kr3.frozen 0
 have g1:=kr3.frozen 1
 have g2:=kr3.frozen 2
 have g3:=kr3.frozen 3
 go_wp2
 have k3:=(((kr3.set 0 (.int .i64 6)).set 1 (.int .i64 (a:Int))).set 2 (.int .i64 ((a:Int)+(m:Int)))).set 3 (.bool (!CT.toList.isEmpty))
 have hB4:=((((hB3.setCell (p:=⟨w.heap.size+1,0,none⟩) (by show _≤w.heap.size+1;omega) (.int .i64 6)).setCell (p:=⟨w.heap.size+1,1,none⟩) (by show _≤w.heap.size+1;omega) (.int .i64 (a:Int))).setCell (p:=⟨w.heap.size+1,2,none⟩) (by show _≤w.heap.size+1;omega) (.int .i64 ((a:Int)+(m:Int)))).setCell (p:=⟨w.heap.size+1,3,none⟩) (by show _≤w.heap.size+1;omega) (.bool (!CT.toList.isEmpty)))
 have h0:=k3.cell 0
 have h1:=k3.cell 1
 have h2:=k3.cell 2
 have h3:=k3.cell 3
 refine bodyPost_ret (v:=.agg #[.int .i64 6,.int .i64 (a:Int),.int .i64 ((a:Int)+(m:Int)),.bool (!CT.toList.isEmpty)]) (by simp [results,Tryz.results109,go_sem,h0,h1,h2,h3]) rfl ⟨by push_cast;rfl,hB4⟩
theorem read_any (hM:LxM w (.slice oa n c) x) (hp:x.pend.length≤900000):
  Calls Tryz.prog 109 #[.string s,.int .i64 (a:Int),aggL x (.slice oa n c)] w fun e w'=>e=.returned (aggT (tkN s a x))∧Below w.heap.size w w':=by
 by_cases hb:x.body=true
 ·exact read_body w x oa n c s a ha hs hT hM hp hb
 ·have hb':x.body=false:=by simpa using hb
  rw [show tkN s a x=⟨meK s a,a,meE s a,decide (meK s a=6)&& opnW (s.extract a (meE s a))⟩from if_neg hb]
  by_cases h6:meK s a=6
  ·rw [h6]
   exact read_word w x oa n c s a ha hs hT hb' h6
  ·rw [decide_eq_false h6]
   have:=meK_le s a
   exact read_else w x oa n c s a ha hs hT hb' _ rfl h6 (by omega)
end
theorem keepS {X:World} {B z b o:Nat} {v v0 v1 v2 v3 v4 v5 v6:Value} (hB:B≠b) (hz:z≠b)
  (h:X.cell? ⟨B,0,none⟩=some v0∧X.cell? ⟨B,1,none⟩=some v1∧X.cell? ⟨B,2,none⟩=some v2∧X.cell? ⟨z,0,none⟩=some v3∧X.cell? ⟨z,1,none⟩=some v4∧X.cell? ⟨z,2,none⟩=some v5∧X.cell? ⟨z,3,none⟩=some v6):
  (X.setCell ⟨b,o,none⟩ v).cell? ⟨B,0,none⟩=some v0∧(X.setCell ⟨b,o,none⟩ v).cell? ⟨B,1,none⟩=some v1∧(X.setCell ⟨b,o,none⟩ v).cell? ⟨B,2,none⟩=some v2∧(X.setCell ⟨b,o,none⟩ v).cell? ⟨z,0,none⟩=some v3∧(X.setCell ⟨b,o,none⟩ v).cell? ⟨z,1,none⟩=some v4∧(X.setCell ⟨b,o,none⟩ v).cell? ⟨z,2,none⟩=some v5∧(X.setCell ⟨b,o,none⟩ v).cell? ⟨z,3,none⟩=some v6:=by
 have e1:∀j,(X.setCell ⟨b,o,none⟩ v).cell? ⟨B,j,none⟩=X.cell? ⟨B,j,none⟩:=fun j=>World.cell?_of_block (Below.heap_setCell X _ _ B hB)
 have e2:∀j,(X.setCell ⟨b,o,none⟩ v).cell? ⟨z,j,none⟩=X.cell? ⟨z,j,none⟩:=fun j=>World.cell?_of_block (Below.heap_setCell X _ _ z hz)
 simp only [e1,e2]
 exact h
section
variable (w:World) (x:Lx) (oa:Option Addr) (n c:Nat) (s:ByteArray) (a:Nat) (ha:a<s.size) (hs:s.size≤900) (hT:Tx w)
include ha hs hT
set_option maxRecDepth 100000 in
set_option maxHeartbeats 8000000 in
theorem next_any (hM:LxM w (.slice oa n c) x) (hp:x.pend.length≤800000) (haw:x.await≤1000):
  Calls Tryz.prog 91 #[.string s,.int .i64 (a:Int),aggL x (.slice oa n c)] w fun e w'=>∃oa' n' c',e=.returned (.tuple #[aggT (tkN s a x),aggL (nxN s a x) (.slice oa' n' c')])∧LxM w' (.slice oa' n' c') (nxN s a x)∧Frm (fun b=>(Value.slice oa n c).ownBlock=some b) w w'∧∀g,(Value.slice oa' n' c').ownBlock=some g→(Value.slice oa n c).ownBlock=some g∨w.heap.size≤g:=by
 have hrd:∀W,Below w.heap.size w W→Calls Tryz.prog 109 #[.string s,.int .i64 (a:Int),aggL x (.slice oa n c)] W fun e w'=>e=.returned (aggT (tkN s a x))∧Below W.heap.size W w':=fun W hW=>read_any W x oa n c s a ha hs (hT.b hW) (hM.below hW) (by omega)
 have hbe:∀W,Below w.heap.size w W→Calls Tryz.prog 110 #[aggL x (.slice oa n c),aggT (tkN s a x),.string (s.extract (tkN s a x).frm (tkN s a x).en)] W fun e w'=>∃v,e=.returned v∧BhP W w' oa n c (nxN s a x) (.returned v):=fun W hW=>(behind_any W x oa n c (hM.below hW) s a ha (by omega) (hT.b hW) (by omega) haw).mono (fun e w' h=>by
  obtain⟨oa',n',c',he,hr⟩:=h
  exact⟨_,he,oa',n',c',rfl,hr⟩)
 have hok:=tkN_ok x ha
 have HHP:=Lib.hid hM.pos
 generalize tkN s a x=t at hrd hbe hok ⊢
 obtain⟨tk,tf,te,top⟩:=t
 obtain⟨h1,h2,h3⟩:=hok
 dsimp only at h1 h2 h3 hrd hbe ⊢
 subst h1
 generalize nxN s tf x=y at hbe ⊢
 have HRD:=Lib.hid hrd
 have HBE:=Lib.hid hbe
 clear hrd hbe hT hM ha
 unfold aggT aggL at*
 obtain⟨pv,hpv⟩:∃pv,Value.slice oa n c=pv:=⟨_,rfl⟩
 have q0:(0:Int)≤(tf:Int):=by omega
 have q1:(tf:Int)≤(te:Int):=by omega
 have q2:(te:Int)≤(s.size:Int):=by omega
 clear hpv
 go_enter Tryz.func91,Tryz.ntmps91
 have kb:=((Blk.new w #[.int .i64 (x.await:Int),.slice oa n c,.bool x.body] 62).alloc (.cells #[.int .i64 0,.int .i64 0,.int .i64 0,.bool false] 67)).alloc (.cells #[.int .i64 0,.slice none 0 0,.bool false] 62)
 have a0:=kb.cell 0
 have a1:=kb.cell 1
 have a2:=kb.cell 2
 go_wp2_with fail
 have hB0:=below_a3 w (.cells #[.int .i64 (x.await:Int),.slice oa n c,.bool x.body] 62) (.cells #[.int .i64 0,.int .i64 0,.int .i64 0,.bool false] 67) (.cells #[.int .i64 0,.slice none 0 0,.bool false] 62)
 have kt:=(blk_a2 w (.cells #[.int .i64 (x.await:Int),.slice oa n c,.bool x.body] 62) #[.int .i64 0,.int .i64 0,.int .i64 0,.bool false] 67).alloc (.cells #[.int .i64 0,.slice none 0 0,.bool false] 62)
 have kr:=blk_a3 w (.cells #[.int .i64 (x.await:Int),.slice oa n c,.bool x.body] 62) (.cells #[.int .i64 0,.int .i64 0,.int .i64 0,.bool false] 67) #[.int .i64 0,.slice none 0 0,.bool false] 62
 refine(HRD.out _ hB0).mono ?_
 rintro e1 w2 ⟨rfl,hb2⟩
 have kb2:=kb.below hb2
 have kt2:=kt.below hb2
 have kr2:=kr.below hb2
 have hz2:w.heap.size+3≤w2.heap.size:=by have:=hb2.size;simp at this;omega
 have hB2:Below w.heap.size w w2:=hB0.trans (hb2.mono hB0.size)
 clear kb kt kr a0 a1 a2 hB0 hb2
 obtain⟨Bz,hBz⟩:∃z,w.heap.size=z:=⟨_,rfl⟩
 have HBZ:=Lib.hid hBz
 rw [hBz]at kb2 kt2 kr2 hz2 hB2 ⊢
 clear hBz
 have HB2:=Lib.hid hB2
 clear hB2
 go_wp2
 obtain⟨W3,hW3⟩:∃X,w2.alloc (.cells #[.int .i64 (tk:Int),.int .i64 (tf:Int),.int .i64 (te:Int),.bool top] 67)=X:=⟨_,rfl⟩
 obtain⟨z,hz⟩:∃z,w2.heap.size=z:=⟨_,rfl⟩
 have k8:Blk W3 z #[.int .i64 (tk:Int),.int .i64 (tf:Int),.int .i64 (te:Int),.bool top] 67:=by rw [←hW3,←hz];exact Blk.new w2 _ _
 have kb3:Blk W3 Bz #[.int .i64 (x.await:Int),.slice oa n c,.bool x.body] 62:=by rw [←hW3];exact kb2.alloc _
 have kt3:Blk W3 (Bz+1) #[.int .i64 0,.int .i64 0,.int .i64 0,.bool false] 67:=by rw [←hW3];exact kt2.alloc _
 have kr3:Blk W3 (Bz+1+1) #[.int .i64 0,.slice none 0 0,.bool false] 62:=by rw [←hW3];exact kr2.alloc _
 have hz3:W3.heap.size=z+1:=by rw [←hW3,←hz];simp
 have hB3:Below Bz w W3:=by rw [←hW3];exact HB2.out.alloc (by omega) _
 rw [hW3,hz]
 rw [hz]at hz2
 clear hW3 hz kb2 kt2 kr2
 have HB3:=Lib.hid hB3
 have HBW:Hid (∀X,Below Bz w X→Below w.heap.size w X):=Lib.hid (fun X h=>by rw [HBZ.out];exact h)
 have HNB:Hid (∀g,(Value.slice oa n c).ownBlock=some g→g<Bz):=Lib.hid (fun g hg=>by have:=(HHP.out g hg).2;have:=HBZ.out;omega)
 clear hB3
 have HSB:Hid (∀X:World,Below Bz w X→Below Bz w ((((X.setCell ⟨Bz+1,0,none⟩ (.int .i64 (tk:Int))).setCell ⟨Bz+1,1,none⟩ (.int .i64 (tf:Int))).setCell ⟨Bz+1,2,none⟩ (.int .i64 (te:Int))).setCell ⟨Bz+1,3,none⟩ (.bool top))):=Lib.hid (fun X h=>
  (((h.setCell (p:=⟨Bz+1,0,none⟩) (by show Bz≤Bz+1;omega) _).setCell (p:=⟨Bz+1,1,none⟩) (by show Bz≤Bz+1;omega) _).setCell (p:=⟨Bz+1,2,none⟩) (by show Bz≤Bz+1;omega) _).setCell (p:=⟨Bz+1,3,none⟩) (by show Bz≤Bz+1;omega) _)
 have kt3s:=(((kt3.drew.set 0 (.int .i64 (tk:Int))).set 1 (.int .i64 (tf:Int))).set 2 (.int .i64 (te:Int))).set 3 (.bool top)
 have kr3s:=(((kr3.drew.other 0 (.int .i64 (tk:Int)) (b':=Bz+1) (by omega)).other 1 (.int .i64 (tf:Int)) (b':=Bz+1) (by omega)).other 2 (.int .i64 (te:Int)) (b':=Bz+1) (by omega)).other 3 (.bool top) (b':=Bz+1) (by omega)
 have kb3s:=(((kb3.drew.other 0 (.int .i64 (tk:Int)) (b':=Bz+1) (by omega)).other 1 (.int .i64 (tf:Int)) (b':=Bz+1) (by omega)).other 2 (.int .i64 (te:Int)) (b':=Bz+1) (by omega)).other 3 (.bool top) (b':=Bz+1) (by omega)
 have k8s:=(((k8.drew.other 0 (.int .i64 (tk:Int)) (b':=Bz+1) (by omega)).other 1 (.int .i64 (tf:Int)) (b':=Bz+1) (by omega)).other 2 (.int .i64 (te:Int)) (b':=Bz+1) (by omega)).other 3 (.bool top) (b':=Bz+1) (by omega)
 have hsz:((((W3.drew.setCell ⟨Bz+1,0,none⟩ (.int .i64 (tk:Int))).setCell ⟨Bz+1,1,none⟩ (.int .i64 (tf:Int))).setCell ⟨Bz+1,2,none⟩ (.int .i64 (te:Int))).setCell ⟨Bz+1,3,none⟩ (.bool top)).heap.size=z+1:=by
  simp [hz3]
 have b0:=kb3.drew.cell 0
 have b1:=kb3.drew.cell 1
 have b2:=kb3.drew.cell 2
 have z0:=k8.drew.cell 0
 have z1:=k8.drew.cell 1
 have z2:=k8.drew.cell 2
 have z3:=k8.drew.cell 3
 have t0:=kt3.drew.cell 0
 have t1:=kt3.drew.cell 1
 have t2:=kt3.drew.cell 2
 have t3:=kt3.drew.cell 3
 have tf0:=kt3.drew.frozen 0
 have tf1:=kt3.drew.frozen 1
 have tf2:=kt3.drew.frozen 2
 have tf3:=kt3.drew.frozen 3
 go_region_held3 (fun w'=>w'.cell? ⟨Bz,0,none⟩=some (.int .i64 (x.await:Int))∧w'.cell? ⟨Bz,1,none⟩=some (.slice oa n c)∧w'.cell? ⟨Bz,2,none⟩=some (.bool x.body)∧w'.cell? ⟨z,0,none⟩=some (.int .i64 (tk:Int))∧w'.cell? ⟨z,1,none⟩=some (.int .i64 (tf:Int))∧w'.cell? ⟨z,2,none⟩=some (.int .i64 (te:Int))∧w'.cell? ⟨z,3,none⟩=some (.bool top)) (((repeat(refine keepS (by omega) (by omega) ?_));first|exact⟨b0,b1,b2,z0,z1,z2,z3⟩|exact⟨kb4.cell 0,kb4.cell 1,kb4.cell 2,k84.cell 0,k84.cell 1,k84.cell 2,k84.cell 3⟩)) (first
  |(refine step_call (by rfl) Tryz.func110 (by kernel_rfl) (by kernel_rfl) _ _ (by rfl) [.agg #[.int .i64 (x.await:Int),.slice oa n c,.bool x.body],.agg #[.int .i64 (tk:Int),.int .i64 (tf:Int),.int .i64 (te:Int),.bool top],.string (s.extract tf te)] (by rfl) _ (HBE.out _ (HBW.out _ HB3.out.drew)) ?_;intro v w4 hh;obtain⟨oa4,n4,c4,hv,hM4,hF4,hg4⟩:=hh;clear t0 t1 t2 t3 tf0 tf1 tf2 tf3;have hv2:v=.agg #[.int .i64 (y.await:Int),.slice oa4 n4 c4,.bool y.body]:=(by injection hv);clear hv;subst hv2;have kb4:=kb3.drew.frm hF4 (fun e=>by have:=HNB.out _ e;omega);have k84:=k8.drew.frm hF4 (fun e=>by have:=HNB.out _ e;omega);have kt4:=kt3.drew.frm hF4 (fun e=>by have:=HNB.out _ e;omega);have kr4:=kr3.drew.frm hF4 (fun e=>by have:=HNB.out _ e;omega);have u0:=kt4.cell 0;have u1:=kt4.cell 1;have u2:=kt4.cell 2;have u3:=kt4.cell 3;have uf0:=kt4.frozen 0;have uf1:=kt4.frozen 1;have uf2:=kt4.frozen 2;have uf3:=kt4.frozen 3;have y0:=kr4.cell 0;have y1:=kr4.cell 1;have y2:=kr4.cell 2;have yf0:=kr4.frozen 0;have yf1:=kr4.frozen 1;have yf2:=kr4.frozen 2)
  |(refine step_call (by rfl) Tryz.func110 (by kernel_rfl) (by kernel_rfl) _ _ (by rfl) [.agg #[.int .i64 (x.await:Int),.slice oa n c,.bool x.body],.agg #[.int .i64 (tk:Int),.int .i64 (tf:Int),.int .i64 (te:Int),.bool top],.string (s.extract tf te)] (by rfl) _ (HBE.out _ (HBW.out _ (HSB.out _ HB3.out.drew))) ?_;intro v w4 hh;obtain⟨oa4,n4,c4,hv,hM4,hF4,hg4⟩:=hh;clear t0 t1 t2 t3 tf0 tf1 tf2 tf3;have hv2:v=.agg #[.int .i64 (y.await:Int),.slice oa4 n4 c4,.bool y.body]:=(by injection hv);clear hv;subst hv2;have kb4:=kb3s.frm hF4 (fun e=>by have:=HNB.out _ e;omega);have k84:=k8s.frm hF4 (fun e=>by have:=HNB.out _ e;omega);have kt4:=kt3s.frm hF4 (fun e=>by have:=HNB.out _ e;omega);have kr4:=kr3s.frm hF4 (fun e=>by have:=HNB.out _ e;omega);have y0:=kr4.cell 0;have y1:=kr4.cell 1;have y2:=kr4.cell 2;have yf0:=kr4.frozen 0;have yf1:=kr4.frozen 1;have yf2:=kr4.frozen 2))
 all_goals
  clear HBE HRD
  go_wp2
  have e6:=(((kt4.set 0 (.int .i64 (tk:Int))).set 1 (.int .i64 (tf:Int))).set 2 (.int .i64 (te:Int))).set 3 (.bool top)
  have f6:=((e6.other 0 (.int .i64 (y.await:Int)) (b':=Bz+1+1) (by omega)).other 1 (.slice oa4 n4 c4) (b':=Bz+1+1) (by omega)).other 2 (.bool y.body) (b':=Bz+1+1) (by omega)
  have e7:=(((kr4.other 0 (.int .i64 (tk:Int)) (b':=Bz+1) (by omega)).other 1 (.int .i64 (tf:Int)) (b':=Bz+1) (by omega)).other 2 (.int .i64 (te:Int)) (b':=Bz+1) (by omega)).other 3 (.bool top) (b':=Bz+1) (by omega)
  have f7:=((e7.set 0 (.int .i64 (y.await:Int))).set 1 (.slice oa4 n4 c4)).set 2 (.bool y.body)
  have hF:Frm (fun b=>b=Bz+1∨b=Bz+1+1) w4 (((((((w4.setCell ⟨Bz+1,0,none⟩ (.int .i64 (tk:Int))).setCell ⟨Bz+1,1,none⟩ (.int .i64 (tf:Int))).setCell ⟨Bz+1,2,none⟩ (.int .i64 (te:Int))).setCell ⟨Bz+1,3,none⟩ (.bool top)).setCell ⟨Bz+1+1,0,none⟩ (.int .i64 (y.await:Int))).setCell ⟨Bz+1+1,1,none⟩ (.slice oa4 n4 c4)).setCell ⟨Bz+1+1,2,none⟩ (.bool y.body)):=
   (((((((Frm.refl _ w4).setCell 0 (.inl (.inl rfl)) _).setCell 1 (.inl (.inl rfl)) _).setCell 2 (.inl (.inl rfl)) _).setCell 3 (.inl (.inl rfl)) _).setCell 0 (.inl (.inr rfl)) _).setCell 1 (.inl (.inr rfl)) _).setCell 2 (.inl (.inr rfl)) _
  obtain⟨W5,hW5⟩:∃X,((((((w4.setCell ⟨Bz+1,0,none⟩ (.int .i64 (tk:Int))).setCell ⟨Bz+1,1,none⟩ (.int .i64 (tf:Int))).setCell ⟨Bz+1,2,none⟩ (.int .i64 (te:Int))).setCell ⟨Bz+1,3,none⟩ (.bool top)).setCell ⟨Bz+1+1,0,none⟩ (.int .i64 (y.await:Int))).setCell ⟨Bz+1+1,1,none⟩ (.slice oa4 n4 c4)).setCell ⟨Bz+1+1,2,none⟩ (.bool y.body)=X:=⟨_,rfl⟩
  rw [hW5]at f6 f7 hF ⊢
  have h0:W5.cell? ⟨Bz+1,0,none⟩=some (.int .i64 (tk:Int)):=f6.cell 0
  have h1:W5.cell? ⟨Bz+1,1,none⟩=some (.int .i64 (tf:Int)):=f6.cell 1
  have h2:W5.cell? ⟨Bz+1,2,none⟩=some (.int .i64 (te:Int)):=f6.cell 2
  have h3:W5.cell? ⟨Bz+1,3,none⟩=some (.bool top):=f6.cell 3
  have i0:W5.cell? ⟨Bz+1+1,0,none⟩=some (.int .i64 (y.await:Int)):=f7.cell 0
  have i1:W5.cell? ⟨Bz+1+1,1,none⟩=some (.slice oa4 n4 c4):=f7.cell 1
  have i2:W5.cell? ⟨Bz+1+1,2,none⟩=some (.bool y.body):=f7.cell 2
  refine bodyPost_ret (v:=.tuple #[.agg #[.int .i64 (tk:Int),.int .i64 (tf:Int),.int .i64 (te:Int),.bool top],.agg #[.int .i64 (y.await:Int),.slice oa4 n4 c4,.bool y.body]]) (by simp [results,Tryz.results91,go_sem,h0,h1,h2,h3,i0,i1,i2]) rfl ?_
  have hng:∀g,(Value.slice oa4 n4 c4).ownBlock=some g→¬(g=Bz+1∨g=Bz+1+1):=fun g hg hh=>by
   rcases hg4 g hg with q|q
   ·have:=HNB.out g q;omega
   ·first
     |(have:z+1≤g:=by have:=hz3;have:W3.heap.size≤g:=q;omega
       omega)
     |(rw [hsz]at q;omega)
  have hFw:Frm (fun b=>(Value.slice oa n c).ownBlock=some b) w w4:=by
   first
    |exact(Frm.of_below (HBW.out _ HB3.out.drew|>.mono (by rw [HBZ.out];exact Nat.le_refl _))).trans hF4 (fun _ _ h=>h)
    |(have hq:=HSB.out _ HB3.out.drew
      rw [←HBZ.out]at hq
      have hq2:=hF4
      rw [←HBZ.out]at hq2
      exact(Frm.of_below hq).trans hq2 (fun _ _ h=>h))
  refine⟨oa4,n4,c4,rfl,hM4.frm hF hng,hFw.trans hF (fun i hi hh=>by have:=HBZ.out;omega),fun g hg=>?_⟩
  rcases hg4 g hg with q|q
  ·exact .inl q
  ·right
   have:=HBZ.out
   first
    |(have:W3.heap.size≤g:=q
      omega)
    |(rw [hsz]at q;omega)
end
end Go.Proofs.YtkolpaonccmgiaaGreatDoor

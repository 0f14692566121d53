/- The row of all stacks of the document's own parts  -/
import Derived.Test.YtkolpaonccmgiaaGreatDoorPtG
import Derived.Test.YtkolpaonccmgiaaGreatDoorQp
import Derived.Deep.CutBlock
set_option linter.unusedVariables false
namespace Go.Proofs.YtkolpaonccmgiaaGreatDoor
set_option linter.unusedVariables false
open Go.RowKit
theorem call_enter {f:FuncId} {fn:Func} (hf:Tryz.prog.funcs[f]?=some fn) (hname:(fn.name== "runtime.NumGoroutine")=false) (hb:fn.body.isSome=true) (args:Array Value) (w:World):(callFunc f args).run Tryz.prog w=.ok (.enter f args) w:=by
 have h1:fn.name≠ "runtime.NumGoroutine":=by simpa using hname
 obtain⟨c,hc⟩:=Option.isSome_iff_exists.1 hb
 simp [callFunc,hf,h1,hc]
theorem step_call {ops:Array Oper} {o:Oper} {a:Act} {w:World} {K:Act→World→Prop} {Q:Exit→Act→World→Prop} {E:Prop} (hgd:o.guard=none) {f:FuncId} {fn:Func} (hf:Tryz.prog.funcs[f]?=some fn) (hname:(fn.name== "runtime.NumGoroutine")=false) (hb:fn.body.isSome=true) (args:List Operand) (tys:Array TypeId)
  (ho:o.op=.call { callee:=.value (.func f),args:=args.toArray,argTypes:=tys }) (vs:List Value) (hv:args.map a.eval=vs) (R:Value→World→Prop)
  (hc:Calls Tryz.prog f vs.toArray w fun e w'=>∃v,e=.returned v∧R v w') (h:∀v w',R v w'→K (a.put o.dst v) w'):
  if Region.wanted o (yielded ops a.tmps)=true then Oper.wp Tryz.prog o a w K Q else E:=by
 have hw:Region.wanted o (yielded ops a.tmps)=true:=by simp [Region.wanted,hgd]
 rw [if_pos hw]
 have e1:a.eval (.func f)=.func (.func f) #[] #[]:=rfl
 unfold Oper.wp execOp
 simp only [ho,resolve,List.map_toArray,hv,e1,Deferred.ofValue,invoke,Sem.run_bind,Sem.run_pure,Result.andThen_ok,Array.empty_append,Array.append_empty,call_enter hf hname hb]
 rw [Oper.upon_enter]
 refine hc.mono ?_
 rintro e w' ⟨v,rfl,hr⟩
 exact h v w' hr
structure RV where
 S:ByteArray
 g:Nat
 n:Nat
 cap:Nat
def cellS (r:RV) (fr:Bool):List Value:=[.string r.S,.slice (some ⟨r.g,0,none⟩) r.n r.cap,.bool fr]
def cellsS (s:ByteArray) (rv:Nat→RV) (c:Nat):List Value:=(List.range c).flatMap fun i=>cellS (rv i) (runK s i).fresh
theorem cellsS_succ (s:ByteArray) (rv:Nat→RV) (c:Nat):cellsS s rv (c+1)=cellsS s rv c++cellS (rv c) (runK s c).fresh:=by
 unfold cellsS
 rw [List.range_succ,List.flatMap_append]
 simp
theorem cellsS_length (s:ByteArray) (rv:Nat→RV):∀c,(cellsS s rv c).length=c*3
 |0=>rfl
 |c+1=>by
  rw [cellsS_succ,List.length_append,cellsS_length s rv c]
  simp [cellS]
  omega
theorem cellsS_at {s:ByteArray} {rv:Nat→RV}:∀{c i:Nat},i<c→∀d v,(cellS (rv i) (runK s i).fresh)[d]?=some v→(cellsS s rv c)[i*3+d]?=some v
 |0,i,h,_,_,_=>by omega
 |c+1,i,h,d,v,hv=>by
  have hd:d<3:=(List.getElem?_eq_some_iff.1 hv).1
  rw [cellsS_succ]
  by_cases e:i=c
  ·subst e
   rw [List.getElem?_append_right (by rw [cellsS_length];omega),cellsS_length,show i*3+d - i*3=d by omega]
   exact hv
  ·rw [List.getElem?_append_left (by rw [cellsS_length];omega)]
   exact cellsS_at (by omega) d v hv
structure AllS (w:World) (base ab acap c:Nat) (s:ByteArray) (rv:Nat→RV):Prop where
 own:w.ownsRow base 112 3 (.slice (some ⟨ab,0,none⟩) c acap) c (cellsS s rv c)
 rows:∀i,i<c→Rv w (runK s i).st (rv i).S (rv i).g (rv i).n (rv i).cap∧base≤(rv i).g∧(rv i).g≠ab
theorem AllS.lt {w:World} {base ab acap c:Nat} {s:ByteArray} {rv:Nat→RV} (h:AllS w base ab acap c s rv):ab<w.heap.size:=own_lt h.own ab rfl
theorem AllS.below {w w':World} {base ab acap c:Nat} {s:ByteArray} {rv:Nat→RV} (h:AllS w base ab acap c s rv) (hb:Below w.heap.size w w'):AllS w' base ab acap c s rv:=
 ⟨own_below h.own hb,fun i hi=>⟨(h.rows i hi).1.below hb,(h.rows i hi).2⟩⟩
theorem AllS.cells {w:World} {base ab acap c:Nat} {s:ByteArray} {rv:Nat→RV} (h:AllS w base ab acap c s rv) {i:Nat} (hi:i<c):
  w.cell? ⟨ab,i*3,none⟩=some (.string (rv i).S)∧w.cell? ⟨ab,i*3+1,none⟩=some (.slice (some ⟨(rv i).g,0,none⟩) (rv i).n (rv i).cap)∧w.cell? ⟨ab,i*3+2,none⟩=some (.bool (runK s i).fresh):=by
 have hc:∀d v,(cellS (rv i) (runK s i).fresh)[d]?=some v→w.cell? ⟨ab,i*3+d,none⟩=some v:=fun d v hv=>by
  have:=h.own.cells (g:=ab) rfl _ v (cellsS_at hi d v hv)
  rwa [Addr.add_lit,Nat.zero_add]at this
 have h0:=hc 0 _ rfl
 rw [Nat.add_zero]at h0
 exact⟨h0,hc 1 _ rfl,hc 2 _ rfl⟩
theorem prt_frm (s:ByteArray) (f:Nat):(prt s f).frm=f:=by
 unfold prt
 split
 ·rw [(closeP_frm _ _ _ _).1,(prtK_frm _ _ _).1]
 ·exact(prtK_frm _ _ _).1
theorem prt_eq {s:ByteArray} {f:Nat} (hb:born s f=true) (hf:f<s.size):prt s f=if cnt (md s (eK s f s.size) f)=12 then⟨12,f,f+1+paramN s (f+1),upI s f,false⟩else⟨cnt (md s (eK s f s.size) f),f,if eK s f s.size=s.size then s.size else eK s f s.size+1,upI s f,decide (eK s f s.size=s.size)⟩:=by
 unfold prt
 by_cases h:eK s f s.size=s.size
 ·have hp:pres s s.size f=true:=by
   have:=eK_pres (s:=s) (f:=f) (k:=s.size) (j:=s.size) hf
   exact this (by omega)
  rw [if_pos h,prtK_in hp,h]
  unfold closeP
  simp only [if_true,decide_true]
  split<;>simp [*]
 ·rw [if_neg h]
  unfold prtK
  rw [if_neg h]
  unfold closeP
  simp only [if_neg h,decide_eq_false h]
  split<;>simp [*]
theorem eK_born {s:ByteArray} {f:Nat} (hb:born s f=true) (hf:f<s.size):f+1≤eK s f s.size:=by
 apply Classical.byContradiction
 intro g
 have h1:eK s f s.size=f:=by unfold eK at g ⊢;omega
 have h2:=eK_stop (s:=s) (f:=f) (k:=s.size) (by omega) (by omega)
 rw [h1]at h2
 unfold born at hb
 rw [hb]at h2
 cases h2
structure RdP (w:World) (oa:Option Addr) (n:Nat) (L:List Prt):Prop where
 len:n=L.length
 cells:∀i p,L[i]?=some p→∃ob,oa=some ⟨ob,0,none⟩∧ob<w.heap.size∧∀c u,(cellP p)[c]?=some u→w.cell? ⟨ob,i*5+c,none⟩=some u
theorem RdP.below {w w':World} {oa:Option Addr} {n:Nat} {L:List Prt} (h:RdP w oa n L) (hb:Below w.heap.size w w'):RdP w' oa n L:=
 ⟨h.len,fun i p hp=>by
  obtain⟨ob,h1,h2,h3⟩:=h.cells i p hp
  exact⟨ob,h1,Nat.lt_of_lt_of_le h2 hb.size,fun c u hu=>(hb.cell (p:=⟨ob,i*5+c,none⟩) h2).trans (h3 c u hu)⟩⟩
theorem RdP.frm {q:Nat→Prop} {w w':World} {oa:Option Addr} {n:Nat} {L:List Prt} (h:RdP w oa n L) (hb:Frm q w w') (hq:∀b,b<w.heap.size→¬q b):RdP w' oa n L:=
 ⟨h.len,fun i p hp=>by
  obtain⟨ob,h1,h2,h3⟩:=h.cells i p hp
  exact⟨ob,h1,Nat.lt_of_lt_of_le h2 hb.size,fun c u hu=>(hb.cell h2 (hq ob h2)).trans (h3 c u hu)⟩⟩
theorem PtS.read {w:World} {base:Nat} {v:Value} {L:List Prt} (h:PtS w base v L):∃oa n oc,v=.slice oa n oc∧RdP w oa n L:=by
 have h':w.ownsRow base 136 5 v L.length (cellsP L):=h
 obtain⟨oa,oc,rfl⟩:=owns_slice h'
 refine⟨oa,_,oc,rfl,rfl,fun i p hp=>?_⟩
 have hl:i<L.length:=(List.getElem?_eq_some_iff.1 hp).1
 obtain⟨ob,ocap,hov,_,_,_,hlt⟩:=owns_nil h' (by omega)
 obtain⟨rfl,rfl⟩:oa=some ⟨ob,0,none⟩∧oc=ocap:=by simpa using hov
 refine⟨ob,rfl,hlt,fun c u hu=>?_⟩
 have:=h'.cells (g:=ob) rfl (i*5+c) u (cellsP_at hp c u hu)
 rwa [Addr.add_lit,Nat.zero_add]at this
theorem RdP.at {w:World} {oa:Option Addr} {n:Nat} {L:List Prt} (h:RdP w oa n L) {i:Nat} (hi:i<n):∃ob p,oa=some ⟨ob,0,none⟩∧L[i]?=some p∧ob<w.heap.size∧w.cell? ⟨ob,i*5,none⟩=some (.int .i64 (p.mode:Int))∧w.cell? ⟨ob,i*5+1,none⟩=some (.int .i64 (p.frm:Int))∧w.cell? ⟨ob,i*5+2,none⟩=some (.int .i64 (p.to:Int))∧w.cell? ⟨ob,i*5+3,none⟩=some (.int .i64 p.up)∧w.cell? ⟨ob,i*5+4,none⟩=some (.bool p.op):=by
 have hl:i<L.length:=by have:=h.len;omega
 obtain⟨ob,h1,h2,h3⟩:=h.cells i L[i] (List.getElem?_eq_getElem hl)
 have h0:=h3 0 _ rfl
 rw [Nat.add_zero]at h0
 exact⟨ob,L[i],h1,List.getElem?_eq_getElem hl,h2,h0,h3 1 _ rfl,h3 2 _ rfl,h3 3 _ rfl,h3 4 _ rfl⟩
theorem prt_le {s:ByteArray} {f:Nat} (hf:f<s.size) (hb:born s f=true):(prt s f).to≤s.size∧(prt s f).mode≤14:=by
 have he:=eK_le s (Nat.le_of_lt hf)
 have hm:=cnt_le (md_le s (eK s f s.size) f)
 rw [prt_eq hb hf]
 split
 ·exact⟨paramN_le s (f+1) (by omega),by show 12≤14;omega⟩
 ·refine⟨?_,hm⟩
  show(if eK s f s.size=s.size then s.size else eK s f s.size+1)≤s.size
  split<;>omega
theorem PL_get {s:ByteArray} {i:Nat} {p:Prt} (h:(PL s)[i]?=some p):∃f,(bornL s s.size)[i]?=some f∧p=prt s f∧f<s.size∧born s f=true∧p.frm=f∧p.to≤s.size∧p.mode≤14:=by
 unfold PL at h
 rw [List.getElem?_map]at h
 cases hf:(bornL s s.size)[i]? with
 |none=>rw [hf]at h;cases h
 |some f=>
  rw [hf]at h
  have e:prt s f=p:=by simpa using h
  obtain⟨_,h2,h3⟩:=idx_get hf
  have:=prt_le h2 h3
  rw [←e]
  exact⟨f,rfl,rfl,h2,h3,prt_frm s f,this.1,this.2⟩
theorem PL_len (s:ByteArray):(PL s).length≤s.size:=by unfold PL;rw [List.length_map];exact bornL_len s _
end Go.Proofs.YtkolpaonccmgiaaGreatDoor

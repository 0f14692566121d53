/- The letters of the modes of layer 6, as the progra -/
import Derived.Test.YtkolpaonccmgiaaGreatDoorQs
import Derived.Deep.RegionHeldLaw
set_option linter.unusedVariables false
namespace Go.Proofs.YtkolpaonccmgiaaGreatDoor
set_option linter.unusedVariables false
open Go.RowKit
def lettersB:ByteArray:=⟨#[84,67,80,79,83,68,66,86,73,65,82,69,76,88,35]⟩
def ltB (m:Nat):UInt8:=bt lettersB m
def ltS (l:List Fr):ByteArray:=⟨(l.map fun x=>ltB x.1).toArray⟩
theorem ltS_size (l:List Fr):(ltS l).size=l.length:=by
 show(l.map fun x=>ltB x.1).toArray.size=_
 simp
theorem ltS_bt {l:List Fr} {i:Nat} {x:Fr} (h:l[i]?=some x):bt (ltS l) i=ltB x.1:=by
 have hi:i<l.length:=(List.getElem?_eq_some_iff.1 h).1
 have h1:i<(ltS l).size:=by rw [ltS_size];exact hi
 rw [bt_eq h1,ByteArray.getElem_eq_getElem_data]
 have:l[i]=x:=(List.getElem?_eq_some_iff.1 h).2
 simp [ltS,this]
def plS (l:List Fr):List Value:=l.map fun x=> .int .i64 (x.2:Int)
theorem plS_length (l:List Fr):(plS l).length=l.length:=by simp [plS]
def Pw (w:World) (g cap:Nat) (l:List Fr):Prop:=
 ∃cs,Blk w g cs 3∧l.length≤cap∧cap≤maxLen∧cs.size=cap∧cs.toList.take l.length=plS l
theorem Pw.lt {w:World} {g cap:Nat} {l:List Fr} (h:Pw w g cap l):g<w.heap.size:=by obtain⟨cs,h,_⟩:=h;exact h.lt
theorem Pw.le {w:World} {g cap:Nat} {l:List Fr} (h:Pw w g cap l):l.length≤cap:=by obtain⟨cs,_,h,_⟩:=h;exact h
theorem Pw.frm {p:Nat→Prop} {w w':World} {g cap:Nat} {l:List Fr} (h:Pw w g cap l) (hf:Frm p w w') (hp:¬p g):Pw w' g cap l:=by
 obtain⟨cs,h1,h2⟩:=h
 exact⟨cs,h1.frm hf hp,h2⟩
theorem Pw.below {w w':World} {g cap:Nat} {l:List Fr} (h:Pw w g cap l) (hb:Below w.heap.size w w'):Pw w' g cap l:=h.frm (Frm.of_below (p:=fun _=>False) hb) (fun h=>h)
theorem Pw.owns {w:World} {g cap:Nat} {l:List Fr} (h:Pw w g cap l):w.ownsRow 0 3 1 (.slice (some ⟨g,0,none⟩) l.length cap) l.length (plS l):=by
 obtain⟨cs,h1,h2,h3,h4,h5⟩:=h
 exact⟨by rw [plS_length,Nat.mul_one],.inr ⟨g,cap,cs,rfl,Nat.zero_le _,h1,h2,h3,by rw [Nat.mul_one];exact h4,by rw [Nat.mul_one];exact h5⟩⟩
theorem Pw.of_owns {w:World} {b:Nat} {g n cap:Nat} {l:List Fr} (h:w.ownsRow b 3 1 (.slice (some ⟨g,0,none⟩) n cap) n (plS l)) (hn:n=l.length):Pw w g cap l:=by
 subst hn
 rcases h.2 with⟨h0,h1⟩|⟨g',cap',cs,h1,h2,h3,h4,h5,h6,h7⟩
 ·cases h0
 ·cases h1
  exact⟨cs,h3,h4,h5,by rw [Nat.mul_one]at h6;exact h6,by rw [Nat.mul_one]at h7;exact h7⟩
theorem Pw.cell {w:World} {g cap:Nat} {l:List Fr} (h:Pw w g cap l) {j:Nat} {x:Fr} (hj:l[j]?=some x):w.cell? ⟨g,j,none⟩=some (.int .i64 (x.2:Int)):=by
 obtain⟨cs,h1,h2,h3,h4,h5⟩:=h
 have hl:j<l.length:=(List.getElem?_eq_some_iff.1 hj).1
 have a:(plS l)[j]?=some (.int .i64 (x.2:Int)):=by unfold plS;rw [List.getElem?_map,hj];rfl
 rw [←h5,List.getElem?_take_of_lt (by omega)]at a
 rw [h1.cell]
 simpa using a
theorem Pw.init {w:World} {g cap:Nat} {l k:List Fr} (h:Pw w g cap (l++k)):Pw w g cap l:=by
 obtain⟨cs,h1,h2,h3,h4,h5⟩:=h
 simp at h2
 refine⟨cs,h1,by omega,h3,h4,?_⟩
 have h6:=congrArg (fun x=>x.take l.length) h5
 have e:plS (l++k)=plS l++plS k:=by simp [plS]
 simp only [List.take_take,e]at h6
 rw [Nat.min_eq_left (by simp)]at h6
 rw [h6,List.take_append_of_le_length (by rw [plS_length];exact Nat.le_refl _),←plS_length,List.take_length]
theorem Pw.places {w:World} {g cap:Nat} {l k:List Fr} (h:Pw w g cap l) (e:plS l=plS k):Pw w g cap k:=by
 have hl:l.length=k.length:=by have:=congrArg List.length e;simpa [plS]using this
 obtain⟨cs,h1,h2,h3,h4,h5⟩:=h
 exact⟨cs,h1,by omega,h3,h4,by rw [←hl,h5,e]⟩
theorem step_app_ints {ops:Array Oper} {o:Oper} {a:Act} {w:World} {K:Act→World→Prop} {Q:Exit→Act→World→Prop} {E:Prop} (hgd:o.guard=none) (s x:Operand)
  (ho:o.op=.call { callee:=.builtin .append,args:=#[s,x],argTypes:=#[39,39] })
  (v0:Value) (n0:Nat) (xs0:List Value) (hs:a.eval s=v0) (hown:w.ownsRow 0 3 1 v0 n0 xs0) (b n c:Nat) (news:List Value)
  (hx:a.eval x=.slice (some ⟨b,0,none⟩) n c) (hn:w.ownsRow 0 3 1 (.slice (some ⟨b,0,none⟩) n c) n news) (h1:∀u∈news,u.oneCell'=true) (hl:n0+n≤1000000) (h0:0<n) (nn:Nat) (hnn:n0+n=nn)
  (h:∀g' c' w',w'.ownsRow 0 3 1 (.slice (some ⟨g',0,none⟩) nn c') nn (xs0++news)→w.grownBy w' v0.ownBlock→(v0.ownBlock=some g'∨g'=w.heap.size)→K (a.put o.dst (.slice (some ⟨g',0,none⟩) nn c')) w'):
  if Region.wanted o (yielded ops a.tmps)=true then Oper.wp Tryz.prog o a w K Q else E:=by
 have hw:Region.wanted o (yielded ops a.tmps)=true:=by simp [Region.wanted,hgd]
 rw [if_pos hw]
 subst hnn
 have hi3:(Tryz.prog.info? 3).map (fun i=>(i.zero,i.size,i.bytes))=some (some (.int .i64 0),1,8):=by kernel_rfl
 obtain⟨i,hi,hz,hsize,hby⟩:=info_parts hi3
 obtain⟨v',w',hr',h2,h3,h4,h5⟩:=run_append_own_at (P:=Tryz.prog) w 0 39 o.type 3 i _ 1 8 Tryz.underlying39 hi hz hsize hby rfl (by omega) _ n0 xs0 hown ⟨b,0,none⟩ n c news (by have:=hn.1;omega) (fun j u hj=>hn.cells (g:=b) rfl j u hj)
  h1 (by unfold maxLen;omega) (by omega) (Nat.zero_le _)
 unfold Oper.wp execOp
 simp only [ho,resolve,invoke,builtin,Sem.run_bind,Sem.run_pure,Result.andThen_ok,List.map_toArray,List.map_cons,List.map_nil,hs,hx,hr']
 rcases h2.2 with⟨hv,hn2⟩|⟨g',c',cur,hv,h6⟩
 ·omega
 ·subst hv
  refine h g' c' w' h2 h3 ?_
  rcases h5 with h5|h5
  ·exact .inl h5.symm
  ·exact .inr (by simpa [Value.ownBlock]using h5)
theorem below2 (w:World) (o o':Obj):Below w.heap.size w ((w.alloc o).alloc o'):=((Below.refl w.heap.size w).alloc (Nat.le_refl _) o).alloc (by simp) o'
theorem blk2 (w:World) (o:Obj) (cs:Array Value) (t:TypeId):Blk ((w.alloc o).alloc (.cells cs t)) (w.heap.size+1) cs t:=by
 have:=Blk.new (w.alloc o) cs t
 rwa [World.size_alloc]at this
theorem size2 (w:World) (o o':Obj):((w.alloc o).alloc o').heap.size=w.heap.size+2:=by rw [World.size_alloc,World.size_alloc]
structure Rv (w:World) (st:List Fr) (S:ByteArray) (g n cap:Nat):Prop where
 s:S=ltS st.reverse
 n:n=st.length
 p:Pw w g cap st.reverse
theorem Rv.below {w w':World} {st:List Fr} {S:ByteArray} {g n cap:Nat} (h:Rv w st S g n cap) (hb:Below w.heap.size w w'):Rv w' st S g n cap:=⟨h.s,h.n,h.p.below hb⟩
theorem Rv.frm {p:Nat→Prop} {w w':World} {st:List Fr} {S:ByteArray} {g n cap:Nat} (h:Rv w st S g n cap) (hf:Frm p w w') (hp:¬p g):Rv w' st S g n cap:=⟨h.s,h.n,h.p.frm hf hp⟩
theorem Rv.lt {w:World} {st:List Fr} {S:ByteArray} {g n cap:Nat} (h:Rv w st S g n cap):g<w.heap.size:=h.p.lt
theorem Rv.size {w:World} {st:List Fr} {S:ByteArray} {g n cap:Nat} (h:Rv w st S g n cap):S.size=st.length:=by rw [h.s,ltS_size,List.length_reverse]
theorem Rv.top {w:World} {m f:Nat} {r:List Fr} {S:ByteArray} {g n cap:Nat} (h:Rv w ((m,f)::r) S g n cap):bt S r.length=ltB m:=by
 rw [h.s]
 exact ltS_bt (x:=(m,f)) (by simp)
end Go.Proofs.YtkolpaonccmgiaaGreatDoor

/- What Of of layer 4 (class) and the document's own In and Class return: a byte's class. Condition: a byte. What Ends of layer 4 (class), the document's own Class and Ends, and the library's IndexByte return. Condition: a byte. The machine of layer 6 (modes) in memory: its block, the block of its frames; what mode, shut and turn do to it. Condition: a machine of at most a million frames. -/
import Derived.RangeFuncNested
import Derived.Shelf.Abstract
import Derived.WalkSpells
import Derived.WalkLawsBesides
import Derived.OwnWalkIn
import Derived.TacticsInMore
import Derived.LoopNIn
import Derived.LoopIn
import Derived.Test.YtkolpaonccmgiaaGreatDoorQa
import Derived.Lib.Bytealg
set_option linter.unusedVariables false
namespace Go.Proofs.YtkolpaonccmgiaaGreatDoor
set_option linter.unusedSectionVars false
set_option linter.unusedVariables false
open Go.RowKit
attribute [local go_sem] Oper.semAt_some
theorem ret_int {k:IntKind} {a b:Int} (h:a=b):Ending.returned (.int k a)=.returned (.int k b):=by rw [h]
theorem ret_bool {a b:Bool} (h:a=b):Ending.returned (.bool a)=.returned (.bool b):=by rw [h]
set_option maxRecDepth 100000 in
set_option maxHeartbeats 2000000 in
theorem of_in (F:Fence) (n:Nat) (hf:F.fn 231) (hro:F.round=none) (c:Nat) (w:World):
  CallsIn F n Tryz.prog 231 #[.int .u8 c] w fun e w'=>e=.returned (.int .i64 (cls c:Nat))∧w'=w:=by
 refine callsIn_of_wp Tryz.func231 rfl hf ?_ hro
 simp only [Tryz.ntmps231,List.size_toArray,List.length_cons,List.length_nil,Nat.reduceAdd,Nat.reduceSub,Array.replicate_succ,Array.replicate_zero,List.push_toArray,List.append_toArray,List.nil_append,List.cons_append]
 gi_wp2
 all_goals
  go_ret
  refine⟨ret_int ?_,rfl⟩
  clear hro hf
  simp only [beq_iff_eq,beq_eq_false_iff_ne,ne_eq]at*
  unfold cls
  (repeat' split)<;>omega
theorem of_any (c:Nat) (w:World):Calls Tryz.prog 231 #[.int .u8 c] w fun e w'=>e=.returned (.int .i64 (cls c:Nat))∧w'=w:=
 (callsIn_wide (n:=1)).1 (of_in _ _ trivial rfl c w)
theorem inB_split (c:Nat) (s:ByteArray):inB c s=true↔∃i,i<s.size∧(bt s i).toNat=c:=by
 unfold inB
 rw [List.any_eq_true]
 constructor
 ·rintro⟨x,hx,he⟩
  obtain⟨i,hi,rfl⟩:=List.getElem_of_mem hx
  have hi':i<s.size:=by simpa using hi
  refine⟨i,hi',?_⟩
  rw [bt_eq hi']
  exact(beq_iff_eq.1 he).symm
 ·rintro⟨i,hi,he⟩
  refine⟨s[i],?_,?_⟩
  ·rw [ByteArray.getElem_eq_getElem_data]
   exact Array.getElem_mem_toList _
  ·rw [bt_eq hi]at he
   simp [he]
theorem by_yes {s:ByteArray} {k:Nat} {c:Nat} (h:k<s.size) (e:(bt s k).toNat=c):((s[k].toNat:Int)==(c:Int))=true:=by
 rw [bt_eq h]at e;rw [e];simp
theorem by_no {s:ByteArray} {k:Nat} {c:Nat} (h:k<s.size) (e:(bt s k).toNat≠c):((s[k].toNat:Int)==(c:Int))=false:=by
 rw [bt_eq h]at e
 rw [beq_eq_false_iff_ne]
 intro g
 exact e (by omega)
def InRel (c:Nat) (s:ByteArray) (w:World) (v:Value) (wr:World):Prop:=∃k:Nat,k≤s.size∧v=.int .i64 k∧(∀i,i<k→(bt s i).toNat≠c)∧wr=w
set_option maxHeartbeats 1000000 in
theorem in_any (c:Nat) (s:ByteArray) (w:World) (hs:s.size≤1000000):
  Calls Tryz.prog 54 #[.int .u8 c,.string s] w fun e w'=>e=.returned (.bool (inB c s))∧w'=w:=by
 go_enter Tryz.func54,Tryz.ntmps54
 go_wp2
 go_loopw [5] (fun v wr=>InRel c s w v wr) (fun v _=>s.size - (intOf v).toNat)
 case atStart=>exact⟨0,Nat.zero_le _,rfl,fun i h=>by omega,rfl⟩
 case round=>
  obtain⟨k,hk,rfl,hn,rfl⟩:=hrel
  have HN:=Lib.hid hn
  clear hn
  by_cases hlt:(k:Int)<s.size
  ·have hlt':k<s.size:=by omega
   by_cases e:(bt s k).toNat=c
   ·have t1:=by_yes hlt' e
    have HE:=Lib.hid e
    clear e
    go_wp2
    go_ret
    exact⟨ret_bool ((inB_split c s).2 ⟨k,hlt',HE.out⟩).symm,rfl⟩
   ·have t1:=by_no hlt' e
    have HE:=Lib.hid e
    clear e
    go_wp2
    go_roundw
    case rel=>
     refine⟨k+1,by omega,by go_num,fun i hi=>?_,rfl⟩
     by_cases g:i=k
     ·rw [g];exact HE.out
     ·exact HN.out i (by omega)
    case measure=>simp [intOf];omega
  ·obtain rfl:k=s.size:=by omega
   go_wp2
   go_ret
   refine⟨ret_bool ?_,rfl⟩
   symm
   rw [Bool.eq_false_iff]
   intro g
   obtain⟨i,hi,he⟩:=(inB_split c s).1 g
   exact HN.out i hi he
theorem class_any (c:Nat) (w:World):
  Calls Tryz.prog 89 #[.int .u8 c] w fun e w'=>e=.returned (.int .i64 (cls c:Nat))∧w'=w:=by
 have H1:=Lib.hid (inB_meta c)
 have H2:=Lib.hid (inB_quote c)
 have H3:=Lib.hid (inB_letter c)
 have H4:=Lib.hid (inB_digit c)
 go_enter Tryz.func89,Tryz.ntmps89
 go_wp2_with (go_at_call 54;refine(in_any _ _ _ (by decide)).mono ?_;rintro e w' ⟨rfl,rfl⟩)
 all_goals
  go_ret
  refine⟨ret_int ?_,rfl⟩
  have h1:=H1.out
  have h2:=H2.out
  have h3:=H3.out
  have h4:=H4.out
  clear H1 H2 H3 H4
  simp only [h1,h2,h3,h4,beq_iff_eq,beq_eq_false_iff_ne,ne_eq,decide_eq_true_eq,decide_eq_false_iff_not]at*
  clear h1 h2 h3 h4
  unfold cls
  (repeat' split)<;>omega
set_option maxHeartbeats 1000000 in
theorem ends_any (c:Nat) (w:World):
  Calls Tryz.prog 218 #[.int .u8 c] w fun e w'=>e=.returned (.bool (endsB c))∧w'=w:=by
 go_enter Tryz.func218,Tryz.ntmps218
 go_wp2_with (go_at_call 231;refine(of_any _ _).mono ?_;rintro e w' ⟨rfl,rfl⟩)
 all_goals
  go_ret
  refine⟨ret_bool ?_,rfl⟩
  unfold endsB
  simp only [beq_iff_eq,beq_eq_false_iff_ne,ne_eq]at*
  first
   |(symm;rw [decide_eq_true_iff];omega)
   |(symm;rw [decide_eq_false_iff_not];omega)
set_option maxRecDepth 100000 in
theorem sindex_any (s:ByteArray) (c:Int) (w:World):
  Calls Tryz.prog 107 #[.string s,.int .u8 c] w fun e w'=>e=.returned (.int .i64 (Lib.indexByte s.data.toList c.toNat.toUInt8))∧w'=w:=by
 go_enter Tryz.func107,Tryz.ntmps107
 go_wp2
 rw [run_callFunc_extern Tryz.func129 (by kernel_rfl) (by kernel_rfl) (by kernel_rfl) (e:=Extern.BytealgIndexByte.indexByte) (by kernel_rfl),Lib.run_indexByteString]
 simp only [Result.andThen]
 rw [Oper.upon_value]
 go_wp2
 go_ret
 exact⟨rfl,rfl⟩
theorem index_any (s:ByteArray) (c:Int) (w:World):
  Calls Tryz.prog 78 #[.string s,.int .u8 c] w fun e w'=>e=.returned (.int .i64 (Lib.indexByte s.data.toList c.toNat.toUInt8))∧w'=w:=by
 go_enter Tryz.func78,Tryz.ntmps78
 go_wp2_with (go_at_call 107;refine(sindex_any _ _ _).mono ?_;rintro e w' ⟨rfl,rfl⟩)
 go_ret
 exact⟨rfl,rfl⟩
theorem indexByte_in (l:List UInt8) (d:UInt8) (c:Nat) (e:d.toNat=c):(0≤Lib.indexByte l d)↔(l.any fun b=>c==b.toNat)=true:=by
 induction l with
 |nil=>simp [Lib.indexByte]
 |cons b l ih=>
  have hg:=Lib.indexByte_ge l d
  unfold Lib.indexByte
  rw [List.any_cons]
  by_cases g:b=d
  ·subst g
   simp [e]
  ·have g2:¬c=b.toNat:=fun h=>g (UInt8.toNat_inj.1 (by rw [e];exact h.symm))
   have g3:(b==d)=false:=by simpa using g
   have g4:(c==b.toNat)=false:=by simpa using g2
   rw [g3,g4,Bool.false_or]
   refine Iff.trans ?_ ih
   by_cases k:Lib.indexByte l d= -1
   ·simp [k]
   ·simp [k];omega
theorem index_inB (s:ByteArray) (c:Nat) (hc:c<256) (w:World):
  Calls Tryz.prog 78 #[.string s,.int .u8 c] w fun e w'=>(∃x:Int,e=.returned (.int .i64 x)∧decide (0≤x)=inB c s)∧w'=w:=
 (index_any s c w).mono fun e w' ⟨he,hw⟩=>⟨⟨_,he,by rw [Bool.eq_iff_iff,decide_eq_true_iff];exact indexByte_in _ _ c (by simp;omega)⟩,hw⟩
def cellsF (l:List Fr):List Value:=l.flatMap fun x=> [.int .i64 (x.1:Int),.int .i64 (x.2:Int)]
theorem cellsF_length (l:List Fr):(cellsF l).length=l.length*2:=by
 induction l with
 |nil=>rfl
 |cons a l ih=>unfold cellsF at ih ⊢;rw [List.flatMap_cons];simp only [List.length_append,List.length_cons,List.length_nil,ih];omega
theorem cellsF_append (l k:List Fr):cellsF (l++k)=cellsF l++cellsF k:=by unfold cellsF;rw [List.flatMap_append]
theorem cellsF_at:∀{l:List Fr} {j:Nat} {x:Fr},l[j]?=some x→(cellsF l)[j*2]?=some (.int .i64 (x.1:Int))∧(cellsF l)[j*2+1]?=some (.int .i64 (x.2:Int))
 | [],j,x,h=>by simp at h
 |a::l,0,x,h=>by
  simp at h
  subst h
  exact⟨rfl,rfl⟩
 |a::l,j+1,x,h=>by
  have h':l[j]?=some x:=by simpa using h
  have ih:=cellsF_at h'
  have e:cellsF (a::l)=.int .i64 (a.1:Int)::.int .i64 (a.2:Int)::cellsF l:=rfl
  rw [e,show(j+1)*2=j*2+1+1 from by omega]
  exact ih
theorem cellsF_one (l:List Fr):∀v∈cellsF l,v.oneCell'=true:=by
 intro v hv
 obtain⟨s,_,hs⟩:=List.mem_flatMap.1 hv
 simp at hs
 rcases hs with rfl|rfl<;>rfl
def Fw (w:World) (g cap:Nat) (l:List Fr):Prop:=
 ∃cs,Blk w g cs 160∧l.length≤cap∧cap≤maxLen∧cs.size=cap*2∧cs.toList.take (l.length*2)=cellsF l
theorem Fw.lt {w:World} {g cap:Nat} {l:List Fr} (h:Fw w g cap l):g<w.heap.size:=by obtain⟨cs,h,_⟩:=h;exact h.lt
theorem Fw.le {w:World} {g cap:Nat} {l:List Fr} (h:Fw w g cap l):l.length≤cap:=by obtain⟨cs,_,h,_⟩:=h;exact h
theorem Fw.frm {p:Nat→Prop} {w w':World} {g cap:Nat} {l:List Fr} (h:Fw w g cap l) (hf:Frm p w w') (hp:¬p g):Fw w' g cap l:=by
 obtain⟨cs,h1,h2⟩:=h
 exact⟨cs,h1.frm hf hp,h2⟩
theorem Fw.owns {w:World} {g cap:Nat} {l:List Fr} (h:Fw w g cap l):w.ownsRow 0 160 2 (.slice (some ⟨g,0,none⟩) l.length cap) l.length (cellsF l):=by
 obtain⟨cs,h1,h2,h3,h4,h5⟩:=h
 exact⟨by rw [cellsF_length],.inr ⟨g,cap,cs,rfl,Nat.zero_le _,h1,h2,h3,h4,h5⟩⟩
theorem Fw.of_owns {w:World} {b:Nat} {v:Value} {n:Nat} {l:List Fr} (h:w.ownsRow b 160 2 v n (cellsF l)) (hn:n=l.length) (h0:0<n):∃g cap,v=.slice (some ⟨g,0,none⟩) n cap∧b≤g∧Fw w g cap l:=by
 subst hn
 rcases h.2 with⟨_,h1⟩|⟨g,cap,cs,h1,h2,h3,h4,h5,h6,h7⟩
 ·omega
 ·exact⟨g,cap,h1,h2,cs,h3,h4,h5,h6,h7⟩
theorem Fw.cell {w:World} {g cap:Nat} {l:List Fr} (h:Fw w g cap l) {j:Nat} {x:Fr} (hj:l[j]?=some x):
  w.cell? ⟨g,j*2,none⟩=some (.int .i64 (x.1:Int))∧w.cell? ⟨g,j*2+1,none⟩=some (.int .i64 (x.2:Int)):=by
 obtain⟨cs,h1,h2,h3,h4,h5⟩:=h
 have hl:j<l.length:=(List.getElem?_eq_some_iff.1 hj).1
 obtain⟨a,b⟩:=cellsF_at hj
 rw [←h5]at a b
 rw [List.getElem?_take_of_lt (by omega)]at a b
 rw [h1.cell,h1.cell]
 simp at a b
 exact⟨a,b⟩
theorem Fw.frozen {w:World} {g cap:Nat} {l:List Fr} (h:Fw w g cap l) (o:Nat):w.frozen? ⟨g,o,none⟩=false:=by obtain⟨cs,h1,_⟩:=h;exact h1.frozen o
theorem Fw.init {w:World} {g cap:Nat} {l k:List Fr} (h:Fw w g cap (l++k)):Fw w g cap l:=by
 obtain⟨cs,h1,h2,h3,h4,h5⟩:=h
 simp at h2
 refine⟨cs,h1,by omega,h3,h4,?_⟩
 have h6:=congrArg (fun x=>x.take (l.length*2)) h5
 simp only [List.take_take,cellsF_append]at h6
 rw [Nat.min_eq_left (by simp;omega)]at h6
 rw [h6,List.take_append_of_le_length (by rw [cellsF_length];exact Nat.le_refl _),←cellsF_length,List.take_length]
theorem Fw.turn {w:World} {g cap:Nat} {l:List Fr} {m f:Nat} (h:Fw w g cap (l++ [(m,f)])) (n:Nat):Fw (w.setCell ⟨g,l.length*2,none⟩ (.int .i64 (n:Int))) g cap (l++ [(n,f)]):=by
 have hI:=h.init
 obtain⟨cs0,g1,g2,g3,g4,g5⟩:=hI
 obtain⟨cs,h1,h2,h3,h4,h5⟩:=h
 obtain rfl:cs0=cs:=by
  have:=g1.symm.trans h1
  simpa using this
 simp only [List.length_append,List.length_cons,List.length_nil,Nat.zero_add]at h2 h5 ⊢
 refine⟨_,h1.set _ _,by simpa using h2,h3,by simpa using h4,?_⟩
 have hz:l.length*2+1<cs0.toList.length:=by simp;omega
 have e2:cs0.toList[l.length*2+1]?=some (.int .i64 (f:Int)):=by
  have hh:(cellsF (l++ [(m,f)]))[l.length*2+1]?=some (.int .i64 (f:Int)):=(cellsF_at (l:=l++ [(m,f)]) (j:=l.length) (x:=(m,f)) (by simp)).2
  rw [←h5,List.getElem?_take_of_lt (by omega)]at hh
  exact hh
 rw [Array.toList_setIfInBounds,List.length_append,List.length_cons,List.length_nil,show(l.length+(0+1))*2=l.length*2+1+1 from by omega,List.take_add_one,List.take_add_one,List.take_set_of_le (Nat.le_refl _),g5,cellsF_append]
 rw [List.getElem?_set_self (by omega),List.getElem?_set_ne (by omega),e2]
 simp [cellsF]
structure Mc (w:World) (mb g cap:Nat) (x:Ms) (p:Nat):Prop where
 obj:Blk w mb #[.slice (some ⟨g,0,none⟩) x.st.length cap,.bool x.fresh,.int .i64 (p:Int)] 198
 ne:g≠mb
 row:Fw w g cap x.st.reverse
def mfoot (mb g k:Nat):Prop:=k=mb∨k=g
theorem Mc.frm {p:Nat→Prop} {w w':World} {mb g cap:Nat} {x:Ms} {n:Nat} (h:Mc w mb g cap x n) (hf:Frm p w w') (h1:¬p mb) (h2:¬p g):Mc w' mb g cap x n:=
 ⟨h.obj.frm hf h1,h.ne,h.row.frm hf h2⟩
theorem Mc.drew {w w':World} {mb g cap:Nat} {x:Ms} {n:Nat} (h:Mc w mb g cap x n) (k:Nat):Mc (w.drewN k) mb g cap x n:=h.frm ((Frm.refl (fun _=>False) w).drewN k) (fun h=>h) (fun h=>h)
def McTo (w:World) (mb g:Nat) (x:Ms) (p:Nat) (w':World):Prop:=
 ∃g' cap',Mc w' mb g' cap' x p∧Frm (mfoot mb g) w w'∧(g'=g∨w.heap.size≤g')
section
variable (mb g cap p:Nat) (w:World)
set_option maxHeartbeats 1000000 in
theorem mode_any (m f:Nat) (r:List Fr) (fresh:Bool) (hM:Mc w mb g cap ⟨(m,f)::r,fresh⟩ p) (hl:r.length≤1000000):
  Calls Tryz.prog 219 #[.pointer (some ⟨mb,0,none⟩)] w fun e w'=>e=.returned (.int .i64 (m:Int))∧∃q,w'=w.drewN q:=by
 obtain⟨z,hz⟩:∃z,z=r.length+1:=⟨_,rfl⟩
 have c0:w.cell? ⟨mb,0,none⟩=some (.slice (some ⟨g,0,none⟩) z cap):=by rw [hz];exact hM.obj.cell 0
 have c1:=(hM.row.cell (j:=r.length) (x:=(m,f)) (by simp)).1
 simp only at c1
 have e1:IntKind.i64.wrap ((z:Int) - 1)=(r.length:Int):=by rw [IntWalk.i64_in _ (by omega)];omega
 have q1:(r.length:Int)<(z:Int):=by omega
 have q0:(0:Int)≤(r.length:Int):=by omega
 generalize r.length=k at*
 have HZ:=Lib.hid hz
 clear hz
 go_enter Tryz.func219,Tryz.ntmps219
 go_wp2
 go_quiet (fail)
 go_wp2
 go_ret
 exact⟨rfl,_,rfl⟩
end
end Go.Proofs.YtkolpaonccmgiaaGreatDoor

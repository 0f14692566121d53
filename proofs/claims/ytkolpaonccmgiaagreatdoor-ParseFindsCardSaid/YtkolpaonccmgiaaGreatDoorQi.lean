/- What shutting and backward of layer 6 (modes) retu -/
import Derived.Deep.AppendLies
import Derived.Test.YtkolpaonccmgiaaGreatDoorQp
import Derived.Test.YtkolpaonccmgiaaGreatDoorMdL
set_option linter.unusedVariables false
namespace Go.Proofs.YtkolpaonccmgiaaGreatDoor
set_option linter.unusedSectionVars false
set_option linter.unusedVariables false
open Go.RowKit Go.Shelf
attribute [local go_sem] Oper.semAt_some
section
variable (w:World)
set_option maxHeartbeats 1000000 in
theorem shut_0:Calls Tryz.prog 166 #[.int .i64 0] w fun e w'=>e=.returned (.string ⟨#[]⟩)∧w'=w:=by
 go_enter Tryz.func166,Tryz.ntmps166
 go_wp2
 go_ret
 exact⟨rfl,rfl⟩
set_option maxHeartbeats 1000000 in
theorem shut_1:Calls Tryz.prog 166 #[.int .i64 1] w fun e w'=>e=.returned (.string ⟨#[41]⟩)∧w'=w:=by
 go_enter Tryz.func166,Tryz.ntmps166
 go_wp2
 go_ret
 exact⟨rfl,rfl⟩
set_option maxHeartbeats 1000000 in
theorem shut_2:Calls Tryz.prog 166 #[.int .i64 2] w fun e w'=>e=.returned (.string ⟨#[41]⟩)∧w'=w:=by
 go_enter Tryz.func166,Tryz.ntmps166
 go_wp2
 go_ret
 exact⟨rfl,rfl⟩
set_option maxHeartbeats 1000000 in
theorem shut_3:Calls Tryz.prog 166 #[.int .i64 3] w fun e w'=>e=.returned (.string ⟨#[41]⟩)∧w'=w:=by
 go_enter Tryz.func166,Tryz.ntmps166
 go_wp2
 go_ret
 exact⟨rfl,rfl⟩
set_option maxHeartbeats 1000000 in
theorem shut_4:Calls Tryz.prog 166 #[.int .i64 4] w fun e w'=>e=.returned (.string ⟨#[39]⟩)∧w'=w:=by
 go_enter Tryz.func166,Tryz.ntmps166
 go_wp2
 go_ret
 exact⟨rfl,rfl⟩
set_option maxHeartbeats 1000000 in
theorem shut_5:Calls Tryz.prog 166 #[.int .i64 5] w fun e w'=>e=.returned (.string ⟨#[34]⟩)∧w'=w:=by
 go_enter Tryz.func166,Tryz.ntmps166
 go_wp2
 go_ret
 exact⟨rfl,rfl⟩
set_option maxHeartbeats 1000000 in
theorem shut_6:Calls Tryz.prog 166 #[.int .i64 6] w fun e w'=>e=.returned (.string ⟨#[96]⟩)∧w'=w:=by
 go_enter Tryz.func166,Tryz.ntmps166
 go_wp2
 go_ret
 exact⟨rfl,rfl⟩
set_option maxHeartbeats 1000000 in
theorem shut_7:Calls Tryz.prog 166 #[.int .i64 7] w fun e w'=>e=.returned (.string ⟨#[125]⟩)∧w'=w:=by
 go_enter Tryz.func166,Tryz.ntmps166
 go_wp2
 go_ret
 exact⟨rfl,rfl⟩
set_option maxHeartbeats 1000000 in
theorem shut_8:Calls Tryz.prog 166 #[.int .i64 8] w fun e w'=>e=.returned (.string ⟨#[125]⟩)∧w'=w:=by
 go_enter Tryz.func166,Tryz.ntmps166
 go_wp2
 go_ret
 exact⟨rfl,rfl⟩
set_option maxHeartbeats 1000000 in
theorem shut_9:Calls Tryz.prog 166 #[.int .i64 9] w fun e w'=>e=.returned (.string ⟨#[41,41]⟩)∧w'=w:=by
 go_enter Tryz.func166,Tryz.ntmps166
 go_wp2
 go_ret
 exact⟨rfl,rfl⟩
set_option maxHeartbeats 1000000 in
theorem shut_10:Calls Tryz.prog 166 #[.int .i64 10] w fun e w'=>e=.returned (.string ⟨#[41]⟩)∧w'=w:=by
 go_enter Tryz.func166,Tryz.ntmps166
 go_wp2
 go_ret
 exact⟨rfl,rfl⟩
set_option maxHeartbeats 1000000 in
theorem shut_11:Calls Tryz.prog 166 #[.int .i64 11] w fun e w'=>e=.returned (.string ⟨#[41]⟩)∧w'=w:=by
 go_enter Tryz.func166,Tryz.ntmps166
 go_wp2
 go_ret
 exact⟨rfl,rfl⟩
set_option maxHeartbeats 1000000 in
theorem shut_12:Calls Tryz.prog 166 #[.int .i64 12] w fun e w'=>e=.returned (.string ⟨#[]⟩)∧w'=w:=by
 go_enter Tryz.func166,Tryz.ntmps166
 go_wp2
 go_ret
 exact⟨rfl,rfl⟩
set_option maxHeartbeats 1000000 in
theorem shut_13:Calls Tryz.prog 166 #[.int .i64 13] w fun e w'=>e=.returned (.string ⟨#[10]⟩)∧w'=w:=by
 go_enter Tryz.func166,Tryz.ntmps166
 go_wp2
 go_ret
 exact⟨rfl,rfl⟩
set_option maxHeartbeats 1000000 in
theorem shut_14:Calls Tryz.prog 166 #[.int .i64 14] w fun e w'=>e=.returned (.string ⟨#[10]⟩)∧w'=w:=by
 go_enter Tryz.func166,Tryz.ntmps166
 go_wp2
 go_ret
 exact⟨rfl,rfl⟩
set_option maxHeartbeats 1000000 in
theorem shut_big (m:Nat) (hm:15≤m):Calls Tryz.prog 166 #[.int .i64 (m:Int)] w fun e w'=>e=.returned (.string ⟨#[]⟩)∧w'=w:=by
 have t0:((m:Int)==0)=false:=beq_eq_false_iff_ne.2 (by omega)
 have t1:((m:Int)==1)=false:=beq_eq_false_iff_ne.2 (by omega)
 have t2:((m:Int)==2)=false:=beq_eq_false_iff_ne.2 (by omega)
 have t3:((m:Int)==3)=false:=beq_eq_false_iff_ne.2 (by omega)
 have t4:((m:Int)==4)=false:=beq_eq_false_iff_ne.2 (by omega)
 have t5:((m:Int)==5)=false:=beq_eq_false_iff_ne.2 (by omega)
 have t6:((m:Int)==6)=false:=beq_eq_false_iff_ne.2 (by omega)
 have t7:((m:Int)==7)=false:=beq_eq_false_iff_ne.2 (by omega)
 have t8:((m:Int)==8)=false:=beq_eq_false_iff_ne.2 (by omega)
 have t9:((m:Int)==9)=false:=beq_eq_false_iff_ne.2 (by omega)
 have t10:((m:Int)==10)=false:=beq_eq_false_iff_ne.2 (by omega)
 have t11:((m:Int)==11)=false:=beq_eq_false_iff_ne.2 (by omega)
 have t12:((m:Int)==12)=false:=beq_eq_false_iff_ne.2 (by omega)
 have t13:((m:Int)==13)=false:=beq_eq_false_iff_ne.2 (by omega)
 have t14:((m:Int)==14)=false:=beq_eq_false_iff_ne.2 (by omega)
 clear hm
 go_enter Tryz.func166,Tryz.ntmps166
 go_wp2
 go_ret
 exact⟨rfl,rfl⟩
theorem shut_m (m:Nat):Calls Tryz.prog 166 #[.int .i64 (m:Int)] w fun e w'=>e=.returned (.string (closeT (closeB m)))∧w'=w:=by
 by_cases e0:m=0
 ·subst e0;exact shut_0 w
 by_cases e1:m=1
 ·subst e1;exact shut_1 w
 by_cases e2:m=2
 ·subst e2;exact shut_2 w
 by_cases e3:m=3
 ·subst e3;exact shut_3 w
 by_cases e4:m=4
 ·subst e4;exact shut_4 w
 by_cases e5:m=5
 ·subst e5;exact shut_5 w
 by_cases e6:m=6
 ·subst e6;exact shut_6 w
 by_cases e7:m=7
 ·subst e7;exact shut_7 w
 by_cases e8:m=8
 ·subst e8;exact shut_8 w
 by_cases e9:m=9
 ·subst e9;exact shut_9 w
 by_cases e10:m=10
 ·subst e10;exact shut_10 w
 by_cases e11:m=11
 ·subst e11;exact shut_11 w
 by_cases e12:m=12
 ·subst e12;exact shut_12 w
 by_cases e13:m=13
 ·subst e13;exact shut_13 w
 by_cases e14:m=14
 ·subst e14;exact shut_14 w
 have h15:15≤m:=by omega
 have e:closeT (closeB m)=⟨#[]⟩:=by
  unfold closeB
  repeat' (rw [if_neg (by omega)])
  rfl
 rw [e]
 exact shut_big w m h15
end
def Keep2 (B g:Nat) (W W':World):Prop:=W'.heap[B]?=W.heap[B]?∧W'.heap[g]?=W.heap[g]?
theorem keep2_t {B g:Nat} {X Y Z:World} (h:Keep2 B g X Y) (k:Keep2 B g Y Z):Keep2 B g X Z:=⟨k.1.trans h.1,k.2.trans h.2⟩
theorem keep2_r (B g:Nat) (X:World):Keep2 B g X X:=⟨rfl,rfl⟩
theorem keep2_b {B g:Nat} {w:World} (hB:B<w.heap.size) (hg:g<w.heap.size) (W:World) (l:Nat) (o o':Obj) (hl:w.heap.size≤l) (h:W.heap[l]?=some o) (_:o.isCells=false) (_:o.isWalk=false):Keep2 B g W (W.putObj l o'):=
 ⟨(grownBy_putObj' W l o').block B (by have:=(Array.getElem?_eq_some_iff.1 h).1;omega) (fun e=>by cases e;omega),
  (grownBy_putObj' W l o').block g (by have:=(Array.getElem?_eq_some_iff.1 h).1;omega) (fun e=>by cases e;omega)⟩
theorem take_snocF (st:List Fr) {k:Nat} {x:Fr} (h:st[k]?=some x):st.take (k+1)=st.take k++ [x]:=by
 rw [List.take_add_one,h]
 rfl
set_option maxRecDepth 100000 in
set_option maxHeartbeats 2000000 in
theorem back1_in (n:Nat) (hn:1≤n) (l Bn g cap:Nat) (st:List Fr) (hreach:st.length≤1000) (J Jx:List Fr→World→Prop)
  (hY:∀pre (x:Fr) W,J pre W→pre.length<st.length→YieldAt Fence.wide (n - 1) Tryz.prog l #[.agg #[.int .i64 (x.1:Int),.int .i64 (x.2:Int)]] W fun e W'=>
   (e=.returned (.bool true)∧J (pre++ [x]) W'∧Keep2 Bn g W W')∨(e=.returned (.bool false)∧Jx (pre++ [x]) W'))
  (W:World) (hBs:Blk W Bn #[.slice (some ⟨g,0,none⟩) st.length cap] 150) (hc:Fw W g cap st.reverse) (h0:J [] W):
  CallsIn Fence.wide n Tryz.prog 196 #[.func (.yield l) #[] #[],.pointer (some ⟨Bn,0,none⟩)] W fun e W'=>(∃v,e=.returned v)∧
   ((∃ys,ys=st∧J ys W')∨(∃pre,pre<+:st∧Jx pre W')):=by
 have hro:Fence.wide.round=none:=rfl
 have hfn:Fence.wide.fn 196:=trivial
 obtain⟨z,hz⟩:∃z,st.length=z:=⟨_,rfl⟩
 rw [hz]at hreach hBs
 have HBS:=Lib.hid hBs
 have HC:=Lib.hid hc
 have HZ:=Lib.hid hz
 have hcb:=hBs.cell 0
 simp at hcb
 have e0:IntKind.i64.wrap ((z:Int) - 1)=(z:Int) - 1:=by rw [IntWalk.i64_in _ (by omega)]
 clear hBs hc hz
 refine callsIn_of_wp Tryz.func196 rfl hfn ?_ hro
 simp only [Tryz.ntmps196,List.size_toArray,List.length_cons,List.length_nil,Nat.reduceAdd,Nat.reduceSub,Array.replicate_succ,Array.replicate_zero,List.push_toArray,List.append_toArray,List.nil_append,List.cons_append]
 gi_wp2
 clear hcb e0
 gi_loopw [3] (fun i wr=>∃k:Nat,k≤z∧i=.int .i64 ((z:Int) - 1 - k)∧J (st.take k) wr∧Keep2 Bn g W wr) (fun i _=>(intOf i+1).toNat)
 case atStart=>exact⟨0,Nat.zero_le _,by simp,h0,keep2_r _ _ _⟩
 case round=>
  obtain⟨k,hk,rfl,hJs,hnx⟩:=hrel
  by_cases hlt:k<z
  ·have hlen:=HZ.out
   obtain⟨d,hd⟩:∃d:Nat,z=d+1+k:=⟨z - 1 - k,by omega⟩
   have ei:(z:Int) - 1 - k=(d:Int):=by omega
   obtain⟨x,hx⟩:∃x,st[k]?=some x:=⟨_,List.getElem?_eq_getElem (by omega)⟩
   have hxr:st.reverse[d]?=some x:=by
    rw [List.getElem?_reverse (by omega),show st.length - 1 - d=k by omega]
    exact hx
   have hblk:Blk wr Bn #[.slice (some ⟨g,0,none⟩) z cap] 150:=Eq.trans hnx.1 HBS.out
   have hfw:Fw wr g cap st.reverse:=by
    obtain⟨cs,h1,h2⟩:=HC.out
    exact⟨cs,Eq.trans hnx.2 h1,h2⟩
   obtain⟨c1,c2⟩:=hfw.cell hxr
   have hcb:=hblk.cell 0
   simp at hcb
   have hdz:(d:Int)<(z:Int):=by omega
   have hd0:(0:Int)≤(d:Int):=by omega
   obtain⟨fn,tmps,assign,body,hy,hR⟩:=hY _ x wr hJs (by rw [List.length_take];omega)
   have hsnoc:=take_snocF st hx
   have e1:IntKind.i64.wrap ((d:Int) - 1)=(d:Int) - 1:=by rw [IntWalk.i64_in _ (by omega)]
   rw [ei]
   obtain⟨xm,xf⟩:=x
   simp only at c1 c2 hy hR
   have HX:=Lib.hid hx
   have HD:=Lib.hid hd
   have HSN:=Lib.hid hsnoc
   clear hx hxr hd ei hlen hsnoc
   gi_wp2
   refine hR.mono ?_
   rintro e W3 (⟨rfl,hJ3,hk3⟩|⟨rfl,hJx3⟩)
   ·gi_wp2
    go_roundw
    case rel=>exact⟨k+1,by omega,by have:=HD.out;first|(congr 1;omega)|(simp;omega),by rw [HSN.out];exact hJ3,keep2_t hnx hk3⟩
    case measure=>first|(simp [intOf];done)|(simp [intOf];omega)
   ·gi_wp2
    refine bodyPost_ret (results_none rfl _ _ _) rfl ?_
    exact⟨⟨_,rfl⟩,.inr ⟨_,by rw [←HSN.out];exact List.take_prefix _ _,hJx3⟩⟩
  ·obtain rfl:k=z:=by omega
   have hneg:¬(0:Int)≤(k:Int) - 1 - k:=by omega
   gi_wp2
   go_end0
   exact⟨⟨_,rfl⟩,.inl (by have:=hJs;rwa [←HZ.out,List.take_length]at this)⟩
theorem back_in (n:Nat) (ao:Option Addr) (len cap:Nat) (w:World):
  CallsIn Fence.wide n Tryz.prog 164 #[.slice ao len cap] w fun e w'=>e=.returned (.func (.func 196) #[] #[.pointer (some ⟨w.heap.size,0,none⟩)])∧w'=w.alloc (.cells #[.slice ao len cap] 150):=by
 have hro:Fence.wide.round=none:=rfl
 have hfn:Fence.wide.fn 164:=trivial
 refine callsIn_of_wp Tryz.func164 rfl hfn ?_ hro
 simp only [Tryz.ntmps164,List.size_toArray,List.length_cons,List.length_nil,Nat.reduceAdd,Nat.reduceSub,Array.replicate_succ,Array.replicate_zero,List.push_toArray,List.append_toArray,List.nil_append,List.cons_append]
 gi_wp2
 go_ret
 exact⟨rfl,rfl⟩
theorem back_stops (n:Nat) (hn:1≤n) (Bn g cap:Nat) (st:List Fr) (hreach:st.length≤1000) (w:World) (hBs:Blk w Bn #[.slice (some ⟨g,0,none⟩) st.length cap] 150) (hc:Fw w g cap st.reverse):
  SeqStopsK Fence.wide n Tryz.prog 196 #[.pointer (some ⟨Bn,0,none⟩)] (fun x:Fr=> #[Value.agg #[.int .i64 (x.1:Int),.int .i64 (x.2:Int)]]) (Keep2 Bn g) (fun ys=>ys=st) (fun pre=>pre<+:st) st.length w:=fun l J Jx W hW _ _ hY h0=>
 back1_in n hn l Bn g cap st hreach J Jx hY W (hBs.below hW) (hc.frm (Frm.of_below (p:=fun _=>False) hW) (fun h=>h)) h0
attribute [local go_sem] Oper.semAt_some
def BlF (B:Nat) (x:List Value) (w:World):Prop:=Lib.IsBuilderF 155 5 B B x w
theorem blf_string (B:Nat) (x:List Value) (s:ByteArray) (w:World) (h:BlF B x w) (hl:x.length≤1000000) (hs:s.size≤1000000) (hB:B≤w.heap.size):
  Calls Tryz.prog 165 #[.pointer (some ⟨B,0,none⟩),.string s] w fun e w'=>e=.returned (.tuple #[.int .i64 s.size,.nilIface])∧BlF B (x++Lib.strCells s) w'∧Below B w w'∧Lib.OthersKept 5 (some B) w w':=
 (Any.Builder_WriteString_k laidN166 laidX B B x s w h (by omega) hB).mono fun _ _ ⟨he,hb,hw,ho⟩=>⟨he,.inr hb,hw,ho⟩
theorem blf_block {B:Nat} {x:List Value} {w:World} (h:BlF B x w):∃p v,w.heap[B]?=some (.cells #[p,v] 155 (0,0)):=by
 rcases h with⟨_,v,hb,_⟩|⟨_,v,hb,_⟩
 ·exact⟨_,v,hb⟩
 ·exact⟨_,v,hb⟩
theorem keeps_of_others {B C:Nat} {x:List Value} {w w':World} (hb:BlF B x w) (h:Lib.OthersKept 5 (some B) w w') (hs:w.heap.size≤w'.heap.size):KeepsFrom C w w':=
 ⟨hs,fun k o _ hk ho=>h k o hk (fun e=>by
  obtain⟨p,v,hp⟩:=blf_block hb
  have e':k=B:=by simpa using e
  rw [e',hp]at hk
  cases hk
  cases ho) (fun c fz e=>by subst e;cases ho)⟩
theorem kept_blk {B b:Nat} {w w':World} {cs:Array Value} {t:TypeId} (h:Blk w b cs t) (hk:Lib.OthersKept 5 (some B) w w') (hb:b≠B) (ht:t≠5):w'.heap[b]?=w.heap[b]?:=by
 rw [show w.heap[b]?=_ from h]
 exact hk b _ h (fun e=>hb (by simpa using e)) (fun c fz e=>by injection e with _ e2;exact ht e2)
theorem blf_own {β:Type} (B:Nat) (f:β→List Value):Own (fun(s:β) W=>BlF B (f s) W):=by
 intro s X Y row h hg hr
 have kb:∀(v p:Value),X.heap[B]?=some (.cells #[p,v] 155 (0,0))→Y.heap[B]?=some (.cells #[p,v] 155 (0,0)):=fun v p hp=>
  (hg.block B (Array.getElem?_eq_some_iff.1 hp).1 (fun e=>by
   obtain⟨o,ho,hc⟩:=hr B e.symm
   rw [hp]at ho;cases ho;cases hc)).trans hp
 have kr:∀{v:Value} {n:Nat} {xs:List Value},X.ownsRowF B 5 1 v n xs→Y.ownsRowF B 5 1 v n xs:=by
  intro v n xs ho
  refine ho.kept hg ?_
  rcases hv:v.ownBlock with _|g
  ·exact .inl rfl
  ·refine .inr fun e=>?_
   obtain⟨o,hob,hc⟩:=hr g e.symm
   rcases ho.2 with⟨h1,_⟩|⟨g',cap,cur,fz,h1,_,h2,_⟩
   ·rw [h1]at hv;cases hv
   ·rw [h1]at hv
    have e':g'=g:=by simpa [Value.ownBlock]using hv
    subst e'
    rw [h2]at hob;cases hob;cases hc
 rcases h with⟨h0,v,h1,h2,h3⟩|⟨h0,v,h1,h2,h3⟩
 ·exact .inl ⟨h0,v,kb _ _ h1,kr h2,h3⟩
 ·exact .inr ⟨h0,v,kb _ _ h1,kr h2,h3⟩
theorem blk_own {β:Type} (b:Nat) (cs:Array Value) (t:TypeId):Own (fun(_:β) W=>Blk W b cs t):=by
 intro s X Y row h hg hr
 exact h.grown hg (fun e=>by
  obtain⟨o,ho,hc⟩:=hr b e.symm
  rw [show X.heap[b]?=_ from h]at ho;cases ho;cases hc)
theorem fw_own {β:Type} (g cap:Nat) (l:List Fr):Own (fun(_:β) W=>Fw W g cap l):=by
 rintro s X Y row ⟨cs,h1,h2⟩ hg hr
 exact⟨cs,blk_own (β:=Unit) g cs _ () X Y row h1 hg hr,h2⟩
theorem closeL_snoc (pre:List Fr) (x:Fr):closeL (pre++ [x])=closeL pre++closeB x.1:=by simp [closeL]
theorem strCells_close (l k:List UInt8):Lib.strCells (closeT (l++k))=Lib.strCells (closeT l)++Lib.strCells (closeT k):=by simp [Lib.strCells,closeT]
set_option maxRecDepth 100000 in
set_option maxHeartbeats 8000000 in
theorem closing_in (n:Nat) (hn:3≤n) (s:ByteArray) (hs:s.size≤900) (w:World):
  CallsIn Fence.wide n Tryz.prog 132 #[.string s] w fun e W'=>e=.returned (.string (closeT (closeL (runK s s.size).st)))∧Below w.heap.size w W':=by
 have h1:1≤n:=by omega
 have hro:Fence.wide.round=none:=rfl
 have h50:Fence.wide.fn 196:=trivial
 have f11:Fence.wide.fn 163:=trivial
 have f34:Fence.wide.fn 164:=trivial
 have f36:Fence.wide.fn 166:=trivial
 have f35:Fence.wide.fn 165:=trivial
 have f37:Fence.wide.fn 167:=trivial
 have hrun:=(callsIn_wide (n:=n - 1)).2 (run_any w s (by omega))
 have hlen:=runK_len s s.size
 obtain⟨x,hx⟩:∃x,runK s s.size=x:=⟨_,rfl⟩
 rw [hx]at hlen hrun ⊢
 clear hx
 refine callsIn_of_wp_marks Tryz.func132 rfl trivial ?_ hro
 simp only [Tryz.ntmps132,List.size_toArray,List.length_cons,List.length_nil,Nat.reduceAdd,Nat.reduceSub,Array.replicate_succ,Array.replicate_zero,List.push_toArray,List.append_toArray,List.nil_append,List.cons_append]
 gi_wp2_with fail
 refine hrun.mono ?_
 rintro e w1 ⟨⟨v,rfl,hRs⟩,hb1⟩
 obtain⟨g,capl,hv,hg,hF⟩:=hRs
 rw [List.length_reverse]at hv
 subst hv
 gi_wp2_with fail
 refine(back_in (n - 1) _ _ _ _).mono ?_
 rintro e w2 ⟨rfl,rfl⟩
 gi_wp2
 have hgl:=hF.lt
 have hs1:=hb1.size
 have bB:BlF w1.heap.size [] ((w1.alloc (.cells #[.pointer none,.slice none 0 0] 155)).alloc (.cells #[.slice (some ⟨g,0,none⟩) x.st.length capl] 150)):=
  blf_own (β:=Unit) w1.heap.size (fun _=> []) () _ _ none (Lib.IsBuilderF.of (Lib.fresh_isBuilder _ _ _)) (World.grownBy_alloc _ _ none) (fun r e=>by cases e)
 have bS:=blk2 w1 (.cells #[.pointer none,.slice none 0 0] 155) #[.slice (some ⟨g,0,none⟩) x.st.length capl] 150
 have bF:=hF.frm (Frm.of_below (p:=fun _=>False) (below2 w1 (.cells #[.pointer none,.slice none 0 0] 155) (.cells #[.slice (some ⟨g,0,none⟩) x.st.length capl] 150))) (fun h=>h)
 have hB0:Below w.heap.size w ((w1.alloc (.cells #[.pointer none,.slice none 0 0] 155)).alloc (.cells #[.slice (some ⟨g,0,none⟩) x.st.length capl] 150)):=hb1.trans ((below2 w1 _ _).mono hs1)
 obtain⟨W0,hW0⟩:∃W0,(w1.alloc (.cells #[.pointer none,.slice none 0 0] 155)).alloc (.cells #[.slice (some ⟨g,0,none⟩) x.st.length capl] 150)=W0:=⟨_,rfl⟩
 have hsz:W0.heap.size=w1.heap.size+2:=by rw [←hW0];exact size2 _ _ _
 rw [hW0]at bB bS bF hB0 ⊢
 clear hW0
 obtain⟨B,hB⟩:∃B,w1.heap.size=B:=⟨_,rfl⟩
 rw [hB]at bB bS hsz hgl hs1 ⊢
 refine wpIn_rangeFunc_ownH hro h1 (gf:=196) (lb:=#[.pointer (some ⟨B+1,0,none⟩)]) rfl h50 (enters_of Tryz.func196 (by kernel_rfl) rfl)
  (back_stops (n - 1) (by omega) (B+1) g capl x.st (by omega) W0 bS bF) keep2_t (keep2_b (by omega) (by omega)) (Below.refl _ _) (fun _=>rfl)
  (fun pre W=>BlF B (Lib.strCells (closeT (closeL pre))) W∧Blk W (B+1) #[.slice (some ⟨g,0,none⟩) x.st.length capl] 150∧Fw W g capl x.st.reverse∧Below w.heap.size w W)
  (fun _ _ _=>False)
  (OwnFrom.and (Own.from (blf_own B (fun(pre:List Fr)=>Lib.strCells (closeT (closeL pre)))) _) (OwnFrom.and (Own.from (blk_own _ _ _) _) (OwnFrom.and (Own.from (fw_own _ _ _) _) (ownFrom_below (Nat.le_refl _) (by omega)))))
  (fun _ _ _ _ _ hs _ _=>hs)
  ⟨bB,bS,bF,hB0⟩
  (fun y a' W=>∃Bx,B+1<Bx∧W.heap[Bx]?=some (.cells #[.int .i64 (y.1:Int),.int .i64 (y.2:Int)] 160 (0,0))∧a'={ tmps:=#[.string s,undef,.string ⟨#[]⟩,.slice (some ⟨g,0,none⟩) x.st.length capl,.bool x.fresh,.pointer (some ⟨B,0,none⟩),.pointer (some ⟨Bx,0,none⟩),.tuple #[.slice (some ⟨g,0,none⟩) x.st.length capl,.bool x.fresh],.string s,.tuple #[.slice (some ⟨g,0,none⟩) x.st.length capl,.bool x.fresh],.slice (some ⟨g,0,none⟩) x.st.length capl,.bool x.fresh,.slice (some ⟨g,0,none⟩) x.st.length capl,.func (.func 196) #[] #[.pointer (some ⟨B+1,0,none⟩)],.agg #[.int .i64 (y.1:Int),.int .i64 (y.2:Int)],undef,undef,undef,undef,undef],defers:=[] })
  (fun y a' _ X Y row hs hg hr=>by
   obtain⟨Bx,h1,h2,h3⟩:=hs
   refine⟨Bx,h1,(hg.block Bx (Array.getElem?_eq_some_iff.1 h2).1 (fun e=>?_)).trans h2,h3⟩
   obtain⟨o,ho,hoc⟩:=(hr Bx e.symm).2
   rw [h2]at ho;cases ho;cases hoc)
  ?assign ?body ?done ?stop
 case assign=>
  rintro l pre y W K ⟨hb,hS,hf,hBw⟩ hK
  gi_wp2
  have hWB:=hS.lt
  refine hK _ _ ((KeepsOthers.alloc _ _).from _) ⟨(hS.alloc _).trans hS.symm,?_⟩ ⟨blf_own (β:=Unit) B (fun _=>Lib.strCells (closeT (closeL pre))) () _ _ none hb (World.grownBy_alloc _ _ none) (fun r e=>by cases e),hS.alloc _,hf.frm ((Frm.refl (fun _=>False) W).alloc _) (fun h=>h),hBw.alloc hBw.size _⟩ ⟨W.heap.size,by omega,World.alloc_heap_new W _,rfl⟩
  exact Below.heap_alloc W _ g hf.lt
 case body=>
  rintro l pre y a' W hl ⟨r,hr⟩ ⟨hb,hS,hf,hBw⟩ ⟨Bx,hBx,bX,rfl⟩ hlt
  have x0:=cell_of_row W Bx 0 _ _ _ bX
  simp at x0
  have hWB:=hS.lt
  have hcl:=closeL_len pre
  have hc2:=closeB_len y.1
  have hsh:=shut_m W y.1
  have hws:=blf_string B _ (closeT (closeB y.1)) W hb (by rw [Lib.strCells_length,closeT_size];omega) (by rw [closeT_size];omega) (by omega)
  obtain⟨c,hc⟩:∃c,closeT (closeB y.1)=c:=⟨_,rfl⟩
  rw [hc]at hsh hws
  have HC:=Lib.hid hc
  clear hc
  gi_wp2_with fail
  refine⟨fun _=>by omega,((callsIn_wide.2 hsh).inRound l).mono ?_⟩
  rintro e w2 ⟨rfl,rfl⟩
  gi_wp2_with fail
  refine⟨fun _=>by omega,((callsIn_wide.2 hws).inRound l).mono ?_⟩
  rintro e w3 ⟨rfl,hb3,hB3,ho3⟩
  gi_wp2
  have k1:=kept_blk hS ho3 (by omega) (by decide)
  obtain⟨cs,hg1,hg2⟩:=hf
  have k2:=kept_blk hg1 ho3 (by omega) (by decide)
  refine⟨keeps_of_others hb ho3 hB3.size,⟨k1,k2⟩,?_,Eq.trans k1 hS,⟨cs,Eq.trans k2 hg1,hg2⟩,hBw.trans (hB3.mono (by omega))⟩
  rw [closeL_snoc,strCells_close,HC.out]
  exact hb3
 case done=>
  rintro D ys W hD rfl ⟨hb,hS,hf,hBw⟩ hK
  have hWB:=hS.lt
  have hstr:=Tryz.Builder_String_any_k B B (closeT (closeL x.st)).data.toList W hb (by omega)
  gi_wp2_with fail
  refine(callsIn_wide.2 hstr).mono ?_
  rintro e W2 ⟨rfl,hb2,hB2,ho2⟩
  have hK2:=ho2 D _ hK (fun e=>by injection e with e';omega) (fun c fz e=>by cases e)
  gi_wp2
  refine⟨by simp,.inl ⟨_,_,rfl,run_takeDeferred hK2,?_⟩⟩
  exact⟨_,results_tmp rfl _ _ _,rfl,(hBw.trans (hB2.mono (by omega))).trans (belowK_b (w:=w) (Nat.le_refl _) W2 D _ _ (by omega) hK2 rfl rfl)⟩
 case stop=>
  rintro D c pre W _ _ h _
  exact h.elim
theorem closing_any (s:ByteArray) (hs:s.size≤900) (w:World):
  Calls Tryz.prog 132 #[.string s] w fun e W'=>e=.returned (.string (closeT (closeL (runK s s.size).st)))∧Below w.heap.size w W':=
 (callsIn_wide (n:=3)).1 (closing_in 3 (Nat.le_refl _) s hs w)
end Go.Proofs.YtkolpaonccmgiaaGreatDoor

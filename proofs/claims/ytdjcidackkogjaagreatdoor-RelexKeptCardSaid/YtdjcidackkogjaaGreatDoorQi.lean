/- What shutting and backward of layer 6 (modes) retu -/
import Derived.Deep.AppendLies
import Derived.Test.YtdjcidackkogjaaGreatDoorQp
import Derived.Test.YtdjcidackkogjaaGreatDoorMdL
namespace Go.Proofs.YtdjcidackkogjaaGreatDoor
set_option linter.unusedSectionVars false
set_option linter.unusedVariables false
open Lib(hid)
set_option maxHeartbeats 8000000
set_option maxRecDepth 100000
open Go.RowKit Go.Shelf
attribute [local go_sem] Oper.semAt_some
section
variable(w:World)
theorem zdC:Calls Tryz.prog 113 #[.int .i64 0] w λe w'=>e=.returned (.string ⟨#[]⟩)∧w'=w:=by
 go_enter Tryz.func113,Tryz.ntmps113;go_wp2;go_ret;exact⟨rfl,rfl⟩
theorem zdD:Calls Tryz.prog 113 #[.int .i64 1] w λe w'=>e=.returned (.string ⟨#[41]⟩)∧w'=w:=by
 go_enter Tryz.func113,Tryz.ntmps113;go_wp2;go_ret;exact⟨rfl,rfl⟩
theorem zdE:Calls Tryz.prog 113 #[.int .i64 2] w λe w'=>e=.returned (.string ⟨#[41]⟩)∧w'=w:=by
 go_enter Tryz.func113,Tryz.ntmps113;go_wp2;go_ret;exact⟨rfl,rfl⟩
theorem zdF:Calls Tryz.prog 113 #[.int .i64 3] w λe w'=>e=.returned (.string ⟨#[41]⟩)∧w'=w:=by
 go_enter Tryz.func113,Tryz.ntmps113;go_wp2;go_ret;exact⟨rfl,rfl⟩
theorem zdG:Calls Tryz.prog 113 #[.int .i64 4] w λe w'=>e=.returned (.string ⟨#[39]⟩)∧w'=w:=by
 go_enter Tryz.func113,Tryz.ntmps113;go_wp2;go_ret;exact⟨rfl,rfl⟩
theorem zdH:Calls Tryz.prog 113 #[.int .i64 5] w λe w'=>e=.returned (.string ⟨#[34]⟩)∧w'=w:=by
 go_enter Tryz.func113,Tryz.ntmps113;go_wp2;go_ret;exact⟨rfl,rfl⟩
theorem zdI:Calls Tryz.prog 113 #[.int .i64 6] w λe w'=>e=.returned (.string ⟨#[96]⟩)∧w'=w:=by
 go_enter Tryz.func113,Tryz.ntmps113;go_wp2;go_ret;exact⟨rfl,rfl⟩
theorem zdJ:Calls Tryz.prog 113 #[.int .i64 7] w λe w'=>e=.returned (.string ⟨#[125]⟩)∧w'=w:=by
 go_enter Tryz.func113,Tryz.ntmps113;go_wp2;go_ret;exact⟨rfl,rfl⟩
theorem zdK:Calls Tryz.prog 113 #[.int .i64 8] w λe w'=>e=.returned (.string ⟨#[125]⟩)∧w'=w:=by
 go_enter Tryz.func113,Tryz.ntmps113;go_wp2;go_ret;exact⟨rfl,rfl⟩
theorem zdL:Calls Tryz.prog 113 #[.int .i64 9] w λe w'=>e=.returned (.string ⟨#[41,41]⟩)∧w'=w:=by
 go_enter Tryz.func113,Tryz.ntmps113;go_wp2;go_ret;exact⟨rfl,rfl⟩
theorem zdM:Calls Tryz.prog 113 #[.int .i64 10] w λe w'=>e=.returned (.string ⟨#[41]⟩)∧w'=w:=by
 go_enter Tryz.func113,Tryz.ntmps113;go_wp2;go_ret;exact⟨rfl,rfl⟩
theorem zdN:Calls Tryz.prog 113 #[.int .i64 11] w λe w'=>e=.returned (.string ⟨#[41]⟩)∧w'=w:=by
 go_enter Tryz.func113,Tryz.ntmps113;go_wp2;go_ret;exact⟨rfl,rfl⟩
theorem zdO:Calls Tryz.prog 113 #[.int .i64 12] w λe w'=>e=.returned (.string ⟨#[]⟩)∧w'=w:=by
 go_enter Tryz.func113,Tryz.ntmps113;go_wp2;go_ret;exact⟨rfl,rfl⟩
theorem zdP:Calls Tryz.prog 113 #[.int .i64 13] w λe w'=>e=.returned (.string ⟨#[10]⟩)∧w'=w:=by
 go_enter Tryz.func113,Tryz.ntmps113;go_wp2;go_ret;exact⟨rfl,rfl⟩
theorem zdQ:Calls Tryz.prog 113 #[.int .i64 14] w λe w'=>e=.returned (.string ⟨#[10]⟩)∧w'=w:=by
 go_enter Tryz.func113,Tryz.ntmps113;go_wp2;go_ret;exact⟨rfl,rfl⟩
theorem zdR(m:Nat)(hm:15≤m):Calls Tryz.prog 113 #[.int .i64 (m:Int)] w λe w'=>e=.returned (.string ⟨#[]⟩)∧w'=w:=by
 have t0:((m:Int)==0)=false:=beq_eq_false_iff_ne.2 (by omega);have t1:((m:Int)==1)=false:=beq_eq_false_iff_ne.2 (by omega);have t2:((m:Int)==2)=false:=beq_eq_false_iff_ne.2 (by omega);have t3:((m:Int)==3)=false:=beq_eq_false_iff_ne.2 (by omega);have t4:((m:Int)==4)=false:=beq_eq_false_iff_ne.2 (by omega);have t5:((m:Int)==5)=false:=beq_eq_false_iff_ne.2 (by omega);have t6:((m:Int)==6)=false:=beq_eq_false_iff_ne.2 (by omega);have t7:((m:Int)==7)=false:=beq_eq_false_iff_ne.2 (by omega);have t8:((m:Int)==8)=false:=beq_eq_false_iff_ne.2 (by omega);have t9:((m:Int)==9)=false:=beq_eq_false_iff_ne.2 (by omega);have t10:((m:Int)==10)=false:=beq_eq_false_iff_ne.2 (by omega);have t11:((m:Int)==11)=false:=beq_eq_false_iff_ne.2 (by omega);have t12:((m:Int)==12)=false:=beq_eq_false_iff_ne.2 (by omega);have t13:((m:Int)==13)=false:=beq_eq_false_iff_ne.2 (by omega);have t14:((m:Int)==14)=false:=beq_eq_false_iff_ne.2 (by omega);clear hm;go_enter Tryz.func113,Tryz.ntmps113;go_wp2;go_ret;exact⟨rfl,rfl⟩
theorem zdA(m:Nat):Calls Tryz.prog 113 #[.int .i64 (m:Int)] w λe w'=>e=.returned (.string (kG (Zv m)))∧w'=w:=by
 by_cases e0:m=0
 ·subst e0;exact zdC w
 by_cases e1:m=1
 ·subst e1;exact zdD w
 by_cases e2:m=2
 ·subst e2;exact zdE w
 by_cases e3:m=3
 ·subst e3;exact zdF w
 by_cases e4:m=4
 ·subst e4;exact zdG w
 by_cases e5:m=5
 ·subst e5;exact zdH w
 by_cases e6:m=6
 ·subst e6;exact zdI w
 by_cases e7:m=7
 ·subst e7;exact zdJ w
 by_cases e8:m=8
 ·subst e8;exact zdK w
 by_cases e9:m=9
 ·subst e9;exact zdL w
 by_cases e10:m=10
 ·subst e10;exact zdM w
 by_cases e11:m=11
 ·subst e11;exact zdN w
 by_cases e12:m=12
 ·subst e12;exact zdO w
 by_cases e13:m=13
 ·subst e13;exact zdP w
 by_cases e14:m=14
 ·subst e14;exact zdQ w
 have h15:15≤m:=by omega
 have e:kG (Zv m)=⟨#[]⟩:=by
  unfold Zv
  repeat' (rw[if_neg (by omega)])
  rfl
 rw[e];exact zdR w m h15
end
def JW(B g:Nat)(W W':World):Prop:=W'.heap[B]?=W.heap[B]?∧W'.heap[g]?=W.heap[g]?
theorem F5{B g:Nat}{X Y Z:World}(h:JW B g X Y)(k:JW B g Y Z):JW B g X Z:=⟨k.1.trans h.1,k.2.trans h.2⟩
theorem zdS(B g:Nat)(X:World):JW B g X X:=⟨rfl,rfl⟩
theorem zdy{B g:Nat}{w:World}(hB:B<w.heap.size)(hg:g<w.heap.size)(W:World)(l:Nat)(o o':Obj)(hl:w.heap.size≤l)(h:W.heap[l]?=some o)(_:o.isCells=false)(_:o.isWalk=false):JW B g W (W.putObj l o'):=
 ⟨(grownBy_putObj' W l o').block B (by have:=(Array.getElem?_eq_some_iff.1 h).1;omega) (λe=>by cases e;omega),
  (grownBy_putObj' W l o').block g (by have:=(Array.getElem?_eq_some_iff.1 h).1;omega) (λe=>by cases e;omega)⟩
theorem zdT(st:List Fr){k:Nat}{x:Fr}(h:st[k]?=some x):st.take (k+1)=st.take k++ [x]:=by
 rw[List.take_add_one,h];rfl
theorem zdU(n:Nat)(hn:1≤n)(l Bn g cap:Nat)(st:List Fr)(hreach:st.length≤1000)(J Jx:List Fr→World→Prop)
 (hY:∀pre (x:Fr) W,J pre W→pre.length<st.length→YieldAt Fence.wide (n-1) Tryz.prog l #[.agg #[.int .i64 (x.1:Int),.int .i64 (x.2:Int)]] W λe W'=>
   (e=.returned (.bool true)∧J (pre++ [x]) W'∧JW Bn g W W')∨(e=.returned (.bool false)∧Jx (pre++ [x]) W'))
 (W:World)(hBs:zh W Bn #[.slice (some ⟨g,0,none⟩) st.length cap] 164)(hc:Fw W g cap st.reverse)(h0:J [] W):
  CallsIn Fence.wide n Tryz.prog 129 #[.func (.yield l) #[] #[],.pointer (some ⟨Bn,0,none⟩)] W λe W'=>(∃v,e=.returned v)∧
   ((∃ys,ys=st∧J ys W')∨(∃pre,pre<+:st∧Jx pre W')):=by
 have hro:Fence.wide.round=none:=rfl;have hfn:Fence.wide.fn 129:=trivial;obtain⟨z,hz⟩:∃z,st.length=z:=⟨_,rfl⟩;rw[hz]at hreach hBs;have HBS:=hid hBs;have HC:=hid hc;have HZ:=hid hz;have hcb:=hBs.cell 0;simp at hcb;have e0:IntKind.i64.wrap ((z:Int)-1)=(z:Int)-1:=by rw[IntWalk.i64_in _ (by omega)]
 clear hBs hc hz;refine callsIn_of_wp Tryz.func129 rfl hfn ?_ hro;simp only[Tryz.ntmps129,List.size_toArray,List.length_cons,List.length_nil,Nat.reduceAdd,Nat.reduceSub,Array.replicate_succ,Array.replicate_zero,List.push_toArray,List.append_toArray,List.nil_append,List.cons_append]
 gi_wp2
 clear hcb e0
 gi_loopw [3] (λi wr=>∃k:Nat,k≤z∧i=.int .i64 ((z:Int)-1-k)∧J (st.take k) wr∧JW Bn g W wr) (λi _=>(intOf i+1).toNat)
 case atStart=>exact⟨0,Nat.zero_le _,by simp,h0,zdS _ _ _⟩
 case round=>
  obtain⟨k,hk,rfl,hJs,hnx⟩:=hrel;by_cases hlt:k<z
  ·have hlen:=HZ.out
   obtain⟨d,hd⟩:∃d:Nat,z=d+1+k:=⟨z-1-k,by omega⟩;have ei:(z:Int)-1-k=(d:Int):=by omega
   obtain⟨x,hx⟩:∃x,st[k]?=some x:=⟨_,List.getElem?_eq_getElem (by omega)⟩;have hxr:st.reverse[d]?=some x:=by
    rw[List.getElem?_reverse (by omega),show st.length-1-d=k by omega];exact hx
   have hblk:zh wr Bn #[.slice (some ⟨g,0,none⟩) z cap] 164:=Eq.trans hnx.1 HBS.out;have hfw:Fw wr g cap st.reverse:=by
    obtain⟨cs,h1,h2⟩:=HC.out;exact⟨cs,Eq.trans hnx.2 h1,h2⟩
   obtain⟨c1,c2⟩:=hfw.cell hxr;have hcb:=hblk.cell 0;simp at hcb;have hdz:(d:Int)<(z:Int):=by omega
   have hd0:(0:Int)≤(d:Int):=by omega
   obtain⟨fn,tmps,assign,body,hy,hR⟩:=hY _ x wr hJs (by rw[List.length_take];omega);have F9:=zdT st hx;have e1:IntKind.i64.wrap ((d:Int)-1)=(d:Int)-1:=by rw[IntWalk.i64_in _ (by omega)]
   rw[ei];obtain⟨xm,xf⟩:=x;simp only at c1 c2 hy hR;have HX:=hid hx;have HD:=hid hd;have Ha:=hid F9;clear hx hxr hd ei hlen F9
   gi_wp2
   refine hR.mono ?_;rintro e W3 (⟨rfl,hJ3,hk3⟩|⟨rfl,hJx3⟩)
   ·gi_wp2
    go_roundw
    case rel=>exact⟨k+1,by omega,by have:=HD.out;first|(congr 1;omega)|(simp;omega),by rw[Ha.out];exact hJ3,F5 hnx hk3⟩
    case measure=>first|(simp[intOf];done)|(simp[intOf];omega)
   ·gi_wp2
    refine bodyPost_ret (results_none rfl _ _ _) rfl ?_;exact⟨⟨_,rfl⟩,.inr ⟨_,by rw[←Ha.out];exact List.take_prefix _ _,hJx3⟩⟩
  ·obtain rfl:k=z:=by omega
   have hneg:¬(0:Int)≤(k:Int)-1-k:=by omega
   gi_wp2
   go_end0
   exact⟨⟨_,rfl⟩,.inl (by have:=hJs;rwa [←HZ.out,List.take_length]at this)⟩
theorem zdw(n:Nat)(ao:Option Addr)(len cap:Nat)(w:World):
  CallsIn Fence.wide n Tryz.prog 111 #[.slice ao len cap] w λe w'=>e=.returned (.func (.func 129) #[] #[.pointer (some ⟨w.heap.size,0,none⟩)])∧w'=w.alloc (.cells #[.slice ao len cap] 164):=by
 have hro:Fence.wide.round=none:=rfl;have hfn:Fence.wide.fn 111:=trivial;refine callsIn_of_wp Tryz.func111 rfl hfn ?_ hro;simp only[Tryz.ntmps111,List.size_toArray,List.length_cons,List.length_nil,Nat.reduceAdd,Nat.reduceSub,Array.replicate_succ,Array.replicate_zero,List.push_toArray,List.append_toArray,List.nil_append,List.cons_append]
 gi_wp2
 go_ret;exact⟨rfl,rfl⟩
theorem zdx(n:Nat)(hn:1≤n)(Bn g cap:Nat)(st:List Fr)(hreach:st.length≤1000)(w:World)(hBs:zh w Bn #[.slice (some ⟨g,0,none⟩) st.length cap] 164)(hc:Fw w g cap st.reverse):
  SeqStopsK Fence.wide n Tryz.prog 129 #[.pointer (some ⟨Bn,0,none⟩)] (λx:Fr=> #[Value.agg #[.int .i64 (x.1:Int),.int .i64 (x.2:Int)]]) (JW Bn g) (λys=>ys=st) (λpre=>pre<+:st) st.length w:=λl J Jx W hW _ _ hY h0=>
 zdU n hn l Bn g cap st hreach J Jx hY W (hBs.below hW) (hc.zf (zg.of_below (p:=λ_=>False) hW) (λh=>h)) h0
attribute [local go_sem] Oper.semAt_some
def QY(B:Nat)(x:List Value)(w:World):Prop:=Lib.IsBuilderF 169 5 B B x w
theorem zdo(B:Nat)(x:List Value)(s:ByteArray)(w:World)(h:QY B x w)(hl:x.length≤1000000)(hs:s.size≤1000000)(hB:B≤w.heap.size):
  Calls Tryz.prog 112 #[.pointer (some ⟨B,0,none⟩),.string s] w λe w'=>e=.returned (.tuple #[.int .i64 s.size,.nilIface])∧QY B (x++Lib.strCells s) w'∧Below B w w'∧Lib.OthersKept 5 (some B) w w':=
 (Any.Builder_WriteString_k Sj Sl B B x s w h (by omega) hB).mono λ_ _ ⟨he,hb,hw,ho⟩=>⟨he,.inr hb,hw,ho⟩
theorem zdp{B:Nat}{x:List Value}{w:World}(h:QY B x w):∃p v,w.heap[B]?=some (.cells #[p,v] 169 (0,0)):=by
 rcases h with⟨_,v,hb,_⟩|⟨_,v,hb,_⟩
 ·exact⟨_,v,hb⟩
 ·exact⟨_,v,hb⟩
theorem zdq{B C:Nat}{x:List Value}{w w':World}(hb:QY B x w)(h:Lib.OthersKept 5 (some B) w w')(hs:w.heap.size≤w'.heap.size):KeepsFrom C w w':=
 ⟨hs,λk o _ hk ho=>h k o hk (λe=>by
  obtain⟨p,v,hp⟩:=zdp hb;have e':k=B:=by simpa using e
  rw[e',hp]at hk;cases hk;cases ho) (λc fz e=>by subst e;cases ho)⟩
theorem FY{B b:Nat}{w w':World}{cs:Array Value}{t:TypeId}(h:zh w b cs t)(hk:Lib.OthersKept 5 (some B) w w')(hb:b≠B)(ht:t≠5):w'.heap[b]?=w.heap[b]?:=by
 rw[show w.heap[b]?=_ from h];exact hk b _ h (λe=>hb (by simpa using e)) (λc fz e=>by injection e with _ e2;exact ht e2)
theorem SB{β:Type}(B:Nat)(f:β→List Value):Own (fun(s:β) W=>QY B (f s) W):=by
 intro s X Y row h hg hr;have kb:∀(v p:Value),X.heap[B]?=some (.cells #[p,v] 169 (0,0))→Y.heap[B]?=some (.cells #[p,v] 169 (0,0)):=λv p hp=>
  (hg.block B (Array.getElem?_eq_some_iff.1 hp).1 (λe=>by
   obtain⟨o,ho,hc⟩:=hr B e.symm;rw[hp]at ho;cases ho;cases hc)).trans hp
 have kr:∀{v:Value} {n:Nat} {xs:List Value},X.ownsRowF B 5 1 v n xs→Y.ownsRowF B 5 1 v n xs:=by
  intro v n xs ho;refine ho.kept hg ?_;rcases hv:v.ownBlock with _|g
  ·exact .inl rfl
  ·refine .inr λe=>?_
   obtain⟨o,hob,hc⟩:=hr g e.symm;rcases ho.2 with⟨h1,_⟩|⟨g',cap,cur,fz,h1,_,h2,_⟩
   ·rw[h1]at hv;cases hv
   ·rw[h1]at hv
    have e':g'=g:=by simpa[Value.ownBlock]using hv
    subst e';rw[h2]at hob;cases hob;cases hc
 rcases h with⟨h0,v,h1,h2,h3⟩|⟨h0,v,h1,h2,h3⟩
 ·exact .inl ⟨h0,v,kb _ _ h1,kr h2,h3⟩
 ·exact .inr ⟨h0,v,kb _ _ h1,kr h2,h3⟩
theorem FZ{β:Type}(b:Nat)(cs:Array Value)(t:TypeId):Own (fun(_:β) W=>zh W b cs t):=by
 intro s X Y row h hg hr;exact h.grown hg (λe=>by
  obtain⟨o,ho,hc⟩:=hr b e.symm;rw[show X.heap[b]?=_ from h]at ho;cases ho;cases hc)
theorem zdr{β:Type}(g cap:Nat)(l:List Fr):Own (fun(_:β) W=>Fw W g cap l):=by
 rintro s X Y row ⟨cs,h1,h2⟩ hg hr;exact⟨cs,FZ (β:=Unit) g cs _ () X Y row h1 hg hr,h2⟩
theorem zds(pre:List Fr)(x:Fr):ql (pre++ [x])=ql pre++Zv x.1:=by simp[ql]
theorem zdt(l k:List UInt8):Lib.strCells (kG (l++k))=Lib.strCells (kG l)++Lib.strCells (kG k):=by simp[Lib.strCells,kG]
theorem zdu(n:Nat)(hn:3≤n)(s:ByteArray)(hs:s.size≤900)(w:World):
  CallsIn Fence.wide n Tryz.prog 98 #[.string s] w λe W'=>e=.returned (.string (kG (ql (zL s s.size).st)))∧Below w.heap.size w W':=by
 have h1:1≤n:=by omega
 have hro:Fence.wide.round=none:=rfl;have h50:Fence.wide.fn 129:=trivial;have f11:Fence.wide.fn 110:=trivial;have f34:Fence.wide.fn 111:=trivial;have f36:Fence.wide.fn 113:=trivial;have f35:Fence.wide.fn 112:=trivial;have f37:Fence.wide.fn 114:=trivial;have hrun:=(callsIn_wide (n:=n-1)).2 (zdv w s (by omega));have hlen:=V6 s s.size;obtain⟨x,hx⟩:∃x,zL s s.size=x:=⟨_,rfl⟩;rw[hx]at hlen hrun ⊢;clear hx;refine callsIn_of_wp_marks Tryz.func98 rfl trivial ?_ hro;simp only[Tryz.ntmps98,List.size_toArray,List.length_cons,List.length_nil,Nat.reduceAdd,Nat.reduceSub,Array.replicate_succ,Array.replicate_zero,List.push_toArray,List.append_toArray,List.nil_append,List.cons_append]
 gi_wp2_with fail
 refine hrun.mono ?_;rintro e w1 ⟨⟨v,rfl,hRs⟩,hb1⟩;obtain⟨g,Zw,hv,hg,hF⟩:=hRs;rw[List.length_reverse]at hv;subst hv
 gi_wp2_with fail
 refine(zdw (n-1) _ _ _ _).mono ?_;rintro e w2 ⟨rfl,rfl⟩
 gi_wp2
 have hgl:=hF.lt;have hs1:=hb1.size;have bB:QY w1.heap.size [] ((w1.alloc (.cells #[.pointer none,.slice none 0 0] 169)).alloc (.cells #[.slice (some ⟨g,0,none⟩) x.st.length Zw] 164)):=
  SB (β:=Unit) w1.heap.size (λ_=> []) () _ _ none (Lib.IsBuilderF.of (Lib.fresh_isBuilder _ _ _)) (World.grownBy_alloc _ _ none) (λr e=>by cases e)
 have bS:=Su w1 (.cells #[.pointer none,.slice none 0 0] 169) #[.slice (some ⟨g,0,none⟩) x.st.length Zw] 164;have bF:=hF.zf (zg.of_below (p:=λ_=>False) (zn w1 (.cells #[.pointer none,.slice none 0 0] 169) (.cells #[.slice (some ⟨g,0,none⟩) x.st.length Zw] 164))) (λh=>h);have hB0:Below w.heap.size w ((w1.alloc (.cells #[.pointer none,.slice none 0 0] 169)).alloc (.cells #[.slice (some ⟨g,0,none⟩) x.st.length Zw] 164)):=hb1.trans ((zn w1 _ _).mono hs1);obtain⟨W0,hW0⟩:∃W0,(w1.alloc (.cells #[.pointer none,.slice none 0 0] 169)).alloc (.cells #[.slice (some ⟨g,0,none⟩) x.st.length Zw] 164)=W0:=⟨_,rfl⟩;have hsz:W0.heap.size=w1.heap.size+2:=by rw[←hW0];exact Sv _ _ _
 rw[hW0]at bB bS bF hB0 ⊢;clear hW0;obtain⟨B,hB⟩:∃B,w1.heap.size=B:=⟨_,rfl⟩;rw[hB]at bB bS hsz hgl hs1 ⊢;refine wpIn_rangeFunc_ownH hro h1 (gf:=129) (lb:=#[.pointer (some ⟨B+1,0,none⟩)]) rfl h50 (enters_of Tryz.func129 (by kernel_rfl) rfl)
  (zdx (n-1) (by omega) (B+1) g Zw x.st (by omega) W0 bS bF) F5 (zdy (by omega) (by omega)) (Below.refl _ _) (λ_=>rfl)
  (λpre W=>QY B (Lib.strCells (kG (ql pre))) W∧zh W (B+1) #[.slice (some ⟨g,0,none⟩) x.st.length Zw] 164∧Fw W g Zw x.st.reverse∧Below w.heap.size w W)
  (λ_ _ _=>False)
  (OwnFrom.and (Own.from (SB B (fun(pre:List Fr)=>Lib.strCells (kG (ql pre)))) _) (OwnFrom.and (Own.from (FZ _ _ _) _) (OwnFrom.and (Own.from (zdr _ _ _) _) (ownFrom_below (Nat.le_refl _) (by omega)))))
  (λ_ _ _ _ _ hs _ _=>hs)
  ⟨bB,bS,bF,hB0⟩
  (λy a' W=>∃Bx,B+1<Bx∧W.heap[Bx]?=some (.cells #[.int .i64 (y.1:Int),.int .i64 (y.2:Int)] 174 (0,0))∧a'={tmps:=#[.string s,undef,.string ⟨#[]⟩,.slice (some ⟨g,0,none⟩) x.st.length Zw,.bool x.fresh,.pointer (some ⟨B,0,none⟩),.pointer (some ⟨Bx,0,none⟩),.tuple #[.slice (some ⟨g,0,none⟩) x.st.length Zw,.bool x.fresh],.string s,.tuple #[.slice (some ⟨g,0,none⟩) x.st.length Zw,.bool x.fresh],.slice (some ⟨g,0,none⟩) x.st.length Zw,.bool x.fresh,.slice (some ⟨g,0,none⟩) x.st.length Zw,.func (.func 129) #[] #[.pointer (some ⟨B+1,0,none⟩)],.agg #[.int .i64 (y.1:Int),.int .i64 (y.2:Int)],undef,undef,undef,undef,undef],defers:=[]})
  (λy a' _ X Y row hs hg hr=>by
   obtain⟨Bx,h1,h2,h3⟩:=hs;refine⟨Bx,h1,(hg.block Bx (Array.getElem?_eq_some_iff.1 h2).1 (λe=>?_)).trans h2,h3⟩;obtain⟨o,ho,hoc⟩:=(hr Bx e.symm).2;rw[h2]at ho;cases ho;cases hoc)
  ?assign ?body ?done ?stop
 case assign=>
  rintro l pre y W K ⟨hb,hS,hf,hBw⟩ hK
  gi_wp2
  have F6:=hS.lt;refine hK _ _ ((KeepsOthers.alloc _ _).from _) ⟨(hS.alloc _).trans hS.symm,?_⟩ ⟨SB (β:=Unit) B (λ_=>Lib.strCells (kG (ql pre))) () _ _ none hb (World.grownBy_alloc _ _ none) (λr e=>by cases e),hS.alloc _,hf.zf ((zg.refl (λ_=>False) W).alloc _) (λh=>h),hBw.alloc hBw.size _⟩ ⟨W.heap.size,by omega,World.alloc_heap_new W _,rfl⟩;exact Below.heap_alloc W _ g hf.lt
 case body=>
  rintro l pre y a' W hl ⟨r,hr⟩ ⟨hb,hS,hf,hBw⟩ ⟨Bx,hBx,bX,rfl⟩ hlt;have x0:=cell_of_row W Bx 0 _ _ _ bX;simp at x0;have F6:=hS.lt;have hcl:=zdz pre;have hc2:=F7 y.1;have hsh:=zdA W y.1;have hws:=zdo B _ (kG (Zv y.1)) W hb (by rw[Lib.strCells_length,F8];omega) (by rw[F8];omega) (by omega);obtain⟨c,hc⟩:∃c,kG (Zv y.1)=c:=⟨_,rfl⟩;rw[hc]at hsh hws;have HC:=Lib.hid hc;clear hc
  gi_wp2_with fail
  refine⟨λ_=>by omega,((callsIn_wide.2 hsh).inRound l).mono ?_⟩;rintro e w2 ⟨rfl,rfl⟩
  gi_wp2_with fail
  refine⟨λ_=>by omega,((callsIn_wide.2 hws).inRound l).mono ?_⟩;rintro e w3 ⟨rfl,hb3,hB3,ho3⟩
  gi_wp2
  have k1:=FY hS ho3 (by omega) (by decide);obtain⟨cs,hg1,hg2⟩:=hf;have k2:=FY hg1 ho3 (by omega) (by decide);refine⟨zdq hb ho3 hB3.size,⟨k1,k2⟩,?_,Eq.trans k1 hS,⟨cs,Eq.trans k2 hg1,hg2⟩,hBw.trans (hB3.mono (by omega))⟩;rw[zds,zdt,HC.out];exact hb3
 case done=>
  rintro D ys W hD rfl ⟨hb,hS,hf,hBw⟩ hK;have F6:=hS.lt;have hstr:=Tryz.Builder_String_any_k B B (kG (ql x.st)).data.toList W hb (by omega)
  gi_wp2_with fail
  refine(callsIn_wide.2 hstr).mono ?_;rintro e W2 ⟨rfl,hb2,hB2,ho2⟩;have hK2:=ho2 D _ hK (λe=>by injection e with e';omega) (λc fz e=>by cases e)
  gi_wp2
  refine⟨by simp,.inl ⟨_,_,rfl,run_takeDeferred hK2,?_⟩⟩;exact⟨_,results_tmp rfl _ _ _,rfl,(hBw.trans (hB2.mono (by omega))).trans (belowK_b (w:=w) (Nat.le_refl _) W2 D _ _ (by omega) hK2 rfl rfl)⟩
 case stop=>
  rintro D c pre W _ _ h _;exact h.elim
theorem zdB(s:ByteArray)(hs:s.size≤900)(w:World):
  Calls Tryz.prog 98 #[.string s] w λe W'=>e=.returned (.string (kG (ql (zL s s.size).st)))∧Below w.heap.size w W':=
 (callsIn_wide (n:=3)).1 (zdu 3 (Nat.le_refl _) s hs w)
end Go.Proofs.YtdjcidackkogjaaGreatDoor

/- What shutting and backward of layer 6 (modes) retu -/
import Derived.Deep.AppendLies
import Derived.Test.YtkolpaonccmgiaaGreatDoorQp
import Derived.Test.YtkolpaonccmgiaaGreatDoorMdL
namespace Go.Proofs.YtkolpaonccmgiaaGreatDoor
set_option linter.unusedSectionVars false
set_option linter.unusedVariables false
open Go.Proofs.Tryz
open Lib(hid)
set_option maxHeartbeats 8000000
set_option maxRecDepth 100000
open Go.RowKit Go.Shelf
attribute [local go_sem] Oper.semAt_some
section
variable(w:World)
theorem zfr:Calls prog 166 #[.int .i64 0] w λe w'=>e=.returned (.string ⟨#[]⟩)/\w'=w:=by
 go_enter func166,ntmps166;go_wp2;go_ret;exact⟨rfl,rfl⟩
theorem zfs:Calls prog 166 #[.int .i64 1] w λe w'=>e=.returned (.string ⟨#[41]⟩)/\w'=w:=by
 go_enter func166,ntmps166;go_wp2;go_ret;exact⟨rfl,rfl⟩
theorem zft:Calls prog 166 #[.int .i64 2] w λe w'=>e=.returned (.string ⟨#[41]⟩)/\w'=w:=by
 go_enter func166,ntmps166;go_wp2;go_ret;exact⟨rfl,rfl⟩
theorem zfu:Calls prog 166 #[.int .i64 3] w λe w'=>e=.returned (.string ⟨#[41]⟩)/\w'=w:=by
 go_enter func166,ntmps166;go_wp2;go_ret;exact⟨rfl,rfl⟩
theorem zfv:Calls prog 166 #[.int .i64 4] w λe w'=>e=.returned (.string ⟨#[39]⟩)/\w'=w:=by
 go_enter func166,ntmps166;go_wp2;go_ret;exact⟨rfl,rfl⟩
theorem zfw:Calls prog 166 #[.int .i64 5] w λe w'=>e=.returned (.string ⟨#[34]⟩)/\w'=w:=by
 go_enter func166,ntmps166;go_wp2;go_ret;exact⟨rfl,rfl⟩
theorem zfx:Calls prog 166 #[.int .i64 6] w λe w'=>e=.returned (.string ⟨#[96]⟩)/\w'=w:=by
 go_enter func166,ntmps166;go_wp2;go_ret;exact⟨rfl,rfl⟩
theorem zfy:Calls prog 166 #[.int .i64 7] w λe w'=>e=.returned (.string ⟨#[125]⟩)/\w'=w:=by
 go_enter func166,ntmps166;go_wp2;go_ret;exact⟨rfl,rfl⟩
theorem zfz:Calls prog 166 #[.int .i64 8] w λe w'=>e=.returned (.string ⟨#[125]⟩)/\w'=w:=by
 go_enter func166,ntmps166;go_wp2;go_ret;exact⟨rfl,rfl⟩
theorem zfA:Calls prog 166 #[.int .i64 9] w λe w'=>e=.returned (.string ⟨#[41,41]⟩)/\w'=w:=by
 go_enter func166,ntmps166;go_wp2;go_ret;exact⟨rfl,rfl⟩
theorem zfB:Calls prog 166 #[.int .i64 10] w λe w'=>e=.returned (.string ⟨#[41]⟩)/\w'=w:=by
 go_enter func166,ntmps166;go_wp2;go_ret;exact⟨rfl,rfl⟩
theorem zfC:Calls prog 166 #[.int .i64 11] w λe w'=>e=.returned (.string ⟨#[41]⟩)/\w'=w:=by
 go_enter func166,ntmps166;go_wp2;go_ret;exact⟨rfl,rfl⟩
theorem zfD:Calls prog 166 #[.int .i64 12] w λe w'=>e=.returned (.string ⟨#[]⟩)/\w'=w:=by
 go_enter func166,ntmps166;go_wp2;go_ret;exact⟨rfl,rfl⟩
theorem zfE:Calls prog 166 #[.int .i64 13] w λe w'=>e=.returned (.string ⟨#[10]⟩)/\w'=w:=by
 go_enter func166,ntmps166;go_wp2;go_ret;exact⟨rfl,rfl⟩
theorem zfF:Calls prog 166 #[.int .i64 14] w λe w'=>e=.returned (.string ⟨#[10]⟩)/\w'=w:=by
 go_enter func166,ntmps166;go_wp2;go_ret;exact⟨rfl,rfl⟩
theorem zfG(m:Nat)(hm:15<=m):Calls prog 166 #[.int .i64 (m:Int)] w λe w'=>e=.returned (.string ⟨#[]⟩)/\w'=w:=by
 have t0:((m:Int)==0)=false:=beq_eq_false_iff_ne.2 (by omega);have t1:((m:Int)==1)=false:=beq_eq_false_iff_ne.2 (by omega);have t2:((m:Int)==2)=false:=beq_eq_false_iff_ne.2 (by omega);have t3:((m:Int)==3)=false:=beq_eq_false_iff_ne.2 (by omega);have t4:((m:Int)==4)=false:=beq_eq_false_iff_ne.2 (by omega);have t5:((m:Int)==5)=false:=beq_eq_false_iff_ne.2 (by omega);have t6:((m:Int)==6)=false:=beq_eq_false_iff_ne.2 (by omega);have t7:((m:Int)==7)=false:=beq_eq_false_iff_ne.2 (by omega);have t8:((m:Int)==8)=false:=beq_eq_false_iff_ne.2 (by omega);have t9:((m:Int)==9)=false:=beq_eq_false_iff_ne.2 (by omega);have t10:((m:Int)==10)=false:=beq_eq_false_iff_ne.2 (by omega);have t11:((m:Int)==11)=false:=beq_eq_false_iff_ne.2 (by omega);have t12:((m:Int)==12)=false:=beq_eq_false_iff_ne.2 (by omega);have t13:((m:Int)==13)=false:=beq_eq_false_iff_ne.2 (by omega);have t14:((m:Int)==14)=false:=beq_eq_false_iff_ne.2 (by omega);clear hm;go_enter func166,ntmps166;go_wp2;go_ret;exact⟨rfl,rfl⟩
theorem zfp(m:Nat):Calls prog 166 #[.int .i64 (m:Int)] w λe w'=>e=.returned (.string (YD (Xz m)))/\w'=w:=by
 by_cases e0:m=0
 ·subst e0;exact zfr w
 by_cases e1:m=1
 ·subst e1;exact zfs w
 by_cases e2:m=2
 ·subst e2;exact zft w
 by_cases e3:m=3
 ·subst e3;exact zfu w
 by_cases e4:m=4
 ·subst e4;exact zfv w
 by_cases e5:m=5
 ·subst e5;exact zfw w
 by_cases e6:m=6
 ·subst e6;exact zfx w
 by_cases e7:m=7
 ·subst e7;exact zfy w
 by_cases e8:m=8
 ·subst e8;exact zfz w
 by_cases e9:m=9
 ·subst e9;exact zfA w
 by_cases e10:m=10
 ·subst e10;exact zfB w
 by_cases e11:m=11
 ·subst e11;exact zfC w
 by_cases e12:m=12
 ·subst e12;exact zfD w
 by_cases e13:m=13
 ·subst e13;exact zfE w
 by_cases e14:m=14
 ·subst e14;exact zfF w
 have h15:15<=m:=by omega
 have e:YD (Xz m)=⟨#[]⟩:=by
  unfold Xz
  repeat' (rw[if_neg (by omega)])
  rfl
 rw[e];exact zfG w m h15
end
def wF(B g:Nat)(W W':World):Prop:=W'.heap[B]?=W.heap[B]?/\W'.heap[g]?=W.heap[g]?
theorem Uk{B g:Nat}{X Y Z:World}(h:wF B g X Y)(k:wF B g Y Z):wF B g X Z:=⟨k.1.trans h.1,k.2.trans h.2⟩
theorem zfH(B g:Nat)(X:World):wF B g X X:=⟨rfl,rfl⟩
theorem zfn{B g:Nat}{w:World}(hB:B<w.heap.size)(hg:g<w.heap.size)(W:World)(l:Nat)(o o':Obj)(hl:w.heap.size<=l)(h:W.heap[l]?=some o)(_:o.isCells=false)(_:o.isWalk=false):wF B g W (W.putObj l o'):=
 ⟨(grownBy_putObj' W l o').block B (by have:=(Array.getElem?_eq_some_iff.1 h).1;omega) (λe=>by cases e;omega),
  (grownBy_putObj' W l o').block g (by have:=(Array.getElem?_eq_some_iff.1 h).1;omega) (λe=>by cases e;omega)⟩
theorem zfI(st:List Fr){k:Nat}{x:Fr}(h:st[k]?=some x):st.take (k+1)=st.take k++ [x]:=by
 rw[List.take_add_one,h];rfl
theorem zfJ(n:Nat)(hn:1<=n)(l Bn g cap:Nat)(st:List Fr)(hreach:st.length<=1000)(J Jx:List Fr->World->Prop)
 (hY:∀pre (x:Fr) W,J pre W->pre.length<st.length->YieldAt Fence.wide (n-1) prog l #[.agg #[.int .i64 (x.1:Int),.int .i64 (x.2:Int)]] W λe W'=>
   (e=.returned (.bool true)/\J (pre++ [x]) W'/\wF Bn g W W')\/(e=.returned (.bool false)/\Jx (pre++ [x]) W'))
 (W:World)(hBs:zf W Bn #[.slice (some ⟨g,0,none⟩) st.length cap] 150)(hc:Fw W g cap st.reverse)(h0:J [] W):
  CallsIn Fence.wide n prog 196 #[.func (.yield l) #[] #[],.pointer (some ⟨Bn,0,none⟩)] W λe W'=>(∃v,e=.returned v)/\
   ((∃ys,ys=st/\J ys W')\/(∃pre,pre<+:st/\Jx pre W')):=by
 have hro:Fence.wide.round=none:=rfl;have hfn:Fence.wide.fn 196:=trivial;obtain⟨z,hz⟩:∃z,st.length=z:=⟨_,rfl⟩;rw[hz]at hreach hBs;have HBS:=hid hBs;have HC:=hid hc;have HZ:=hid hz;have hcb:=hBs.cell 0;simp at hcb;have e0:IntKind.i64.wrap ((z:Int)-1)=(z:Int)-1:=by rw[IntWalk.i64_in _ (by omega)]
 clear hBs hc hz;refine callsIn_of_wp func196 rfl hfn ?_ hro;simp only[ntmps196,List.size_toArray,List.length_cons,List.length_nil,Nat.reduceAdd,Nat.reduceSub,Array.replicate_succ,Array.replicate_zero,List.push_toArray,List.append_toArray,List.nil_append,List.cons_append]
 gi_wp2
 clear hcb e0
 gi_loopw [3] (λi wr=>∃k:Nat,k<=z/\i=.int .i64 ((z:Int)-1-k)/\J (st.take k) wr/\wF Bn g W wr) (λi _=>(intOf i+1).toNat)
 case atStart=>exact⟨0,Nat.zero_le _,by simp,h0,zfH _ _ _⟩
 case round=>
  obtain⟨k,hk,rfl,hJs,hnx⟩:=hrel;by_cases hlt:k<z
  ·have hlen:=HZ.out
   obtain⟨d,hd⟩:∃d:Nat,z=d+1+k:=⟨z-1-k,by omega⟩;have ei:(z:Int)-1-k=(d:Int):=by omega
   obtain⟨x,hx⟩:∃x,st[k]?=some x:=⟨_,List.getElem?_eq_getElem (by omega)⟩;have hxr:st.reverse[d]?=some x:=by
    rw[List.getElem?_reverse (by omega),show st.length-1-d=k by omega];exact hx
   have hblk:zf wr Bn #[.slice (some ⟨g,0,none⟩) z cap] 150:=Eq.trans hnx.1 HBS.out;have hfw:Fw wr g cap st.reverse:=by
    obtain⟨cs,h1,h2⟩:=HC.out;exact⟨cs,Eq.trans hnx.2 h1,h2⟩
   obtain⟨c1,c2⟩:=hfw.cell hxr;have hcb:=hblk.cell 0;simp at hcb;have hdz:(d:Int)<(z:Int):=by omega
   have hd0:(0:Int)<=(d:Int):=by omega
   obtain⟨fn,tmps,assign,body,hy,hR⟩:=hY _ x wr hJs (by rw[List.length_take];omega);have Uo:=zfI st hx;have e1:IntKind.i64.wrap ((d:Int)-1)=(d:Int)-1:=by rw[IntWalk.i64_in _ (by omega)]
   rw[ei];obtain⟨xm,xf⟩:=x;simp only at c1 c2 hy hR;have HX:=hid hx;have HD:=hid hd;have Ur:=hid Uo;clear hx hxr hd ei hlen Uo
   gi_wp2
   refine hR.mono ?_;rintro e W3 (⟨rfl,hJ3,hk3⟩|⟨rfl,hJx3⟩)
   ·gi_wp2
    go_roundw
    case rel=>exact⟨k+1,by omega,by have:=HD.out;first|(congr 1;omega)|(simp;omega),by rw[Ur.out];exact hJ3,Uk hnx hk3⟩
    case measure=>first|(simp[intOf];done)|(simp[intOf];omega)
   ·gi_wp2
    refine bodyPost_ret (results_none rfl _ _ _) rfl ?_;exact⟨⟨_,rfl⟩,.inr ⟨_,by rw[←Ur.out];exact List.take_prefix _ _,hJx3⟩⟩
  ·obtain rfl:k=z:=by omega
   have hneg:¬(0:Int)<=(k:Int)-1-k:=by omega
   gi_wp2
   go_end0
   exact⟨⟨_,rfl⟩,.inl (by have:=hJs;rwa [←HZ.out,List.take_length]at this)⟩
theorem zfl(n:Nat)(ao:Option Addr)(len cap:Nat)(w:World):
  CallsIn Fence.wide n prog 164 #[.slice ao len cap] w λe w'=>e=.returned (.func (.func 196) #[] #[.pointer (some ⟨w.heap.size,0,none⟩)])/\w'=w.alloc (.cells #[.slice ao len cap] 150):=by
 have hro:Fence.wide.round=none:=rfl;have hfn:Fence.wide.fn 164:=trivial;refine callsIn_of_wp func164 rfl hfn ?_ hro;simp only[ntmps164,List.size_toArray,List.length_cons,List.length_nil,Nat.reduceAdd,Nat.reduceSub,Array.replicate_succ,Array.replicate_zero,List.push_toArray,List.append_toArray,List.nil_append,List.cons_append]
 gi_wp2
 go_ret;exact⟨rfl,rfl⟩
theorem zfm(n:Nat)(hn:1<=n)(Bn g cap:Nat)(st:List Fr)(hreach:st.length<=1000)(w:World)(hBs:zf w Bn #[.slice (some ⟨g,0,none⟩) st.length cap] 150)(hc:Fw w g cap st.reverse):
  SeqStopsK Fence.wide n prog 196 #[.pointer (some ⟨Bn,0,none⟩)] (λx:Fr=> #[Value.agg #[.int .i64 (x.1:Int),.int .i64 (x.2:Int)]]) (wF Bn g) (λys=>ys=st) (λpre=>pre<+:st) st.length w:=λl J Jx W hW _ _ hY h0=>
 zfJ n hn l Bn g cap st hreach J Jx hY W (hBs.below hW) (hc.zh (zg.of_below (p:=λ_=>False) hW) (λh=>h)) h0
attribute [local go_sem] Oper.semAt_some
def lU(B:Nat)(x:List Value)(w:World):Prop:=Lib.IsBuilderF 155 5 B B x w
theorem zfd(B:Nat)(x:List Value)(s:ByteArray)(w:World)(h:lU B x w)(hl:x.length<=1000000)(hs:s.size<=1000000)(hB:B<=w.heap.size):
  Calls prog 165 #[.pointer (some ⟨B,0,none⟩),.string s] w λe w'=>e=.returned (.tuple #[.int .i64 s.size,.nilIface])/\lU B (x++Lib.strCells s) w'/\Below B w w'/\Lib.OthersKept 5 (some B) w w':=
 (Any.Builder_WriteString_k Bc Bg B B x s w h (by omega) hB).mono λ_ _ ⟨he,hb,hw,ho⟩=>⟨he,.inr hb,hw,ho⟩
theorem zfe{B:Nat}{x:List Value}{w:World}(h:lU B x w):∃p v,w.heap[B]?=some (.cells #[p,v] 155 (0,0)):=by
 rcases h with⟨_,v,hb,_⟩|⟨_,v,hb,_⟩
 ·exact⟨_,v,hb⟩
 ·exact⟨_,v,hb⟩
theorem zff{B C:Nat}{x:List Value}{w w':World}(hb:lU B x w)(h:Lib.OthersKept 5 (some B) w w')(hs:w.heap.size<=w'.heap.size):KeepsFrom C w w':=
 ⟨hs,λk o _ hk ho=>h k o hk (λe=>by
  obtain⟨p,v,hp⟩:=zfe hb;have e':k=B:=by simpa using e
  rw[e',hp]at hk;cases hk;cases ho) (λc fz e=>by subst e;cases ho)⟩
theorem Ui{B b:Nat}{w w':World}{cs:Array Value}{t:TypeId}(h:zf w b cs t)(hk:Lib.OthersKept 5 (some B) w w')(hb:b≠B)(ht:t≠5):w'.heap[b]?=w.heap[b]?:=by
 rw[show w.heap[b]?=_ from h];exact hk b _ h (λe=>hb (by simpa using e)) (λc fz e=>by injection e with _ e2;exact ht e2)
theorem BB{β:Type}(B:Nat)(f:β->List Value):Own (fun(s:β) W=>lU B (f s) W):=by
 intro s X Y row h hg hr;have kb:∀(v p:Value),X.heap[B]?=some (.cells #[p,v] 155 (0,0))->Y.heap[B]?=some (.cells #[p,v] 155 (0,0)):=λv p hp=>
  (hg.block B (Array.getElem?_eq_some_iff.1 hp).1 (λe=>by
   obtain⟨o,ho,hc⟩:=hr B e.symm;rw[hp]at ho;cases ho;cases hc)).trans hp
 have kr:∀{v:Value} {n:Nat} {xs:List Value},X.ownsRowF B 5 1 v n xs->Y.ownsRowF B 5 1 v n xs:=by
  intro v n xs ho;refine ho.kept hg ?_;rcases hv:v.ownBlock with _|g
  ·exact .inl rfl
  ·refine .inr λe=>?_
   obtain⟨o,hob,hc⟩:=hr g e.symm;rcases ho.2 with⟨h1,_⟩|⟨g',cap,cur,fz,h1,_,h2,_⟩
   ·rw[h1]at hv;cases hv
   ·rw[h1]at hv
    have e':g'=g:=by simpa[Value.ownBlock]using hv
    subst e';rw[h2]at hob;cases hob;cases hc
 rcases h with⟨h0,v,h1,h2,h3⟩|⟨h0,v,h1,h2,h3⟩
 ·exact .inl ⟨h0,v,kb _ _ h1,kr h2,h3⟩
 ·exact .inr ⟨h0,v,kb _ _ h1,kr h2,h3⟩
theorem Uj{β:Type}(b:Nat)(cs:Array Value)(t:TypeId):Own (fun(_:β) W=>zf W b cs t):=by
 intro s X Y row h hg hr;exact h.grown hg (λe=>by
  obtain⟨o,ho,hc⟩:=hr b e.symm;rw[show X.heap[b]?=_ from h]at ho;cases ho;cases hc)
theorem zfg{β:Type}(g cap:Nat)(l:List Fr):Own (fun(_:β) W=>Fw W g cap l):=by
 rintro s X Y row ⟨cs,h1,h2⟩ hg hr;exact⟨cs,Uj (β:=Unit) g cs _ () X Y row h1 hg hr,h2⟩
theorem zfh(pre:List Fr)(x:Fr):ZN (pre++ [x])=ZN pre++Xz x.1:=by simp[ZN]
theorem zfi(l k:List UInt8):Lib.strCells (YD (l++k))=Lib.strCells (YD l)++Lib.strCells (YD k):=by simp[Lib.strCells,YD]
theorem zfj(n:Nat)(hn:3<=n)(s:ByteArray)(hs:s.size<=900)(w:World):
  CallsIn Fence.wide n prog 132 #[.string s] w λe W'=>e=.returned (.string (YD (ZN (zU s s.size).st)))/\Below w.heap.size w W':=by
 have h1:1<=n:=by omega
 have hro:Fence.wide.round=none:=rfl;have h50:Fence.wide.fn 196:=trivial;have f11:Fence.wide.fn 163:=trivial;have f34:Fence.wide.fn 164:=trivial;have f36:Fence.wide.fn 166:=trivial;have f35:Fence.wide.fn 165:=trivial;have f37:Fence.wide.fn 167:=trivial;have hrun:=(callsIn_wide (n:=n-1)).2 (zfk w s (by omega));have hlen:=gQ s s.size;obtain⟨x,hx⟩:∃x,zU s s.size=x:=⟨_,rfl⟩;rw[hx]at hlen hrun ⊢;clear hx;refine callsIn_of_wp_marks func132 rfl trivial ?_ hro;simp only[ntmps132,List.size_toArray,List.length_cons,List.length_nil,Nat.reduceAdd,Nat.reduceSub,Array.replicate_succ,Array.replicate_zero,List.push_toArray,List.append_toArray,List.nil_append,List.cons_append]
 gi_wp2_with fail
 refine hrun.mono ?_;rintro e w1 ⟨⟨v,rfl,hRs⟩,hb1⟩;obtain⟨g,XA,hv,hg,hF⟩:=hRs;rw[List.length_reverse]at hv;subst hv
 gi_wp2_with fail
 refine(zfl (n-1) _ _ _ _).mono ?_;rintro e w2 ⟨rfl,rfl⟩
 gi_wp2
 have hgl:=hF.lt;have hs1:=hb1.size;have bB:lU w1.heap.size [] ((w1.alloc (.cells #[.pointer none,.slice none 0 0] 155)).alloc (.cells #[.slice (some ⟨g,0,none⟩) x.st.length XA] 150)):=
  BB (β:=Unit) w1.heap.size (λ_=> []) () _ _ none (Lib.IsBuilderF.of (Lib.fresh_isBuilder _ _ _)) (World.grownBy_alloc _ _ none) (λr e=>by cases e)
 have bS:=Bo w1 (.cells #[.pointer none,.slice none 0 0] 155) #[.slice (some ⟨g,0,none⟩) x.st.length XA] 150;have bF:=hF.zh (zg.of_below (p:=λ_=>False) (zy w1 (.cells #[.pointer none,.slice none 0 0] 155) (.cells #[.slice (some ⟨g,0,none⟩) x.st.length XA] 150))) (λh=>h);have hB0:Below w.heap.size w ((w1.alloc (.cells #[.pointer none,.slice none 0 0] 155)).alloc (.cells #[.slice (some ⟨g,0,none⟩) x.st.length XA] 150)):=hb1.trans ((zy w1 _ _).mono hs1);obtain⟨W0,hW0⟩:∃W0,(w1.alloc (.cells #[.pointer none,.slice none 0 0] 155)).alloc (.cells #[.slice (some ⟨g,0,none⟩) x.st.length XA] 150)=W0:=⟨_,rfl⟩;have hsz:W0.heap.size=w1.heap.size+2:=by rw[←hW0];exact Bq _ _ _
 rw[hW0]at bB bS bF hB0 ⊢;clear hW0;obtain⟨B,hB⟩:∃B,w1.heap.size=B:=⟨_,rfl⟩;rw[hB]at bB bS hsz hgl hs1 ⊢;refine wpIn_rangeFunc_ownH hro h1 (gf:=196) (lb:=#[.pointer (some ⟨B+1,0,none⟩)]) rfl h50 (enters_of func196 (by kernel_rfl) rfl)
  (zfm (n-1) (by omega) (B+1) g XA x.st (by omega) W0 bS bF) Uk (zfn (by omega) (by omega)) (Below.refl _ _) (λ_=>rfl)
  (λpre W=>lU B (Lib.strCells (YD (ZN pre))) W/\zf W (B+1) #[.slice (some ⟨g,0,none⟩) x.st.length XA] 150/\Fw W g XA x.st.reverse/\Below w.heap.size w W)
  (λ_ _ _=>False)
  (OwnFrom.and (Own.from (BB B (fun(pre:List Fr)=>Lib.strCells (YD (ZN pre)))) _) (OwnFrom.and (Own.from (Uj _ _ _) _) (OwnFrom.and (Own.from (zfg _ _ _) _) (ownFrom_below (Nat.le_refl _) (by omega)))))
  (λ_ _ _ _ _ hs _ _=>hs)
  ⟨bB,bS,bF,hB0⟩
  (λy a' W=>∃Bx,B+1<Bx/\W.heap[Bx]?=some (.cells #[.int .i64 (y.1:Int),.int .i64 (y.2:Int)] 160 (0,0))/\a'={tmps:=#[.string s,undef,.string ⟨#[]⟩,.slice (some ⟨g,0,none⟩) x.st.length XA,.bool x.fresh,.pointer (some ⟨B,0,none⟩),.pointer (some ⟨Bx,0,none⟩),.tuple #[.slice (some ⟨g,0,none⟩) x.st.length XA,.bool x.fresh],.string s,.tuple #[.slice (some ⟨g,0,none⟩) x.st.length XA,.bool x.fresh],.slice (some ⟨g,0,none⟩) x.st.length XA,.bool x.fresh,.slice (some ⟨g,0,none⟩) x.st.length XA,.func (.func 196) #[] #[.pointer (some ⟨B+1,0,none⟩)],.agg #[.int .i64 (y.1:Int),.int .i64 (y.2:Int)],undef,undef,undef,undef,undef],defers:=[]})
  (λy a' _ X Y row hs hg hr=>by
   obtain⟨Bx,h1,h2,h3⟩:=hs;refine⟨Bx,h1,(hg.block Bx (Array.getElem?_eq_some_iff.1 h2).1 (λe=>?_)).trans h2,h3⟩;obtain⟨o,ho,hoc⟩:=(hr Bx e.symm).2;rw[h2]at ho;cases ho;cases hoc)
  ?assign ?body ?done ?stop
 case assign=>
  rintro l pre y W K ⟨hb,hS,hf,hBw⟩ hK
  gi_wp2
  have Ul:=hS.lt;refine hK _ _ ((KeepsOthers.alloc _ _).from _) ⟨(hS.alloc _).trans hS.symm,?_⟩ ⟨BB (β:=Unit) B (λ_=>Lib.strCells (YD (ZN pre))) () _ _ none hb (World.grownBy_alloc _ _ none) (λr e=>by cases e),hS.alloc _,hf.zh ((zg.refl (λ_=>False) W).alloc _) (λh=>h),hBw.alloc hBw.size _⟩ ⟨W.heap.size,by omega,World.alloc_heap_new W _,rfl⟩;exact Below.heap_alloc W _ g hf.lt
 case body=>
  rintro l pre y a' W hl ⟨r,hr⟩ ⟨hb,hS,hf,hBw⟩ ⟨Bx,hBx,bX,rfl⟩ hlt;have x0:=cell_of_row W Bx 0 _ _ _ bX;simp at x0;have Ul:=hS.lt;have hcl:=zfo pre;have hc2:=Um y.1;have hsh:=zfp W y.1;have hws:=zfd B _ (YD (Xz y.1)) W hb (by rw[Lib.strCells_length,Un];omega) (by rw[Un];omega) (by omega);obtain⟨c,hc⟩:∃c,YD (Xz y.1)=c:=⟨_,rfl⟩;rw[hc]at hsh hws;have HC:=Lib.hid hc;clear hc
  gi_wp2_with fail
  refine⟨λ_=>by omega,((callsIn_wide.2 hsh).inRound l).mono ?_⟩;rintro e w2 ⟨rfl,rfl⟩
  gi_wp2_with fail
  refine⟨λ_=>by omega,((callsIn_wide.2 hws).inRound l).mono ?_⟩;rintro e w3 ⟨rfl,hb3,hB3,ho3⟩
  gi_wp2
  have k1:=Ui hS ho3 (by omega) (by decide);obtain⟨cs,hg1,hg2⟩:=hf;have k2:=Ui hg1 ho3 (by omega) (by decide);refine⟨zff hb ho3 hB3.size,⟨k1,k2⟩,?_,Eq.trans k1 hS,⟨cs,Eq.trans k2 hg1,hg2⟩,hBw.trans (hB3.mono (by omega))⟩;rw[zfh,zfi,HC.out];exact hb3
 case done=>
  rintro D ys W hD rfl ⟨hb,hS,hf,hBw⟩ hK;have Ul:=hS.lt;have hstr:=Tryz.Builder_String_any_k B B (YD (ZN x.st)).data.toList W hb (by omega)
  gi_wp2_with fail
  refine(callsIn_wide.2 hstr).mono ?_;rintro e W2 ⟨rfl,hb2,hB2,ho2⟩;have hK2:=ho2 D _ hK (λe=>by injection e with e';omega) (λc fz e=>by cases e)
  gi_wp2
  refine⟨by simp,.inl ⟨_,_,rfl,run_takeDeferred hK2,?_⟩⟩;exact⟨_,results_tmp rfl _ _ _,rfl,(hBw.trans (hB2.mono (by omega))).trans (belowK_b (w:=w) (Nat.le_refl _) W2 D _ _ (by omega) hK2 rfl rfl)⟩
 case stop=>
  rintro D c pre W _ _ h _;exact h.elim
theorem zfq(s:ByteArray)(hs:s.size<=900)(w:World):
  Calls prog 132 #[.string s] w λe W'=>e=.returned (.string (YD (ZN (zU s s.size).st)))/\Below w.heap.size w W':=
 (callsIn_wide (n:=3)).1 (zfj 3 (Nat.le_refl _) s hs w)
end Go.Proofs.YtkolpaonccmgiaaGreatDoor

/- What Ahead of a Doc of layer 10 (relex) returns, a -/
import Derived.Test.YtdjcidackkogjaaGreatDoorRh
namespace Go.Proofs.YtdjcidackkogjaaGreatDoor
set_option linter.unusedSectionVars false
set_option linter.unusedVariables false
open Lib(hid)
set_option maxHeartbeats 8000000
set_option maxRecDepth 100000
open Go.RowKit
def SeI(w:World)(n:Nat)(p:Nat→Bool)(v5 v6:Value)(wr:World):Prop:=
 ∃i j:Nat,i≤j∧j≤n∧v5=.int .i64 (i:Int)∧v6=.int .i64 (j:Int)∧(∀k,k<i→p k=false)∧(∀k,j≤k→k<n→p k=true)∧Below w.heap.size w wr
theorem zaz(w:World)(a c:Addr)(n:Nat)(hn:n≤1000000)(p:Nat→Bool)(hmono:∀i j,i≤j→j<n→p i=true→p j=true)
 (hc:∀W h,Below w.heap.size w W→h<n→Calls Tryz.prog 43 #[.int .i64 (h:Int),.pointer (some a),.pointer (some c)] W λe w'=>e=.returned (.bool (p h))∧Below W.heap.size W w'):
  Calls Tryz.prog 42 #[.int .i64 (n:Int),.func (.func 43) #[] #[.pointer (some a),.pointer (some c)]] w λe w'=>∃k:Nat,e=.returned (.int .i64 (k:Int))∧k≤n∧(∀i,i<k→p i=false)∧(∀i,k≤i→i<n→p i=true)∧Below w.heap.size w w':=by
 have HC:=hid hc;have HM:=hid hmono;clear hc hmono;go_enter Tryz.func42,Tryz.ntmps42;go_wp2
 go_loopw [5,6] (λv5 v6 wr=>SeI w n p v5 v6 wr) (λv5 v6 _=>(intOf v6).toNat-(intOf v5).toNat)
 case atStart=>exact⟨0,n,Nat.zero_le _,Nat.le_refl _,rfl,rfl,λk hk=>by omega,λk h1 h2=>by omega,Below.refl _ _⟩
 case round=>
  obtain⟨i,j,hij,hjn,rfl,rfl,hlo,hhi,hB⟩:=hrel;have XB:=hid hlo;have WC:=hid hhi;have HB:=hid hB;clear hlo hhi hB;by_cases hlt:i<j
  ·have q1:(i:Int)<(j:Int):=by omega
   obtain⟨m,hm⟩:∃m,(i+j)/ 2=m:=⟨_,rfl⟩;have r1:IntKind.i64.wrap ((i:Int)+(j:Int))=((i+j:Nat):Int):=by rw[IntWalk.i64_in _ (by omega)];omega
   have hm1:i≤m∧m<j:=by omega
   have hmI:((i:Int)+(j:Int))/ 2=(m:Int):=by omega
   have YF:=hid hm;clear hm
   go_wp2_with fail
   refine(HC.out wr m HB.out (by omega)).mono ?_;rintro e w1 ⟨rfl,hb1⟩;have HB1:=hid (HB.out.trans (hb1.mono HB.out.size));clear hb1;obtain⟨P,hP⟩:∃P,p m=P:=⟨_,rfl⟩;have HP:=hid hP;rw[hP];clear hP
   cases P with
   |true=>
    go_wp2
    go_roundw
    case rel=>exact⟨i,m,hm1.1,by omega,rfl,rfl,XB.out,λk h1 h2=>HM.out m k h1 h2 HP.out,HB1.out⟩
    case measure=>simp[intOf];omega
   |false=>
    go_wp2
    go_roundw
    case rel=>
     refine⟨m+1,j,by omega,hjn,by go_num,rfl,λk hk=>?_,WC.out,HB1.out⟩;rcases Bool.eq_false_or_eq_true (p k)with h|h
     ·have:=HM.out k m (by omega) (by omega) h
      rw[HP.out]at this;cases this
     ·exact h
    case measure=>simp[intOf];omega
  ·have q1:¬(i:Int)<(j:Int):=by omega
   have hij':i=j:=by omega
   subst hij';go_wp2;go_ret;exact⟨i,rfl,hjn,XB.out,WC.out,HB.out⟩
theorem zl.inc{s:ByteArray}{D:List Dl}:∀{I:List (Tk×Mk)} {a b:Nat} {m n:Mk},zl s D a m I b n→∀(i j:Nat) q r,I[i]?=some q→I[j]?=some r→i<j→q.1.en≤r.1.zf
 | [],a,b,m,n,h,i,j,q,r,hi,_,_=>by cases hi
 |q0::I,a,b,m,n,⟨g1,g2,g3,u,g4,g5⟩,i,j,q,r,hi,hj,hij=>by
  match i,j,hi,hj,hij with
  |0,j+1,hi,hj,_=>
   have e:q0=q:=by simpa using hi
   subst e;exact(zl.sum g5 j r (by simpa using hj)).1
  |i+1,j+1,hi,hj,hij=>exact zl.inc g5 i j q r (by simpa using hi) (by simpa using hj) (by omega)
theorem zaA{W:World}{eb:Nat}{at':Nat}{d n:ByteArray}(h:zh W eb #[.int .i64 (at':Int),.string d,.string n] 35):W.cell? ⟨eb,0,none⟩=some (.int .i64 (at':Int))∧W.cell? ⟨eb,1,none⟩=some (.string d)∧W.cell? ⟨eb,2,none⟩=some (.string n):=⟨h.cell 0,h.cell 1,h.cell 2⟩
theorem zaB{ops:Array Oper}{o:Oper}{a:Act}{w:World}{K:Act→World→Prop}{Q:Exit→Act→World→Prop}{E:Prop}(hw:Region.wanted o (yielded ops a.tmps)=true){f:FuncId}{fn:Func}(hf:Tryz.prog.funcs[f]?=some fn)(hname:(fn.name== "runtime.NumGoroutine")=false)(hb:fn.body.isSome=true)(c:Operand)(args:List Operand)(rF:Array TypeId)
 (ho:o.op=.call {callee:=.value c,args:=args.toArray,argTypes:=rF}){env:Array Value}(hfv:a.eval c=.func (.func f) #[] env)(vs:List Value)(hv:args.map a.eval=vs)(all:Array Value)(hall:vs.toArray++env=all)(R:Value→World→Prop)
 (hc:Calls Tryz.prog f all w λe w'=>∃v,e=.returned v∧R v w')(h:∀v w',R v w'→K (a.put o.dst v) w'):
  if Region.wanted o (yielded ops a.tmps)=true then Oper.wp Tryz.prog o a w K Q else E:=by
 subst hall;rw[if_pos hw];unfold Oper.wp execOp;simp only[ho,resolve,List.map_toArray,hv,hfv,Deferred.ofValue,invoke,Sem.run_bind,Sem.run_pure,Result.andThen_ok,Array.empty_append,PT hf hname hb];rw[Oper.upon_enter];refine hc.mono ?_;rintro e w' ⟨v,rfl,hr⟩;exact h v w' hr
def qM(at' dl:Nat)(t:Tk):Bool:=decide (at'<t.en+2)
def Jv(I:List (Tk×Mk))(at' dl k:Nat):Bool:=match I[k]? with
 |some q=>qM at' dl q.1
 |none=>true
section
variable(w:World)(at':Nat)(d n:ByteArray)(eb:Nat)(he:zh w eb #[.int .i64 (at':Int),.string d,.string n] 35)(ha:at'≤1000000)(hd:d.size≤1000000)
include he ha hd
theorem zjz(t:Tk):Calls Tryz.prog 31 #[yJ t,.pointer (some ⟨eb,0,none⟩)] w λe w'=>e=.returned (.bool (qM at' d.size t))∧Below w.heap.size w w':=by
 obtain⟨tk,tf,te,top⟩:=t;unfold yJ qM;dsimp only;have kb:=zh.new w #[.int .i64 (tk:Int),.int .i64 (tf:Int),.int .i64 (te:Int),.bool top] 44;have a1:=kb.cell 1;have a2:=kb.cell 2;have hB:=(Below.refl w.heap.size w).alloc (Nat.le_refl _) (.cells #[.int .i64 (tk:Int),.int .i64 (tf:Int),.int .i64 (te:Int),.bool top] 44);obtain⟨d0,d1,d2⟩:=zaA (he.below hB);have r1:IntKind.i64.wrap ((at':Int)-2)=(at':Int)-2:=IntWalk.i64_in _ (by omega);clear he kb;by_cases hc:(at':Int)-2<(te:Int)
 ·have hc2:=hc
  go_enter Tryz.func31,Tryz.ntmps31;go_wp2;go_ret;exact⟨by first|(simp;done)|(simp;omega),hB⟩
 ·have hc2:=hc
  go_enter Tryz.func31,Tryz.ntmps31;go_wp2;go_ret;exact⟨by first|(simp;done)|(simp;omega),hB⟩
end
section
variable(w:World)(b:Nat)(s:ByteArray)(I:List (Tk×Mk))(E:Mk)(D:List Dl)(oi:Option Addr)(ni ci:Nat)(od:Option Addr)(nd cd:Nat)(hV:jH w b s I E D oi ni ci od nd cd)
 (at':Nat)(d n:ByteArray)(eb:Nat)(he:zh w eb #[.int .i64 (at':Int),.string d,.string n] 35)(ha:at'≤1000000)(hd:d.size≤1000000)
include hV he ha hd
theorem zjA(ab cb:Nat)(h:Nat)(hh:h<ni)(kA:zh w ab #[.func (.func 31) #[] #[.pointer (some ⟨eb,0,none⟩)]] 74)(kC:zh w cb #[.pointer (some ⟨b,0,none⟩)] 25):
  Calls Tryz.prog 43 #[.int .i64 (h:Int),.pointer (some ⟨ab,0,none⟩),.pointer (some ⟨cb,0,none⟩)] w λe w'=>e=.returned (.bool (Jv I at' d.size h))∧Below w.heap.size w w':=by
 have hln:=hV.its.len;have hg:I[h]?=some (I[h]'(by omega)):=List.getElem?_eq_getElem _;generalize I[h]'(by omega)=q at hg;have hps:Jv I at' d.size h=qM at' d.size q.1:=by unfold Jv;rw[hg]
 rw[hps];have dJ:=hid (λW (hW:Below w.heap.size w W)=>(zjz W at' d n eb (he.below hW) ha hd q.1).mono (λe w' h=>(⟨_,h.1,rfl,h.2⟩:∃v,e=.returned v∧(v=.bool (qM at' d.size q.1)∧Below W.heap.size W w'))));generalize qM at' d.size q.1=P at*;obtain⟨g1,o1,rfl,h1,hit⟩:=hV.its.cells h q hg;have a1:=hV.blk.cell 1;have x0:=kA.cell 0;have y0:=kC.cell 0;obtain⟨⟨tk,tf,te,top⟩,m⟩:=q;have c0:=hit.c0;have c1:=hit.c1;have c2:=hit.c2;have c3:=hit.c3;unfold yJ at dJ;dsimp only at*;have q0:(0:Int)≤(h:Int):=by omega
 have q1:(h:Int)<(ni:Int):=by omega
 have kd:=hV.blk;have hkp:∀W,Below w.heap.size w W→W.cell? ⟨b,1,none⟩=some (.slice (some ⟨g1,o1,none⟩) ni ci)∧W.cell? ⟨ab,0,none⟩=some (.func (.func 31) #[] #[.pointer (some ⟨eb,0,none⟩)])∧W.cell? ⟨cb,0,none⟩=some (.pointer (some ⟨b,0,none⟩))∧W.cell? ⟨g1,o1+h*8,none⟩=some (.int .i64 (tk:Int))∧W.cell? ⟨g1,o1+h*8+1,none⟩=some (.int .i64 (tf:Int))∧W.cell? ⟨g1,o1+h*8+2,none⟩=some (.int .i64 (te:Int))∧W.cell? ⟨g1,o1+h*8+3,none⟩=some (.bool top):=λW hW=>⟨(kd.below hW).cell 1,(kA.below hW).cell 0,(kC.below hW).cell 0,(hW.cell (p:=⟨g1,_,none⟩) h1).trans c0,(hW.cell (p:=⟨g1,_,none⟩) h1).trans c1,(hW.cell (p:=⟨g1,_,none⟩) h1).trans c2,(hW.cell (p:=⟨g1,_,none⟩) h1).trans c3⟩;have yS:=hid hkp;have e0:=hkp _ (Below.refl w.heap.size w).drew;clear hV he kA kC hit hg hps hln a1 x0 y0 c0 c1 c2 c3 kd hkp;go_enter Tryz.func43,Tryz.ntmps43
 go_upto_region 1 with fail
 go_region_held_law (λW=>W.cell? ⟨b,1,none⟩=some (.slice (some ⟨g1,o1,none⟩) ni ci)∧W.cell? ⟨ab,0,none⟩=some (.func (.func 31) #[] #[.pointer (some ⟨eb,0,none⟩)])∧W.cell? ⟨cb,0,none⟩=some (.pointer (some ⟨b,0,none⟩))∧W.cell? ⟨g1,o1+h*8,none⟩=some (.int .i64 (tk:Int))∧W.cell? ⟨g1,o1+h*8+1,none⟩=some (.int .i64 (tf:Int))∧W.cell? ⟨g1,o1+h*8+2,none⟩=some (.int .i64 (te:Int))∧W.cell? ⟨g1,o1+h*8+3,none⟩=some (.bool top)) (with_reducible (first|exact e0|exact s4)) ((refine zaB (by rfl) Tryz.func31 (by kernel_rfl) (by kernel_rfl) (.tmp 5) [.tmp 13] _ (by rfl) (env:=#[.pointer (some ⟨eb,0,none⟩)]) (by rfl) [.agg #[.int .i64 (tk:Int),.int .i64 (tf:Int),.int .i64 (te:Int),.bool top]] (by rfl) #[.agg #[.int .i64 (tk:Int),.int .i64 (tf:Int),.int .i64 (te:Int),.bool top],.pointer (some ⟨eb,0,none⟩)] (by rfl) _ (dJ.out w.drew (Below.refl _ _).drew) ?_;intro v w4 hh;obtain⟨hv4,hb4⟩:=hh;subst hv4;have zA:Below w.heap.size w w4:=(Below.refl w.heap.size w).drew.trans hb4;have s4:=yS.out _ zA))
 all_goals
  go_wp2;go_ret;exact⟨by first|rfl|simp,zA⟩
theorem zhX:Calls Tryz.prog 30 #[.pointer (some ⟨b,0,none⟩),.func (.func 31) #[] #[.pointer (some ⟨eb,0,none⟩)]] w λe w'=>∃k:Nat,e=.returned (.int .i64 (k:Int))∧k≤ni∧(∀i q,i<k→I[i]?=some q→qM at' d.size q.1=false)∧(∀i q,k≤i→I[i]?=some q→qM at' d.size q.1=true)∧Below w.heap.size w w':=by
 have hln:=hV.its.len;have hle:=YN w b s I E D oi ni ci od nd cd hV;have hsz:=hV.sz;obtain⟨W0,hW0⟩:∃Z,(w.alloc (.cells #[.pointer (some ⟨b,0,none⟩)] 25)).alloc (.cells #[.func (.func 31) #[] #[.pointer (some ⟨eb,0,none⟩)]] 74)=Z:=⟨_,rfl⟩;have hB0:Below w.heap.size w W0:=by rw[←hW0];exact jd w _ _
 have kC:zh W0 w.heap.size #[.pointer (some ⟨b,0,none⟩)] 25:=by rw[←hW0];exact(zh.new w _ _).alloc _
 have kA:zh W0 (w.heap.size+1) #[.func (.func 31) #[] #[.pointer (some ⟨eb,0,none⟩)]] 74:=by rw[←hW0];exact xU w _ _ _
 have hmono:∀i j,i≤j→j<ni→Jv I at' d.size i=true→Jv I at' d.size j=true:=λi j hij hj hp=>by
  rcases Nat.lt_or_ge i j with g|g
  ·have h1:I[i]?=some (I[i]'(by omega)):=List.getElem?_eq_getElem _
   have h2:I[j]?=some (I[j]'(by omega)):=List.getElem?_eq_getElem _;generalize I[i]'(by omega)=q1 at h1;generalize I[j]'(by omega)=q2 at h2;have h3:=zl.inc hV.path i j q1 q2 h1 h2 g;have h4:=(zl.sum hV.path i q1 h1).2.1;have h5:=(zl.sum hV.path j q2 h2).2.1;unfold Jv at hp ⊢;rw[h1]at hp;rw[h2];unfold qM at hp ⊢;dsimp only at hp ⊢;rw[decide_eq_true_eq]at hp ⊢;omega
  ·have e:i=j:=by omega
   rw[←e];exact hp
 have BK:=hid (zaz W0 ⟨w.heap.size+1,0,none⟩ ⟨w.heap.size,0,none⟩ ni (by omega) (Jv I at' d.size) hmono (λW h hW hh=>zjA W b s I E D oi ni ci od nd cd ((hV.below hB0).below hW) at' d n eb ((he.below hB0).below hW) ha hd (w.heap.size+1) w.heap.size h hh (kA.below hW) (kC.below hW)));have a1:=(hV.blk.below hB0).cell 1;have y0:=kC.cell 0;have HW0:=hid hW0;have HB0:=hid hB0;have uo:=hid hln;rw[←hW0]at a1 y0;clear hV he kC kA hmono hB0 hln hle hsz hW0;go_enter Tryz.func30,Tryz.ntmps30
 go_wp2_with fail
 rw[HW0.out];refine(BK.out).mono ?_;rintro e w1 ⟨k,rfl,hk,hlo,hhi,hb1⟩;have XB:=hid hlo;have WC:=hid hhi;clear hlo hhi;go_wp2;go_ret;refine⟨k,rfl,hk,λi q hi hq=>?_,λi q hi hq=>?_,HB0.out.trans (hb1.mono HB0.out.size)⟩
 ·have:=XB.out i hi
  unfold Jv at this;rw[hq]at this;exact this
 ·have hl:=(List.getElem?_eq_some_iff.1 hq).1
  have:=WC.out i hi (by have:=uo.out;omega);unfold Jv at this;rw[hq]at this;exact this
end
def qN(at' dl:Nat)(t:Tk):Bool:=decide (at'+dl≤t.zf)
def Jw(I:List (Tk×Mk))(at' dl k:Nat):Bool:=match I[k]? with
 |some q=>qN at' dl q.1
 |none=>true
section
variable(w:World)(at':Nat)(d n:ByteArray)(eb:Nat)(he:zh w eb #[.int .i64 (at':Int),.string d,.string n] 35)(ha:at'≤1000000)(hd:d.size≤1000000)
include he ha hd
theorem zjB(t:Tk):Calls Tryz.prog 46 #[yJ t,.pointer (some ⟨eb,0,none⟩)] w λe w'=>e=.returned (.bool (qN at' d.size t))∧Below w.heap.size w w':=by
 obtain⟨tk,tf,te,top⟩:=t;unfold yJ qN;dsimp only;have kb:=zh.new w #[.int .i64 (tk:Int),.int .i64 (tf:Int),.int .i64 (te:Int),.bool top] 44;have a1:=kb.cell 1;have a2:=kb.cell 2;have hB:=(Below.refl w.heap.size w).alloc (Nat.le_refl _) (.cells #[.int .i64 (tk:Int),.int .i64 (tf:Int),.int .i64 (te:Int),.bool top] 44);obtain⟨d0,d1,d2⟩:=zaA (he.below hB);have r1:IntKind.i64.wrap ((at':Int)+(d.size:Int))=(at':Int)+(d.size:Int):=IntWalk.i64_in _ (by omega);clear he kb;by_cases hc:(at':Int)+(d.size:Int)≤(tf:Int)
 ·have hc2:=hc
  go_enter Tryz.func46,Tryz.ntmps46;go_wp2;go_ret;exact⟨by first|(simp;done)|(simp;omega),hB⟩
 ·have hc2:=hc
  go_enter Tryz.func46,Tryz.ntmps46;go_wp2;go_ret;exact⟨by first|(simp;done)|(simp;omega),hB⟩
end
section
variable(w:World)(b:Nat)(s:ByteArray)(I:List (Tk×Mk))(E:Mk)(D:List Dl)(oi:Option Addr)(ni ci:Nat)(od:Option Addr)(nd cd:Nat)(hV:jH w b s I E D oi ni ci od nd cd)
 (at':Nat)(d n:ByteArray)(eb:Nat)(he:zh w eb #[.int .i64 (at':Int),.string d,.string n] 35)(ha:at'≤1000000)(hd:d.size≤1000000)
include hV he ha hd
theorem zjC(ab cb:Nat)(h:Nat)(hh:h<ni)(kA:zh w ab #[.func (.func 46) #[] #[.pointer (some ⟨eb,0,none⟩)]] 74)(kC:zh w cb #[.pointer (some ⟨b,0,none⟩)] 25):
  Calls Tryz.prog 43 #[.int .i64 (h:Int),.pointer (some ⟨ab,0,none⟩),.pointer (some ⟨cb,0,none⟩)] w λe w'=>e=.returned (.bool (Jw I at' d.size h))∧Below w.heap.size w w':=by
 have hln:=hV.its.len;have hg:I[h]?=some (I[h]'(by omega)):=List.getElem?_eq_getElem _;generalize I[h]'(by omega)=q at hg;have hps:Jw I at' d.size h=qN at' d.size q.1:=by unfold Jw;rw[hg]
 rw[hps];have dJ:=hid (λW (hW:Below w.heap.size w W)=>(zjB W at' d n eb (he.below hW) ha hd q.1).mono (λe w' h=>(⟨_,h.1,rfl,h.2⟩:∃v,e=.returned v∧(v=.bool (qN at' d.size q.1)∧Below W.heap.size W w'))));generalize qN at' d.size q.1=P at*;obtain⟨g1,o1,rfl,h1,hit⟩:=hV.its.cells h q hg;have a1:=hV.blk.cell 1;have x0:=kA.cell 0;have y0:=kC.cell 0;obtain⟨⟨tk,tf,te,top⟩,m⟩:=q;have c0:=hit.c0;have c1:=hit.c1;have c2:=hit.c2;have c3:=hit.c3;unfold yJ at dJ;dsimp only at*;have q0:(0:Int)≤(h:Int):=by omega
 have q1:(h:Int)<(ni:Int):=by omega
 have kd:=hV.blk;have hkp:∀W,Below w.heap.size w W→W.cell? ⟨b,1,none⟩=some (.slice (some ⟨g1,o1,none⟩) ni ci)∧W.cell? ⟨ab,0,none⟩=some (.func (.func 46) #[] #[.pointer (some ⟨eb,0,none⟩)])∧W.cell? ⟨cb,0,none⟩=some (.pointer (some ⟨b,0,none⟩))∧W.cell? ⟨g1,o1+h*8,none⟩=some (.int .i64 (tk:Int))∧W.cell? ⟨g1,o1+h*8+1,none⟩=some (.int .i64 (tf:Int))∧W.cell? ⟨g1,o1+h*8+2,none⟩=some (.int .i64 (te:Int))∧W.cell? ⟨g1,o1+h*8+3,none⟩=some (.bool top):=λW hW=>⟨(kd.below hW).cell 1,(kA.below hW).cell 0,(kC.below hW).cell 0,(hW.cell (p:=⟨g1,_,none⟩) h1).trans c0,(hW.cell (p:=⟨g1,_,none⟩) h1).trans c1,(hW.cell (p:=⟨g1,_,none⟩) h1).trans c2,(hW.cell (p:=⟨g1,_,none⟩) h1).trans c3⟩;have yS:=hid hkp;have e0:=hkp _ (Below.refl w.heap.size w).drew;clear hV he kA kC hit hg hps hln a1 x0 y0 c0 c1 c2 c3 kd hkp;go_enter Tryz.func43,Tryz.ntmps43
 go_upto_region 1 with fail
 go_region_held_law (λW=>W.cell? ⟨b,1,none⟩=some (.slice (some ⟨g1,o1,none⟩) ni ci)∧W.cell? ⟨ab,0,none⟩=some (.func (.func 46) #[] #[.pointer (some ⟨eb,0,none⟩)])∧W.cell? ⟨cb,0,none⟩=some (.pointer (some ⟨b,0,none⟩))∧W.cell? ⟨g1,o1+h*8,none⟩=some (.int .i64 (tk:Int))∧W.cell? ⟨g1,o1+h*8+1,none⟩=some (.int .i64 (tf:Int))∧W.cell? ⟨g1,o1+h*8+2,none⟩=some (.int .i64 (te:Int))∧W.cell? ⟨g1,o1+h*8+3,none⟩=some (.bool top)) (with_reducible (first|exact e0|exact s4)) ((refine zaB (by rfl) Tryz.func46 (by kernel_rfl) (by kernel_rfl) (.tmp 5) [.tmp 13] _ (by rfl) (env:=#[.pointer (some ⟨eb,0,none⟩)]) (by rfl) [.agg #[.int .i64 (tk:Int),.int .i64 (tf:Int),.int .i64 (te:Int),.bool top]] (by rfl) #[.agg #[.int .i64 (tk:Int),.int .i64 (tf:Int),.int .i64 (te:Int),.bool top],.pointer (some ⟨eb,0,none⟩)] (by rfl) _ (dJ.out w.drew (Below.refl _ _).drew) ?_;intro v w4 hh;obtain⟨hv4,hb4⟩:=hh;subst hv4;have zA:Below w.heap.size w w4:=(Below.refl w.heap.size w).drew.trans hb4;have s4:=yS.out _ zA))
 all_goals
  go_wp2;go_ret;exact⟨by first|rfl|simp,zA⟩
theorem zi3:Calls Tryz.prog 30 #[.pointer (some ⟨b,0,none⟩),.func (.func 46) #[] #[.pointer (some ⟨eb,0,none⟩)]] w λe w'=>∃k:Nat,e=.returned (.int .i64 (k:Int))∧k≤ni∧(∀i q,i<k→I[i]?=some q→qN at' d.size q.1=false)∧(∀i q,k≤i→I[i]?=some q→qN at' d.size q.1=true)∧Below w.heap.size w w':=by
 have hln:=hV.its.len;have hle:=YN w b s I E D oi ni ci od nd cd hV;have hsz:=hV.sz;obtain⟨W0,hW0⟩:∃Z,(w.alloc (.cells #[.pointer (some ⟨b,0,none⟩)] 25)).alloc (.cells #[.func (.func 46) #[] #[.pointer (some ⟨eb,0,none⟩)]] 74)=Z:=⟨_,rfl⟩;have hB0:Below w.heap.size w W0:=by rw[←hW0];exact jd w _ _
 have kC:zh W0 w.heap.size #[.pointer (some ⟨b,0,none⟩)] 25:=by rw[←hW0];exact(zh.new w _ _).alloc _
 have kA:zh W0 (w.heap.size+1) #[.func (.func 46) #[] #[.pointer (some ⟨eb,0,none⟩)]] 74:=by rw[←hW0];exact xU w _ _ _
 have hmono:∀i j,i≤j→j<ni→Jw I at' d.size i=true→Jw I at' d.size j=true:=λi j hij hj hp=>by
  rcases Nat.lt_or_ge i j with g|g
  ·have h1:I[i]?=some (I[i]'(by omega)):=List.getElem?_eq_getElem _
   have h2:I[j]?=some (I[j]'(by omega)):=List.getElem?_eq_getElem _;generalize I[i]'(by omega)=q1 at h1;generalize I[j]'(by omega)=q2 at h2;have h3:=zl.inc hV.path i j q1 q2 h1 h2 g;have h4:=(zl.sum hV.path i q1 h1).2.1;have h5:=(zl.sum hV.path j q2 h2).2.1;unfold Jw at hp ⊢;rw[h1]at hp;rw[h2];unfold qN at hp ⊢;dsimp only at hp ⊢;rw[decide_eq_true_eq]at hp ⊢;omega
  ·have e:i=j:=by omega
   rw[←e];exact hp
 have BK:=hid (zaz W0 ⟨w.heap.size+1,0,none⟩ ⟨w.heap.size,0,none⟩ ni (by omega) (Jw I at' d.size) hmono (λW h hW hh=>zjC W b s I E D oi ni ci od nd cd ((hV.below hB0).below hW) at' d n eb ((he.below hB0).below hW) ha hd (w.heap.size+1) w.heap.size h hh (kA.below hW) (kC.below hW)));have a1:=(hV.blk.below hB0).cell 1;have y0:=kC.cell 0;have HW0:=hid hW0;have HB0:=hid hB0;have uo:=hid hln;rw[←hW0]at a1 y0;clear hV he kC kA hmono hB0 hln hle hsz hW0;go_enter Tryz.func30,Tryz.ntmps30
 go_wp2_with fail
 rw[HW0.out];refine(BK.out).mono ?_;rintro e w1 ⟨k,rfl,hk,hlo,hhi,hb1⟩;have XB:=hid hlo;have WC:=hid hhi;clear hlo hhi;go_wp2;go_ret;refine⟨k,rfl,hk,λi q hi hq=>?_,λi q hi hq=>?_,HB0.out.trans (hb1.mono HB0.out.size)⟩
 ·have:=XB.out i hi
  unfold Jw at this;rw[hq]at this;exact this
 ·have hl:=(List.getElem?_eq_some_iff.1 hq).1
  have:=WC.out i hi (by have:=uo.out;omega);unfold Jw at this;rw[hq]at this;exact this
end
def kN(I:List (Tk×Mk)):Nat→Nat
 |0=>0
 |k+1=>match I[k]? with
  |some q=>q.1.en
  |none=>0
def yT(b:Nat)(T:ByteArray)(at':Nat)(m:Mk)(dv:Value)(df:Int):Array Value:=
 #[.pointer (some ⟨b,0,none⟩),.string T,.int .i64 (at':Int),.int .i64 (m.await:Int),.bool m.body,.int .i64 (m.zf:Int),.int .i64 (m.en:Int),dv,.int .i64 df]
section
variable(w:World)(b:Nat)(s:ByteArray)(I:List (Tk×Mk))(E:Mk)(D:List Dl)(oi:Option Addr)(ni ci:Nat)(od:Option Addr)(nd cd:Nat)(hV:jH w b s I E D oi ni ci od nd cd)
include hV
theorem zhY(k:Nat)(hk:k≤ni)(T:ByteArray):
  Calls Tryz.prog 32 #[.pointer (some ⟨b,0,none⟩),.string T,.int .i64 (k:Int)] w λe w'=>∃rb,e=.returned (.pointer (some ⟨rb,0,none⟩))∧zh w' rb (yT b T (kN I k) (zH I E k) (.slice od (zH I E k).en (zH I E k).en) (-1)) 97∧Below w.heap.size w w'∧w.heap.size≤rb:=by
 have hln:=hV.its.len;have hle:=YN w b s I E D oi ni ci od nd cd hV;have hsz:=hV.sz;have hmk:=ny w b s I E D oi ni ci od nd cd hV k;have hcap:=hV.cap;have hnd:=hV.ln;have MS:=hid (aU w b s I E D oi ni ci od nd cd hV k (by omega));have hat:k=0∨∃j q,k=j+1∧I[j]?=some q∧kN I k=q.1.en:=by
  match k,hk with
  |0,_=>exact .inl rfl
  |j+1,hk=>
   have hg:I[j]?=some (I[j]'(by omega)):=List.getElem?_eq_getElem _;exact .inr ⟨j,_,rfl,hg,by show(match I[j]? with|some q=>q.1.en|none=>0)=_;rw[hg]⟩
 have BL:k=0→kN I k=0:=λh=>by rw[h];rfl
 generalize zH I E k=m at*;have hod:(od=none∧m.en=0)∨∃g off,od=some ⟨g,off,none⟩:=by
  rcases hV.del with⟨h1,h2,_⟩|⟨g,off,c,h1,_⟩
  ·cases h1
   exact .inl ⟨rfl,by omega⟩
  ·cases h1
   exact .inr ⟨g,off,rfl⟩
 obtain⟨A,bd,f,e⟩:=m;unfold yT;unfold jY at MS;dsimp only at*;have HV:=hid hV;have q2:(e:Int)≤(cd:Int):=by omega
 have q3:(0:Int)≤(e:Int):=by omega
 have HD:=hid (And.intro hnd (And.intro hcap hmk));obtain⟨at',hat'⟩:∃a,kN I k=a:=⟨_,rfl⟩;rw[hat']at hat BL ⊢;have HAT:=hid BL;clear hV hnd hcap hmk hln hle hsz hat' BL;go_enter Tryz.func32,Tryz.ntmps32
 go_wp2_with fail
 refine(MS.out).mono ?_;rintro e1 w1 ⟨rfl,hb1⟩;have hV1:=HV.out.below hb1;have kr:=zh.new w1 #[.pointer (some ⟨b,0,none⟩),.string T,.int .i64 0,.int .i64 (A:Int),.bool bd,.int .i64 (f:Int),.int .i64 (e:Int),.slice none 0 0,.int .i64 (-1)] 97;have hBr:=(Below.refl w1.heap.size w1).alloc (Nat.le_refl _) (.cells #[.pointer (some ⟨b,0,none⟩),.string T,.int .i64 0,.int .i64 (A:Int),.bool bd,.int .i64 (f:Int),.int .i64 (e:Int),.slice none 0 0,.int .i64 (-1)] 97)
 go_upto_if 16 with fail
 obtain⟨W2,hW2⟩:∃Z,w1.alloc (.cells #[.pointer (some ⟨b,0,none⟩),.string T,.int .i64 0,.int .i64 (A:Int),.bool bd,.int .i64 (f:Int),.int .i64 (e:Int),.slice none 0 0,.int .i64 (-1)] 97)=Z:=⟨_,rfl⟩;obtain⟨rb,hrb⟩:∃z,w1.heap.size=z:=⟨_,rfl⟩;rw[hW2]at kr hBr ⊢;have uC:=hid hBr;rw[hrb]at kr ⊢;have JH:=hid hrb;have hV2:=hV1.below hBr;have hbr:b≠rb:=by have:=hV1.blk.lt;omega
 have HB1:=hid hb1;have ve:=hid hV1;clear hW2 hrb hBr hb1 hV1
 go_cut []from 17 to 29 (λwx=>zh wx rb #[.pointer (some ⟨b,0,none⟩),.string T,.int .i64 (at':Int),.int .i64 (A:Int),.bool bd,.int .i64 (f:Int),.int .i64 (e:Int),.slice none 0 0,.int .i64 (-1)] 97∧zg (λj=>j=rb) W2 wx)
 case first=>
  rcases hat with h0|⟨j,q,hj,hq,hqa⟩
  ·have ha0:=HAT.out h0
   subst h0 ha0;go_wp2;go_meet;case rel=>exact⟨kr,zg.refl _ _⟩
  ·obtain⟨g1,o1,rfl,h1,hit⟩:=hV2.its.cells j q hq
   have pV:g1≠rb:=by
    obtain⟨g2,o2,e2,h2,_⟩:=ve.out.its.cells j q hq;injection e2 with e2;injection e2 with e3 e4;have:=JH.out;omega
   have a1:=hV2.blk.cell 1;have c2:=hit.c2;rw[←hqa]at c2;have hj1:j<I.length:=(List.getElem?_eq_some_iff.1 hq).1;have hjn:j<ni:=by have:=HV.out.its.len;omega
   have u1:(0:Int)<(k:Int):=by omega
   have r1:IntKind.i64.wrap ((k:Int)-1)=(j:Int):=by rw[IntWalk.i64_in _ (by have:=HV.out.its.len;have:=YN w b s I E D _ ni ci od nd cd HV.out;have:=HV.out.sz;omega)];omega
   have u2:(0:Int)≤(j:Int):=by omega
   have u3:(j:Int)<(ni:Int):=by omega
   have x2:=kr.cell 2;have f2:=kr.frozen 2;have Jt:=hid kr;clear hq hit hqa hV2 hj;go_wp2;go_meet;case rel=>exact⟨Jt.out.set 2 _,zg.setCell (p:=λj=>j=rb) (zg.refl _ W2) 2 (.inl rfl) _⟩
 case rest=>
  obtain⟨yh,hF⟩:=hcut;generalize wc=W3 at*;have BM:=hV2.zf hF hbr (λg off hg e=>by have:=ve.out.il g off hg;have:=JH.out;omega) (λg off hg e=>by have:=ve.out.dl g off hg;have:=JH.out;omega);have a6:=BM.blk.cell 6;have x6:=yh.cell 6;have x7:=yh.cell 7;have f7:=yh.frozen 7;have NM:=hid yh;have Xr:=hid (And.intro hF BM);clear hV2 BM yh hF;rcases hod with⟨rfl,h0⟩|⟨g,off,rfl⟩
  ·subst h0
   go_upto_region 4 with fail
   go_region
   go_wp2;go_ret;have yZ:=zg.setCell (p:=λj=>j=rb) Xr.out.1 7 (.inl rfl) (.slice none 0 0);have hB2:=HB1.out.trans (uC.out.mono HB1.out.size);have hle:w.heap.size≤rb:=by have:=JH.out;have:=HB1.out.size;omega
   exact⟨rb,rfl,(NM.out.set 7 (.slice none 0 0)).drew,(hB2.trans (yZ.below hB2.size (λj hj=>by have e:j=rb:=hj;omega))).drew,hle⟩
  ·go_upto_region 4 with fail
   go_region
   go_wp2;go_ret;have yZ:=zg.setCell (p:=λj=>j=rb) Xr.out.1 7 (.inl rfl) (.slice (some ⟨g,off,none⟩) e e);have hB2:=HB1.out.trans (uC.out.mono HB1.out.size);have hle:w.heap.size≤rb:=by have:=JH.out;have:=HB1.out.size;omega
   exact⟨rb,rfl,(NM.out.set 7 (.slice (some ⟨g,off,none⟩) e e)).drew,(hB2.trans (yZ.below hB2.size (λj hj=>by have e:j=rb:=hj;omega))).drew,hle⟩
end
end Go.Proofs.YtdjcidackkogjaaGreatDoor

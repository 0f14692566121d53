/- What the statements' right of layer 10 (relex) ret -/
import Derived.Test.YtdjcidackkogjaaGreatDoorRi
import Derived.Test.YtdjcidackkogjaaGreatDoorCards
import Derived.Test.YtdjcidackkogjaaGreatDoorTie
import Derived.Deep.DeepHandedRow
import Derived.Lay
import Derived.Lib.SmallJoins
import Derived.StillTailTactics
import Derived.Test.YtdjcidackkogjaaGreatDoorRxAh
namespace Go.Proofs.YtdjcidackkogjaaGreatDoor
set_option linter.unusedSectionVars false
set_option linter.unusedVariables false
open Lib(hid)
set_option maxHeartbeats 8000000
set_option maxRecDepth 100000
open Go Go.RowKit
theorem Rk{ops:Array Oper}{o:Oper}{a:Act}{w:World}{K:Act→World→Prop}{Q:Exit→Act→World→Prop}{E:Prop}(hw:Region.wanted o (yielded ops a.tmps)=true){f:FuncId}{fn:Func}(hf:Tryz.prog.funcs[f]?=some fn)(hname:(fn.name== "runtime.NumGoroutine")=false)(hb:fn.body.isSome=true)(args:List Operand)(rF:Array TypeId)
 (ho:o.op=.call {callee:=.value (.func f),args:=args.toArray,argTypes:=rF})(vs:List Value)(hv:args.map a.eval=vs)(R:Value→World→Prop)
 (hc:Calls Tryz.prog f vs.toArray w λe w'=>∃v,e=.returned v∧R v w')(h:∀v w',R v w'→K (a.put o.dst v) w'):
  if Region.wanted o (yielded ops a.tmps)=true then Oper.wp Tryz.prog o a w K Q else E:=by
 rw[if_pos hw];have e1:a.eval (.func f)=.func (.func f) #[] #[]:=rfl;unfold Oper.wp execOp;simp only[ho,resolve,List.map_toArray,hv,e1,Deferred.ofValue,invoke,Sem.run_bind,Sem.run_pure,Result.andThen_ok,Array.empty_append,Array.append_empty,PT hf hname hb];rw[Oper.upon_enter];refine hc.mono ?_;rintro e w' ⟨v,rfl,hr⟩;exact h v w' hr
def awA:ByteArray:=⟨#[97,32,98,32,99]⟩
def awB:ByteArray:=⟨#[97,32,98,98,32,99]⟩
theorem AZ:ui awA=[(⟨6,0,1,false⟩,Lx.zero),(⟨1,1,2,false⟩,Lx.zero),(⟨6,2,3,false⟩,Lx.zero),(⟨1,3,4,false⟩,Lx.zero),(⟨6,4,5,false⟩,Lx.zero)]:=by kernel_rfl
theorem OQ:ui awB=[(⟨6,0,1,false⟩,Lx.zero),(⟨1,1,2,false⟩,Lx.zero),(⟨6,2,4,false⟩,Lx.zero),(⟨1,4,5,false⟩,Lx.zero),(⟨6,5,6,false⟩,Lx.zero)]:=by kernel_rfl
theorem A7:xP awA 2 ⟨#[98]⟩ ⟨#[98,98]⟩=awB:=by kernel_rfl
theorem Ro{I:List (Tk×Mk)}{L:List Tk}(h:L=I.map Prod.fst){i:Nat}{t:Tk}(ht:L[i]?=some t):∃q,I[i]?=some q∧q.1=t:=by
 rw[h,List.getElem?_map]at ht
 cases hq:I[i]? with
 |none=>rw[hq]at ht;cases ht
 |some q=>
  rw[hq]at ht;exact⟨q,rfl,by simpa using ht⟩
theorem zix{I I':List (Tk×Mk)}{D D':List Dl}{E E':Mk}{hd tail:Nat}(hP:zl awA D 0 Mk.zero I awA.size E)(hP':zl awB D' 0 Mk.zero I' awB.size E')(hk:OB I D I' D' 2 1 ((2:Int)-1) hd tail):hd=0∧tail=2:=by
 have h1:=hP.whole.1;have h2:=hP'.whole.1;rw[AZ]at h1;rw[OQ]at h2;have hl:I.length=5:=by simpa using(congrArg List.length h1).symm
 obtain⟨k1,k2,k3,k4⟩:=hk;obtain⟨q0,a0,b0⟩:=Ro h1 (i:=0) rfl;obtain⟨q1,a1,b1⟩:=Ro h1 (i:=1) rfl;obtain⟨q2,a2,b2⟩:=Ro h1 (i:=2) rfl;obtain⟨q3,a3,b3⟩:=Ro h1 (i:=3) rfl;obtain⟨r3,c3,d3⟩:=Ro h2 (i:=3) rfl;have hx:zi q3.2 D=Lx.zero:=by
  have:=hP.ahead a3;rw[AZ]at this;simpa using this.symm
 have hy:zi r3.2 D'=Lx.zero:=by
  have:=hP'.ahead c3;rw[OQ]at this;simpa using this.symm
 constructor
 ·have:=(k2 0 q0 a0).1
  rw[b0]at this;simp only at this;omega
 ·rcases Nat.lt_or_ge tail 2 with h|h
  ·exfalso
   refine k3 3 3 q3 r3 (by omega) (by rw[b3];show 2+1≤3;omega) a3 c3 (by rw[b3,d3];rfl) ?_;rw[hx,hy]
  ·rcases Nat.lt_or_ge 2 tail with h'|h'
   ·exfalso
    obtain⟨r,j,q,e1,e2,_⟩:=k4 (by omega);have e3:I.length-tail=0∨I.length-tail=1∨I.length-tail=2:=by omega
    rcases e3 with e3|e3|e3
    ·rw[e3,a0]at e1;cases e1;rw[b0]at e2;simp at e2
    ·rw[e3,a1]at e1;cases e1;rw[b1]at e2;simp at e2
    ·rw[e3,a2]at e1;cases e1;rw[b2]at e2;simp at e2
   ·omega
theorem A8(a b c d:Int)(w:World):(Op.equalIn 10000 31 (.agg #[.int .i64 a,.int .i64 b]) (.agg #[.int .i64 c,.int .i64 d])).run Tryz.prog w=.ok (a==c && b==d) w:=by
 have u3:=Tryz.underlying3;have a3:=Tryz.isAgg3;have z3:=Tryz.sizeOf3;have hS:Tryz.prog.underlying 31=some (.struct (Tryz.prog.fieldsOf 31)):=by kernel_rfl
 rw[show(10000:Nat)=9999+1 from rfl,run_equalIn_agg w 9999 31 _ _ hS (by kernel_rfl)];simp only[Program.fieldsOf,Tryz.underlying31]
 go_simp
 by_cases h1:a=c<;>by_cases h2:b=d<;>simp[h1,h2]
theorem ziy(a b c d:Int)(w:World):(binOp .eql 31 (.agg #[.int .i64 a,.int .i64 b]) (.agg #[.int .i64 c,.int .i64 d])).run Tryz.prog w=.ok (.bool (a==c && b==d)) w:=by
 rw[run_eql_struct,A8];simp[Result.andThen]
theorem Ua(w:World)(hT:Tx w):Calls Tryz.prog 9 #[] w λe w'=>e=.returned (.bool true)∧Below w.heap.size w w':=by
 have HN:=hid (OI w hT awA (by decide));have HT:=hid hT;have hkk:=λW=>ziy 0 2 0 2 W;simp only[beq_self_eq_true,Bool.and_self]at hkk;unfold awA at HN;obtain⟨b,hb⟩:∃b,w.heap.size=b:=⟨_,rfl⟩;rw[hb]at HN;have HB:=hid hb;clear hT hb;go_enter Tryz.func9,Tryz.ntmps9
 go_wp2_with fail
 refine(HN.out).mono ?_;rintro e w1 ⟨rfl,hD,hb1⟩;obtain⟨I,E,D,g,ni,ci,od,nd,cd,hV,hic,_⟩:=hD (λ_=>False) (λ_ h=>h.elim);rw[←HB.out]at hb1;have HA:=hid (OC w1 b awA I E D _ ni ci od nd cd hV hic (.inr ⟨g,0,rfl⟩) (by have:=HT.out.1;have:=HB.out;omega) (HT.out.b hb1) 2 ⟨#[98]⟩ ⟨#[98,98]⟩ (by decide) (by decide) (by decide) (by rw[A7];decide));have HV:=hid (And.intro hV hb1);clear hD hV hb1
 go_wp2_with fail
 refine(HA.out).mono ?_;rintro e w2 ⟨h,t,I',E',D',g',Qg,ci',Qh,KE,KF,rfl,hV',q1,q2,q3,hF,hk⟩;rw[A7]at hV';obtain⟨rfl,rfl⟩:=zix HV.out.1.path hV'.path hk;have hl5:Qg=5:=by
  have h1:=hV'.path.whole.1;rw[OQ]at h1;have h2:I'.length=5:=by simpa using(congrArg List.length h1).symm
  have:=hV'.its.len;omega
 subst hl5;have hal:=(Below.refl w2.heap.size w2).alloc (Nat.le_refl _) (.cells #[.int .i64 0,.int .i64 2] 31);have hV2:=hV'.below hal;have Rl:=hid (OO _ b awB I' E' D' _ 5 ci' Qh KE KF hV2);have hB2:Below w.heap.size w w2:=HV.out.2.trans (hF.below HV.out.2.size (λj hj=>by have:=HB.out;omega));have HB2:=hid (hB2.trans (hal.mono hB2.size));clear hk hV' q1 q2 q3 hF hal hV2 hB2
 go_wp2_with fail
 refine(Rl.out).mono ?_;rintro e w3 ⟨z,c,rfl,_,_,hb3,_⟩;go_wp2;go_ret;exact⟨rfl,HB2.out.trans (hb3.mono HB2.out.size)⟩
def KL(W:World)(oa:Option Addr)(n:Nat)(av:Nat→Int)(dv nv:Nat→ByteArray):Prop:=
 ∀i,i<n→∃b off,oa=some ⟨b,off,none⟩∧b<W.heap.size∧W.cell? ⟨b,off+i*3,none⟩=some (.int .i64 (av i))∧W.cell? ⟨b,off+i*3+1,none⟩=some (.string (dv i))∧W.cell? ⟨b,off+i*3+2,none⟩=some (.string (nv i))
theorem KL.below{w w':World}{oa:Option Addr}{n:Nat}{av:Nat→Int}{dv nv:Nat→ByteArray}(h:KL w oa n av dv nv)(hb:Below w.heap.size w w'):KL w' oa n av dv nv:=λi hi=>by
 obtain⟨b,off,e,hl,h0,h1,h2⟩:=h i hi;exact⟨b,off,e,Nat.lt_of_lt_of_le hl hb.size,(hb.cell (p:=⟨b,_,none⟩) hl).trans h0,(hb.cell (p:=⟨b,_,none⟩) hl).trans h1,(hb.cell (p:=⟨b,_,none⟩) hl).trans h2⟩
def ShR(n:Nat)(dv nv:Nat→ByteArray)(most:Nat)(B:Bool):Prop:=B=true→n≤most∧∀i,i<n→(dv i).size≤60∧(nv i).size≤60
def ShP(w:World)(n:Nat)(dv nv:Nat→ByteArray)(most:Nat)(e:Ending)(w':World):Prop:=∃B,e=.returned (.bool B)∧ShR n dv nv most B∧w'=w
def ShL(w:World)(n:Nat)(dv nv:Nat→ByteArray)(v:Value)(wr:World):Prop:=wr=w∧∃i:Nat,v=.int .i64 (i:Int)∧i≤n∧∀j,j<i→(dv j).size≤60∧(nv j).size≤60
theorem Ub(w:World)(oa:Option Addr)(n c:Nat)(av:Nat→Int)(dv nv:Nat→ByteArray)(hR:KL w oa n av dv nv)(most:Nat)(hmo:most≤1000):Calls Tryz.prog 10 #[.slice oa n c,.int .i64 (most:Int)] w λe w'=>ShP w n dv nv most e w':=by
 have HR:=Lib.hid hR;clear hR;by_cases hm:(most:Int)<(n:Int)
 ·go_enter Tryz.func10,Tryz.ntmps10
  go_wp2;go_ret;exact⟨false,rfl,λh=>(by cases h),rfl⟩
 ·go_enter Tryz.func10,Tryz.ntmps10
  go_wp2
  go_loopw [5] (λv wr=>ShL w n dv nv v wr) (λv _=>n-(intOf v).toNat)
  case atStart=>exact⟨rfl,0,rfl,Nat.zero_le _,λj hj=>by omega⟩
  case round=>
   obtain⟨hwr,i,rfl,hi,hall⟩:=hrel;obtain rfl:w=wr:=hwr.symm;clear hwr;have Xz:=Lib.hid hall;clear hall;by_cases hlt:i<n
   ·obtain⟨b,off,rfl,hl,h0,h1,h2⟩:=HR.out i hlt
    have q0:(0:Int)≤(i:Int):=by omega
    have q1:(i:Int)<(n:Int):=by omega
    by_cases hd:(60:Int)<((dv i).size:Int)
    ·go_wp2
     go_ret;exact⟨false,rfl,λh=>(by cases h),rfl⟩
    ·by_cases hn:(60:Int)<((nv i).size:Int)
     ·go_wp2
      go_ret;exact⟨false,rfl,λh=>(by cases h),rfl⟩
     ·go_wp2
      go_roundw
      case rel=>
       refine⟨by first|rfl|trivial,i+1,by go_num,by omega,λj hj=>?_⟩;rcases Nat.lt_or_ge j i with h|h
       ·exact Xz.out j h
       ·have:j=i:=by omega
        subst this;omega
      case measure=>simp[intOf];omega
   ·have q1:¬(i:Int)<(n:Int):=by omega
    go_wp2;go_ret;exact⟨true,rfl,λ_=>⟨by omega,λj hj=>Xz.out j (by omega)⟩,rfl⟩
section
variable{H:Type}{enc:TypeId×Value→H}{w:World}{base:Nat}{spare:Nat→Bool}{held:Bool}
theorem Ut{n:Nat}{cs:List Value}{x:DataW H×List MemPlace}(h:DataW.trod enc Tryz.prog w base spare held n 35 cs=some x):
  ∃(a:Int) (d m:ByteArray),cs=[.int .i64 a,.string d,.string m]:=by
 obtain⟨xs,k,_,hx,hlen,hxl,hg⟩:=DataW.trod_struct Tryz.underlying35 h;rw[show Tryz.prog.cellsOf 35=3 from by kernel_rfl]at hlen
 match cs,hlen with
 | [c0,c1,c2],_=>
  match xs,hxl with
  | [y0,y1,y2],_=>
   have e0:DataW.trod enc Tryz.prog w base spare held k 3 (([c0,c1,c2].drop 0).take (Tryz.prog.cellsOf 3))=some y0:=hg 0 _ rfl;have e1:DataW.trod enc Tryz.prog w base spare held k 9 (([c0,c1,c2].drop 1).take (Tryz.prog.cellsOf 9))=some y1:=hg 1 _ rfl;have e2:DataW.trod enc Tryz.prog w base spare held k 9 (([c0,c1,c2].drop 2).take (Tryz.prog.cellsOf 9))=some y2:=hg 2 _ rfl;rw[show Tryz.prog.cellsOf 3=1 from by kernel_rfl]at e0;rw[show Tryz.prog.cellsOf 9=1 from by kernel_rfl]at e1 e2;simp at e0 e1 e2;obtain⟨a,x0,z0,_⟩:=DataW.trod_int Tryz.underlying3 e0;obtain⟨d,x1,z1,_⟩:=DataW.trod_string Tryz.underlying9 e1;obtain⟨m,x2,z2,_⟩:=DataW.trod_string Tryz.underlying9 e2;simp at x0 x1 x2;subst x0 x1 x2;exact⟨a,d,m,rfl⟩
theorem Ug{fuel:Nat}{a0:Option Addr}{len cap:Nat}{x:DataW H×List MemPlace}
 (h:DataW.trod enc Tryz.prog w 0 (λ_=>true) true fuel 22 [.slice a0 len cap]=some x):∃(av:Nat→Int) (dv nv:Nat→ByteArray),KL w a0 len av dv nv:=by
 rcases Nat.eq_zero_or_pos len with h0|hpos
 ·exact⟨λ_=>0,λ_=>⟨#[]⟩,λ_=>⟨#[]⟩,λi hi=>by omega⟩
 ·rcases Go.Deep.open_slice Tryz.underlying22 h with⟨hcs,_⟩|⟨a,l,c,m,n,D,Pl,hcs,hb,hl,hm,hmm,hx,hi⟩
  ·simp at hcs;omega
  ·simp only[List.cons.injEq,Value.slice.injEq,and_true]at hcs
   obtain⟨rfl,rfl,rfl⟩:=hcs;rw[if_pos rfl]at hmm;subst hmm;rw[show Tryz.prog.cellsOf 35=3 from by kernel_rfl]at hi hx;obtain⟨ab,Nc,spot⟩:=a;have hspot:spot=none:=by
    obtain⟨cs',hc0,ht0⟩:=hi 0 (by omega);obtain⟨u,d,k,rfl⟩:=Ut ht0;obtain⟨_,_,hcell⟩:=World.cells?_some hc0;have g:=hcell 0 (by omega);simpa[Addr.add]using World.cell?_spot (v:=.int .i64 u) (by simpa[Addr.add]using g)
   subst hspot;have hbl:ab<w.heap.size:=by
    obtain⟨cs',hc0,_⟩:=hi 0 (by omega);exact World.cells?_block hc0 (by omega)
   have hex:∀i,∃e:Int×ByteArray×ByteArray,i<len→(w.cell? ⟨ab,Nc+i*3,none⟩=some (.int .i64 e.1)∧w.cell? ⟨ab,Nc+i*3+1,none⟩=some (.string e.2.1)∧w.cell? ⟨ab,Nc+i*3+2,none⟩=some (.string e.2.2)):=by
    intro i;by_cases hlt:i<len
    ·obtain⟨cs',hc0,ht0⟩:=hi i (by omega)
     obtain⟨u,d,k,rfl⟩:=Ut ht0;obtain⟨_,_,hcell⟩:=World.cells?_some hc0;have g0:=hcell 0 (by omega);have g1:=hcell 1 (by omega);have g2:=hcell 2 (by omega);rw[Go.Deep.add_add]at g0 g1 g2;rw[MX]at g0 g1 g2;exact⟨(u,d,k),λ_=>⟨by simpa using g0,by rw[Nat.add_assoc];simpa using g1,by rw[Nat.add_assoc];simpa using g2⟩⟩
    ·exact⟨(0,⟨#[]⟩,⟨#[]⟩),λh=>absurd h hlt⟩
   obtain⟨F,hF⟩:=Classical.axiomOfChoice hex;exact⟨λi=>(F i).1,λi=>(F i).2.1,λi=>(F i).2.2,λi hi2=>⟨ab,Nc,rfl,hbl,hF i hi2⟩⟩
end
open Go.ChangeShapes Go.WideShapes Go.ChangeAt Go.RowKit
def O8:List (List UInt8):=(List.range 18).map λi=>(txt i).data.toList
theorem Uu:Tryz.prog.globalNamed "quillwort/oper.texts"=some 0:=by kernel_rfl
theorem ziK:(Tryz.prog.globals[0]?).map (·.type)=some 184:=by kernel_rfl
theorem ziL:Tryz.prog.cellsOf 184=18:=by kernel_rfl
theorem ziM:Tryz.prog.cellsOf 9=1:=by kernel_rfl
theorem Uf{W:World}(h:laidMet Tryz.prog [("unicode/utf8.acceptRanges",Rows.laid_unicode_utf8_acceptRanges),("quillwort/oper.texts",Rows.laid_quillwort_oper_texts),("unicode/utf8.first",Rows.laid_unicode_utf8_first)] W):Tx W:=by
 obtain⟨ps0,⟨g0,t0,cs0,fuel0,p0,q0,hg0,ht0,zmP,hd0,htail,_⟩,_⟩:=h;obtain⟨g',t',cs,fuel,p,q,hg',ht',hvar,hd,_,_⟩:=htail;obtain rfl:=Option.some.inj (Uu.symm.trans hg');obtain rfl:=Option.some.inj (ziK.symm.trans ht');have hcell:∀i,i<18→W.cell? ⟨0,i,none⟩=some (.string (txt i)):=λi hi=>by
  obtain⟨xs,m,-,hx,hlen,hn,hel⟩:=DataW.trod_array Tryz.underlying184 hd;rw[ziL]at hlen;have hi2:i<xs.length:=by omega
  have h1:=hel i hi;rw[ziM,Nat.mul_one,List.getElem?_eq_getElem hi2]at h1;obtain⟨z,hz,hxi,-⟩:=DataW.trod_string Tryz.underlying9 h1;have hti:(O8.map λt=>(DataW.lit (.string t):DataW Unit))[i]?=some (.lit (.string z.data.toList)):=by
   have e:O8.map (λt=>(DataW.lit (.string t):DataW Unit))=xs.map (·.1):=(DataW.agg.inj (Prod.mk.inj hx).1:);rw[e,List.getElem?_map,List.getElem?_eq_getElem hi2,hxi];rfl
  have lq:z=txt i:=by
   have e:(txt i).data.toList=z.data.toList:=by simpa[O8,hi]using hti
   exact ByteArray.ext (Array.toList_inj.1 e.symm)
  have hc:cs[i]?=some (.string z):=by
   have e:=congrArg (·[0]?) hz;simpa[List.getElem?_take,List.getElem?_drop]using e
  have hv:=World.var?_cell Uu hvar i;rw[hv,←lq,←hc]
 refine⟨?_,hcell⟩;have h0:=hcell 0 (by omega);refine Nat.pos_of_ne_zero λg=>?_;have:W.heap[0]?=none:=Array.getElem?_eq_none (by omega);simp[World.cell?,this]at h0
theorem Na:laidOutB Tryz.prog=true:=by kernel_rfl
theorem Ui:mapsRowed Tryz.prog=true:=by kernel_rfl
theorem Uj:(Rows.relexFollowsRow.plainKeys==Tryz.prog.plainKeys)=true:=by kernel_rfl
theorem Uk:Tryz.prog.stopsHeard=true:=by kernel_rfl
theorem Ul:Tryz.prog.mayEnter=true:=by kernel_rfl
theorem Um:(Rows.relexFollowsRow.lifted==Tryz.prog.liftsFinal)=true:=by kernel_rfl
theorem Un:(Tryz.prog.make==some Rows.relexFollowsRow.make)=true:=by kernel_rfl
noncomputable def KN(os:Os):World:=World.laidAll Tryz.prog os [("unicode/utf8.acceptRanges",Rows.laid_unicode_utf8_acceptRanges),("quillwort/oper.texts",Rows.laid_quillwort_oper_texts),("unicode/utf8.first",Rows.laid_unicode_utf8_first)]
theorem Uh(os:Os):(KN os).os=os:=World.laidAll_os _ _ _
theorem Uc{s d n:ByteArray}{a:Int}(hn:n.size≤60):(YR s a d n).size≤s.size+60:=by
 unfold YR;split
 ·rename_i h
  have hf:=(G7 h).2.2.1.1;rw[J4 hf];omega
 ·omega
theorem Ud(s d n:ByteArray)(w:World)(a:Int)(h:vF s a d n=0)(hs:s.size≤281474976710656)(hns:n.size≤281474976710656):
  Calls Tryz.prog 15 #[.string s,.agg #[.int .i64 a,.string d,.string n]] w λe w'=>e=.returned (.string (xP s a.toNat d n))∧Below w.heap.size w w':=by
 have hf:=(G7 h).2.2.1.1;obtain⟨k,rfl⟩:=Int.eq_ofNat_of_zero_le (G7 h).1;simp only[Int.toNat_natCast]at hf;exact zib s d n k w (by omega) hs hns
def Ue(w:World)(b n:Nat)(m:Nat)(vs vi:Value)(wr:World):Prop:=
 ∃(i:Nat) (s:ByteArray),vs=.string s∧vi=.int .i64 (i:Int)∧i≤n∧s.size≤m+60*i∧ZK wr b (λk=>k=b) s∧Below w.heap.size w wr
theorem ziC(w:World)(b:Nat)(Av:Nat→Prop)(s:ByteArray)(hD:ZK w b Av s):(ui s).length≤1000000∧(XD (ui s)).pend.length≤1000000:=by
 obtain⟨I,E,D,g,ni,ci,od,nd,cd,hV,_⟩:=hD;have h1:=hV.path.whole;have h2:=YN w b s I E D _ ni ci od nd cd hV;have h3:=hV.sz;have h4:(ui s).length=I.length:=by simpa using congrArg List.length h1.1
 rw[h1.2,Vz (by rw[hV.en];exact Nat.le_refl _)];have h5:=hV.path.Kz;have h6:Mk.zero.en=0:=rfl;omega
theorem znQ(w:World)(b:Nat)(Av:Nat→Prop)(s:ByteArray)(hD:ZK w b Av s)(j:Nat)(hj:j<(ui s).length):∃x,(Lx.zero::(ui s).map Prod.snd)[j]?=some x∧x.pend.length≤1000000∧Calls Tryz.prog 20 #[.pointer (some ⟨b,0,none⟩),.int .i64 (j:Int)] w λe w'=>∃yD c',e=.returned (.tuple #[.agg #[.int .i64 (x.await:Int),.slice yD x.pend.length c',.bool x.body],.bool true])∧yR w' (.slice yD x.pend.length c') x∧Below w.heap.size w w':=by
 obtain⟨I,E,D,g,ni,ci,od,nd,cd,hV,_⟩:=hD;have e:=hV.path.whole.1;have hlen:(ui s).length=I.length:=by simpa using congrArg List.length e
 have hq:I[j]?=some (I[j]'(by omega)):=List.getElem?_eq_getElem _;refine⟨_,hV.path.ahead hq,?_,(znR w b s I E D _ ni ci od nd cd hV j _ hq).mono λe w' ⟨yD,n',c',h1,h2,h3⟩=>?_⟩
 ·have h2:=YN w b s I E D _ ni ci od nd cd hV
  have h3:=hV.sz;have h5:=hV.path.Kz;have h6:Mk.zero.en=0:=rfl;have h7:=hV.en;have hmk:=ny w b s I E D _ ni ci od nd cd hV j;have hma:zH I E j=(I[j]'(by omega)).2:=by unfold zH;rw[hq]
  rw[hma]at hmk;rw[Vz hmk.2];omega
 obtain⟨o3,c3,e3,_⟩:=h2.cap;cases e3;exact⟨_,_,h1,h2,h3⟩
theorem znS(w:World)(b:Nat)(Av:Nat→Prop)(s:ByteArray)(hD:ZK w b Av s)(n:Int)(hn:n<0∨((ui s).length:Int)≤n):Calls Tryz.prog 20 #[.pointer (some ⟨b,0,none⟩),.int .i64 n] w λe w'=>e=.returned (.tuple #[.agg #[.int .i64 0,.slice none 0 0,.bool false],.bool false])∧Below w.heap.size w w':=by
 obtain⟨I,E,D,g,ni,ci,od,nd,cd,hV,_⟩:=hD;have e:=hV.path.whole.1;have hlen:(ui s).length=I.length:=by simpa using congrArg List.length e
 have:=hV.its.len;exact znT w b s I E D _ ni ci od nd cd hV n (by omega)
def AhL(W:World)(n:Nat)(v:Value)(wr:World):Prop:=∃i:Nat,i≤n∧v=.int .i64 (i:Int)∧Below W.heap.size W wr
theorem ahead10_law(w:World)(hT:Tx w)(s:ByteArray)(hz:s.size≤9223372036854775807)(oa:Option Addr)(n c:Nat)(av:Nat→Int)(dv nv:Nat→ByteArray)(hR:KL w oa n av dv nv)(other:Int):Calls Tryz.prog 5 #[.string s,.slice oa n c,.int .i64 other] w λe w'=>e=.returned (.bool true)∧Below w.heap.size w w':=by
 have HT:=hid hT;have HR:=hid hR;clear hT hR;go_enter Tryz.func5,Tryz.ntmps5
 go_wp2_with fail
 refine(Ua w HT.out).mono ?_;rintro e w1 ⟨rfl,hb1⟩;have HB1:=hid hb1;clear hb1;by_cases ziA:(100:Int)<(s.size:Int)
 ·go_wp2
  go_ret;exact⟨rfl,HB1.out⟩
 ·go_wp2_with fail
  refine(Ub w1 oa n c av dv nv (HR.out.below HB1.out) 5 (by omega)).mono ?_;rintro e w2 ⟨B,rfl,hSh,rfl⟩;cases B
  ·go_wp2
   go_ret;exact⟨rfl,HB1.out⟩
  ·obtain⟨Rq,h60⟩:=hSh rfl
   have OT:=hid h60;have OU:=hid Rq;clear hSh h60 Rq;have Rt:=hid (OI w2 (HT.out.below HB1.out HT.out.1) s (by omega));obtain⟨b,hb⟩:∃b,w2.heap.size=b:=⟨_,rfl⟩;rw[hb]at Rt;have HB:=hid hb;clear hb
   go_wp2_with fail
   refine(Rt.out).mono ?_;rintro e w3 ⟨rfl,hD,hb3⟩;have hD3:=hD (λk=>k=b) (λk hk=>by omega);have hB3:Below w.heap.size w w3:=HB1.out.trans (hb3.mono (by have:=HB.out;have:=HB1.out.size;omega));have HD3:=hid hD3;have HB3:=hid hB3;clear hD hb3 hD3 hB3
   go_wp2_with fail
   go_loopw [0,9] (λvs vi wr=>Ue w b n 100 vs vi wr) (λ_ vi _=>n-(intOf vi).toNat)
   case atStart=>exact⟨0,s,rfl,rfl,Nat.zero_le _,by omega,HD3.out,HB3.out⟩
   case round=>
    obtain⟨i,t,rfl,rfl,hi,ht,hD,hB⟩:=hrel;have HD:=hid hD;have uC:=hid hB;have h8:=OU.out;clear hD hB;by_cases hlt:i<n
    ·have hE:=HR.out.below uC.out
     obtain⟨eb,eo,rfl,hel,c0,c1,c2⟩:=hE i hlt;have JM:=OT.out i hlt;have q0:(0:Int)≤(i:Int):=by omega
     have q1:(i:Int)<(n:Int):=by omega
     have hst:=Uc (s:=t) (d:=dv i) (a:=av i) JM.2;have Ru:=hid (AU wr b (λk=>k=b) t HD.out (by have:=HT.out.1;have:=HB.out;have:=HB1.out.size;omega) (HT.out.below uC.out HT.out.1) (λk hk=>by have:=HD.out.lt;omega) (av i) (dv i) (nv i) (by omega) (by omega) (by omega));clear hE
     go_wp2_with fail
     refine(Ru.out).mono ?_;rintro e w5 ⟨h,tl,rfl,hbad,hD5,yM⟩;obtain⟨k,hk⟩:∃k,vF t (av i) (dv i) (nv i)=k:=⟨_,rfl⟩;obtain⟨t',ht'⟩:∃x,YR t (av i) (dv i) (nv i)=x:=⟨_,rfl⟩;rw[hk];rw[ht']at hD5 hst;have hbw:w.heap.size≤b:=by have:=HB.out;have:=HB1.out.size;omega
     have yA:Below w.heap.size w w5:=uC.out.trans (yM.below uC.out.size (λj hj=>by omega));obtain⟨_,_,e9,_,d0,d1,d2⟩:=HR.out.below yA i hlt;cases e9;have HK:=hid (And.intro hk (And.intro ht' (And.intro hD5 yA)));clear c0 c1 c2 hk ht' hbad hD5 yM yA Ru
     go_wp2_with fail
     refine(AP t (dv i) (nv i) w5 (av i) k HK.out.1 (by omega) (by omega)).mono ?_;rintro e w6 ⟨rfl,hb6⟩;have jI:=hid (HK.out.2.2.2.trans (hb6.mono HK.out.2.2.2.size));have HD6:=hid (HK.out.2.2.1.below hb6);obtain⟨_,_,e9,_,c0,c1,c2⟩:=HR.out.below jI.out i hlt;cases e9;clear hb6 d0 d1 d2;by_cases hk0:k=0
     ·subst hk0
      have hdo:xP t (av i).toNat (dv i) (nv i)=t':=by
       have:=HK.out.2.1;unfold YR at this
       rwa [if_pos HK.out.1]at this
      have ZY:=hid (Ud t (dv i) (nv i) w6 (av i) HK.out.1 (by omega) (by omega));rw[hdo]at ZY;clear hdo
      go_wp2_with fail
      refine(ZY.out).mono ?_;rintro e w7 ⟨rfl,hb7⟩;have Qi:=hid (jI.out.trans (hb7.mono jI.out.size));have HD7:=hid (HD6.out.below hb7);clear hb7 c0 c1 c2;go_wp2
      go_roundw
      case rel=>exact⟨i+1,t',rfl,by go_num,by omega,by omega,HD7.out,Qi.out⟩
      case measure=>simp[intOf];omega
     ·have hk0':(k==0)=false:=by simpa using hk0
      have hdo:t=t':=by
       have:=HK.out.2.1;unfold YR at this
       rwa [if_neg (by rw[HK.out.1];exact hk0)]at this
      subst hdo
      clear c0 c1 c2;go_wp2
      go_roundw
      case rel=>exact⟨i+1,t,rfl,by go_num,by omega,by omega,HD6.out,jI.out⟩
      case measure=>simp[intOf];omega
    ·have q1:¬(i:Int)<(n:Int):=by omega
     have hNs:=(ziC wr b _ t HD.out).1;have HA1:=hid (λW (hW:Below wr.heap.size wr W) j hj=>znQ W b _ t (HD.out.below hW) j hj);have HA2:=hid (λW (hW:Below wr.heap.size wr W) k hk=>znS W b _ t (HD.out.below hW) k hk);have HAH:=hid (znP wr t (by omega));obtain⟨N,hN⟩:∃N,(ui t).length=N:=⟨_,rfl⟩;obtain⟨Z,hZ⟩:∃Z,Lx.zero::(ui t).map Prod.snd=Z:=⟨_,rfl⟩;rw[hN,hZ]at HA1 HAH;rw[hN]at HA2 hNs;obtain⟨M,hM⟩:∃M,N+1=M:=⟨_,rfl⟩;rw[hM]at HAH;have e1:IntKind.i64.wrap ((M:Int)-1)=(N:Int):=by rw[IntWalk.i64_in _ (by omega)];omega
     have HMN:=hid (And.intro hM hNs);clear hN hZ hM hNs
     go_wp2_with fail
     refine(HAH.out).mono ?_;rintro e w3 ⟨o3,c3,l,rfl,hlf,hRX,hb3⟩;have HRX:=hid hRX;have HLF:=hid hlf;have HB3:=hid hb3;have Us:=hid (uC.out.trans (hb3.mono uC.out.size));clear hRX hlf hb3;go_wp2
     go_loopw [11] (λv wq=>AhL w3 N v wq) (λv _=>N-(intOf v).toNat)
     case atStart=>exact⟨0,Nat.zero_le _,rfl,Below.refl _ _⟩
     case round=>
      obtain⟨j,hj,rfl,hbl⟩:=hrel;have vN:=hid hbl;have q0:(0:Int)≤(j:Int):=by omega
      by_cases hlt:j<N
      ·have q2:(j:Int)<(N:Int):=by omega
       have hN9:=HMN.out.2;have q3:(j:Int)<(M:Int):=by have:=HMN.out.1;omega
       obtain⟨x,hx,hxp,hC⟩:=HA1.out _ (HB3.out.trans (hbl.mono HB3.out.size)) j hlt;obtain⟨⟨x',xo,xc⟩,hp,rfl⟩:∃p,l[j]?=some p∧p.1=x:=by
        rw[←HLF.out,List.getElem?_map]at hx
        cases h:l[j]? with
        |none=>rw[h]at hx;cases hx
        |some p=>rw[h]at hx;exact⟨p,rfl,by simpa using hx⟩
       have hrx:=HRX.out.below hbl;have hxr:=hrx.rd _ (List.mem_of_getElem? hp);obtain⟨g1,f1,hg,h1,c0,c1,c2⟩:=hrx.cells j _ hp;dsimp only at hxr c0 c1 c2 hC hxp;have HC:=hid hC;have HXR:=hid hxr;clear hrx hx hp hbl hC hxr;cases hg
       go_wp2_with fail
       refine(HC.out).mono ?_;rintro e w4 ⟨y,cy,rfl,hL4,hb4⟩;have Tf:=vN.out.trans (hb4.mono vN.out.size);have hal:=(Below.refl w4.heap.size w4).alloc (Nat.le_refl _) (.cells #[.int .i64 (x'.await:Int),.slice y x'.pend.length cy,.bool x'.body] 50);have kx:=zh.new w4 #[.int .i64 (x'.await:Int),.slice y x'.pend.length cy,.bool x'.body] 50;obtain⟨W2,hW2⟩:∃Y,w4.alloc (.cells #[.int .i64 (x'.await:Int),.slice y x'.pend.length cy,.bool x'.body] 50)=Y:=⟨_,rfl⟩;obtain⟨bx,hbx⟩:∃q,w4.heap.size=q:=⟨_,rfl⟩;rw[hW2]at kx hal;rw[hbx]at kx;have hL2:=hL4.below hal;have hX2:=(HXR.out.below hb4).below hal;have hq:∀o,W2.cell? ⟨g1,o,none⟩=wr.cell? ⟨g1,o,none⟩:=λo=>(hal.cell (p:=⟨g1,o,none⟩) (Nat.lt_of_lt_of_le h1 hb4.size)).trans (hb4.cell (p:=⟨g1,o,none⟩) h1);have h12:g1<W2.heap.size:=Nat.lt_of_lt_of_le (Nat.lt_of_lt_of_le h1 hb4.size) hal.size;have HSX:=hid (λW (hW:Below W2.heap.size W2 W)=>show Calls Tryz.prog 21 #[.agg #[.int .i64 (x'.await:Int),.slice y x'.pend.length cy,.bool x'.body],.agg #[.int .i64 (x'.await:Int),.slice xo x'.pend.length xc,.bool x'.body]] W λe w'=>∃v,e=.returned v∧v=.bool true∧Below W2.heap.size W2 w' from(ziv W x'.pend x'.pend y xo _ _ cy xc (XC.wW (hL2.below hW).src rfl) (XC.wW (hX2.below hW).src rfl) hxp hxp x'.await x'.await x'.body x'.body).mono (λe w' ⟨h1,h2⟩=>⟨_,by rw[h1,ziw],rfl,hW.trans (h2.mono hW.size)⟩));have VB:=hid (λW (hW:Below W2.heap.size W2 W)=>(⟨(kx.below hW).cell 0,(kx.below hW).cell 1,(kx.below hW).cell 2,((hW.cell (p:=⟨g1,_,none⟩) h12).trans (hq _)).trans c0,((hW.cell (p:=⟨g1,_,none⟩) h12).trans (hq _)).trans c1,((hW.cell (p:=⟨g1,_,none⟩) h12).trans (hq _)).trans c2⟩:W.cell? ⟨bx,0,none⟩=some (.int .i64 (x'.await:Int))∧W.cell? ⟨bx,1,none⟩=some (.slice y x'.pend.length cy)∧W.cell? ⟨bx,2,none⟩=some (.bool x'.body)∧W.cell? ⟨g1,f1+j*3,none⟩=some (.int .i64 (x'.await:Int))∧W.cell? ⟨g1,f1+j*3+1,none⟩=some (.slice xo x'.pend.length xc)∧W.cell? ⟨g1,f1+j*3+2,none⟩=some (.bool x'.body)));have yg:=hid (Tf.trans (hal.mono Tf.size));clear hL2 hX2 hq h12 kx hal Tf hb4 hL4 c0 c1 c2 h1
       go_upto_region 19 with fail
       obtain⟨x0,x1,x2,d0,d1,d2⟩:=VB.out W2.drew (Below.refl _ _).drew
       go_region_law (first
        |(refine Rk (by rfl) Tryz.func21 (by kernel_rfl) (by kernel_rfl) _ _ (by rfl) [.agg #[.int .i64 (x'.await:Int),.slice y x'.pend.length cy,.bool x'.body],.agg #[.int .i64 (x'.await:Int),.slice xo x'.pend.length xc,.bool x'.body]] (by rfl) _ (HSX.out _ (Below.refl W2.heap.size W2).drew) ?_;intro v w8 hh;obtain⟨nZ,hb8⟩:=hh;subst nZ))
       all_goals
        have KD:=hid (yg.out.trans (hb8.mono yg.out.size));clear hb8 x0 x1 x2 d0 d1 d2 hW2 hbx;go_wp2
        go_roundw
        case rel=>exact⟨j+1,by omega,by go_num,KD.out⟩
        case measure=>simp[intOf];omega
      ·have q2:¬(j:Int)<(N:Int):=by omega
       by_cases hot:other<0∨(N:Int)≤other
       ·have HC:=hid (HA2.out _ (HB3.out.trans (hbl.mono HB3.out.size)) other hot)
        have hcase:other<0∨(¬other<0∧(N:Int)≤other):=by omega
        clear hot hbl
        go_wp2_with fail
        refine(HC.out).mono ?_;rintro e w4 ⟨rfl,hb4⟩;have Tf:=vN.out.trans (hb4.mono vN.out.size);have J7:=hid (λW=>(ziv W [] [] none none 0 0 0 0 ⟨rfl,λj d h=>by cases h⟩ ⟨rfl,λj d h=>by cases h⟩ (Nat.zero_le _) (Nat.zero_le _) 0 0 false false).mono (λe w' ⟨h1,h2⟩=>show e=Ending.returned (.bool true)∧Below W.heap.size W w' from⟨by rw[h1,ziw],h2⟩));have HB4:=hid (Us.out.trans (Tf.mono Us.out.size));clear hb4 Tf;rcases hcase with u1|⟨u0,u1⟩
        all_goals
         go_wp2_with fail
         refine(J7.out _).mono ?_;rintro e w5 ⟨rfl,hb5⟩;go_wp2;go_ret;exact⟨rfl,HB4.out.trans ((((Below.refl w4.heap.size w4).alloc (Nat.le_refl _) _).trans (hb5.mono (by rw[World.size_alloc];omega))).mono HB4.out.size)⟩
       ·obtain⟨k,rfl⟩:∃k:Nat,other=(k:Int):=⟨other.toNat,by omega⟩
        obtain⟨x,hx,hxp,hC⟩:=HA1.out _ (HB3.out.trans (hbl.mono HB3.out.size)) k (by omega);have HC:=hid hC;have u1:¬(k:Int)<0:=by omega
        have u2:¬(N:Int)≤(k:Int):=by omega
        clear hC hx hxp hot hbl
        go_wp2_with fail
        refine(HC.out).mono ?_;rintro e w4 ⟨y,cy,rfl,hL4,hb4⟩;have Tf:=vN.out.trans (hb4.mono vN.out.size);have HB4:=hid (Us.out.trans (Tf.mono Us.out.size));clear hb4 Tf hL4;go_wp2;go_ret;exact⟨rfl,HB4.out.trans ((Below.refl _ _).alloc (Nat.le_refl _) _|>.mono HB4.out.size)⟩
end Go.Proofs.YtdjcidackkogjaaGreatDoor

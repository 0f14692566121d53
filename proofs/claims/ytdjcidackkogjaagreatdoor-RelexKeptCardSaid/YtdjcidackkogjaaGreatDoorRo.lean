/- What the statements' right of layer 10 (relex) ret -/
import Derived.Test.YtdjcidackkogjaaGreatDoorRi
import Derived.Test.YtdjcidackkogjaaGreatDoorCards
import Derived.Test.YtdjcidackkogjaaGreatDoorTie
import Derived.Deep.DeepHandedRow
import Derived.Lay
import Derived.Lib.SmallJoins
import Derived.StillTailTactics
import Derived.Test.YtdjcidackkogjaaGreatDoorRxAh
namespace Go.Proofs.YtdjcidackkogjaaGreatDoor
set_option linter.unusedSectionVars false
set_option linter.unusedVariables false
open Lib(hid)
set_option maxHeartbeats 8000000
set_option maxRecDepth 100000
open Go Go.RowKit
theorem Rk{ops:Array Oper}{o:Oper}{a:Act}{w:World}{K:Act→World→Prop}{Q:Exit→Act→World→Prop}{E:Prop}(hw:Region.wanted o (yielded ops a.tmps)=true){f:FuncId}{fn:Func}(hf:Tryz.prog.funcs[f]?=some fn)(hname:(fn.name== "runtime.NumGoroutine")=false)(hb:fn.body.isSome=true)(args:List Operand)(rF:Array TypeId)
 (ho:o.op=.call {callee:=.value (.func f),args:=args.toArray,argTypes:=rF})(vs:List Value)(hv:args.map a.eval=vs)(R:Value→World→Prop)
 (hc:Calls Tryz.prog f vs.toArray w λe w'=>∃v,e=.returned v∧R v w')(h:∀v w',R v w'→K (a.put o.dst v) w'):
  if Region.wanted o (yielded ops a.tmps)=true then Oper.wp Tryz.prog o a w K Q else E:=by
 rw[if_pos hw];have e1:a.eval (.func f)=.func (.func f) #[] #[]:=rfl;unfold Oper.wp execOp;simp only[ho,resolve,List.map_toArray,hv,e1,Deferred.ofValue,invoke,Sem.run_bind,Sem.run_pure,Result.andThen_ok,Array.empty_append,Array.append_empty,PT hf hname hb];rw[Oper.upon_enter];refine hc.mono ?_;rintro e w' ⟨v,rfl,hr⟩;exact h v w' hr
def awA:ByteArray:=⟨#[97,32,98,32,99]⟩
def awB:ByteArray:=⟨#[97,32,98,98,32,99]⟩
theorem AZ:ui awA=[(⟨6,0,1,false⟩,Lx.zero),(⟨1,1,2,false⟩,Lx.zero),(⟨6,2,3,false⟩,Lx.zero),(⟨1,3,4,false⟩,Lx.zero),(⟨6,4,5,false⟩,Lx.zero)]:=by kernel_rfl
theorem OQ:ui awB=[(⟨6,0,1,false⟩,Lx.zero),(⟨1,1,2,false⟩,Lx.zero),(⟨6,2,4,false⟩,Lx.zero),(⟨1,4,5,false⟩,Lx.zero),(⟨6,5,6,false⟩,Lx.zero)]:=by kernel_rfl
theorem A7:xP awA 2 ⟨#[98]⟩ ⟨#[98,98]⟩=awB:=by kernel_rfl
theorem Ro{I:List (Tk×Mk)}{L:List Tk}(h:L=I.map Prod.fst){i:Nat}{t:Tk}(ht:L[i]?=some t):∃q,I[i]?=some q∧q.1=t:=by
 rw[h,List.getElem?_map]at ht
 cases hq:I[i]? with
 |none=>rw[hq]at ht;cases ht
 |some q=>
  rw[hq]at ht;exact⟨q,rfl,by simpa using ht⟩
theorem zix{I I':List (Tk×Mk)}{D D':List Dl}{E E':Mk}{hd tail:Nat}(hP:zl awA D 0 Mk.zero I awA.size E)(hP':zl awB D' 0 Mk.zero I' awB.size E')(hk:OB I D I' D' 2 1 ((2:Int)-1) hd tail):hd=0∧tail=2:=by
 have h1:=hP.whole.1;have h2:=hP'.whole.1;rw[AZ]at h1;rw[OQ]at h2;have hl:I.length=5:=by simpa using(congrArg List.length h1).symm
 obtain⟨k1,k2,k3,k4⟩:=hk;obtain⟨q0,a0,b0⟩:=Ro h1 (i:=0) rfl;obtain⟨q1,a1,b1⟩:=Ro h1 (i:=1) rfl;obtain⟨q2,a2,b2⟩:=Ro h1 (i:=2) rfl;obtain⟨q3,a3,b3⟩:=Ro h1 (i:=3) rfl;obtain⟨r3,c3,d3⟩:=Ro h2 (i:=3) rfl;have hx:zi q3.2 D=Lx.zero:=by
  have:=hP.ahead a3;rw[AZ]at this;simpa using this.symm
 have hy:zi r3.2 D'=Lx.zero:=by
  have:=hP'.ahead c3;rw[OQ]at this;simpa using this.symm
 constructor
 ·have:=(k2 0 q0 a0).1
  rw[b0]at this;simp only at this;omega
 ·rcases Nat.lt_or_ge tail 2 with h|h
  ·exfalso
   refine k3 3 3 q3 r3 (by omega) (by rw[b3];show 2+1≤3;omega) a3 c3 (by rw[b3,d3];rfl) ?_;rw[hx,hy]
  ·rcases Nat.lt_or_ge 2 tail with h'|h'
   ·exfalso
    obtain⟨r,j,q,e1,e2,_⟩:=k4 (by omega);have e3:I.length-tail=0∨I.length-tail=1∨I.length-tail=2:=by omega
    rcases e3 with e3|e3|e3
    ·rw[e3,a0]at e1;cases e1;rw[b0]at e2;simp at e2
    ·rw[e3,a1]at e1;cases e1;rw[b1]at e2;simp at e2
    ·rw[e3,a2]at e1;cases e1;rw[b2]at e2;simp at e2
   ·omega
theorem A8(a b c d:Int)(w:World):(Op.equalIn 10000 31 (.agg #[.int .i64 a,.int .i64 b]) (.agg #[.int .i64 c,.int .i64 d])).run Tryz.prog w=.ok (a==c && b==d) w:=by
 have u3:=Tryz.underlying3;have a3:=Tryz.isAgg3;have z3:=Tryz.sizeOf3;have hS:Tryz.prog.underlying 31=some (.struct (Tryz.prog.fieldsOf 31)):=by kernel_rfl
 rw[show(10000:Nat)=9999+1 from rfl,run_equalIn_agg w 9999 31 _ _ hS (by kernel_rfl)];simp only[Program.fieldsOf,Tryz.underlying31]
 go_simp
 by_cases h1:a=c<;>by_cases h2:b=d<;>simp[h1,h2]
theorem ziy(a b c d:Int)(w:World):(binOp .eql 31 (.agg #[.int .i64 a,.int .i64 b]) (.agg #[.int .i64 c,.int .i64 d])).run Tryz.prog w=.ok (.bool (a==c && b==d)) w:=by
 rw[run_eql_struct,A8];simp[Result.andThen]
theorem ziz(a b c d:Int)(w:World):(binOp .neq 31 (.agg #[.int .i64 a,.int .i64 b]) (.agg #[.int .i64 c,.int .i64 d])).run Tryz.prog w=.ok (.bool (!(a==c && b==d))) w:=by
 rw[run_neq_struct,A8];simp[Result.andThen]
theorem Ua(w:World)(hT:Tx w):Calls Tryz.prog 9 #[] w λe w'=>e=.returned (.bool true)∧Below w.heap.size w w':=by
 have HN:=hid (OI w hT awA (by decide));have HT:=hid hT;have hkk:=λW=>ziy 0 2 0 2 W;simp only[beq_self_eq_true,Bool.and_self]at hkk;unfold awA at HN;obtain⟨b,hb⟩:∃b,w.heap.size=b:=⟨_,rfl⟩;rw[hb]at HN;have HB:=hid hb;clear hT hb;go_enter Tryz.func9,Tryz.ntmps9
 go_wp2_with fail
 refine(HN.out).mono ?_;rintro e w1 ⟨rfl,hD,hb1⟩;obtain⟨I,E,D,g,ni,ci,od,nd,cd,hV,hic,_⟩:=hD (λ_=>False) (λ_ h=>h.elim);rw[←HB.out]at hb1;have HA:=hid (OC w1 b awA I E D _ ni ci od nd cd hV hic (.inr ⟨g,0,rfl⟩) (by have:=HT.out.1;have:=HB.out;omega) (HT.out.b hb1) 2 ⟨#[98]⟩ ⟨#[98,98]⟩ (by decide) (by decide) (by decide) (by rw[A7];decide));have HV:=hid (And.intro hV hb1);clear hD hV hb1
 go_wp2_with fail
 refine(HA.out).mono ?_;rintro e w2 ⟨h,t,I',E',D',g',Qg,ci',Qh,KE,KF,rfl,hV',q1,q2,q3,hF,hk⟩;rw[A7]at hV';obtain⟨rfl,rfl⟩:=zix HV.out.1.path hV'.path hk.1;have hl5:Qg=5:=by
  have h1:=hV'.path.whole.1;rw[OQ]at h1;have h2:I'.length=5:=by simpa using(congrArg List.length h1).symm
  have:=hV'.its.len;omega
 subst hl5;have hal:=(Below.refl w2.heap.size w2).alloc (Nat.le_refl _) (.cells #[.int .i64 0,.int .i64 2] 31);have hV2:=hV'.below hal;have Rl:=hid (OO _ b awB I' E' D' _ 5 ci' Qh KE KF hV2);have hB2:Below w.heap.size w w2:=HV.out.2.trans (hF.below HV.out.2.size (λj hj=>by have:=HB.out;omega));have HB2:=hid (hB2.trans (hal.mono hB2.size));clear hk hV' q1 q2 q3 hF hal hV2 hB2
 go_wp2_with fail
 refine(Rl.out).mono ?_;rintro e w3 ⟨z,c,rfl,_,_,hb3,_⟩;go_wp2;go_ret;exact⟨rfl,HB2.out.trans (hb3.mono HB2.out.size)⟩
def KL(W:World)(oa:Option Addr)(n:Nat)(av:Nat→Int)(dv nv:Nat→ByteArray):Prop:=
 ∀i,i<n→∃b off,oa=some ⟨b,off,none⟩∧b<W.heap.size∧W.cell? ⟨b,off+i*3,none⟩=some (.int .i64 (av i))∧W.cell? ⟨b,off+i*3+1,none⟩=some (.string (dv i))∧W.cell? ⟨b,off+i*3+2,none⟩=some (.string (nv i))
theorem KL.below{w w':World}{oa:Option Addr}{n:Nat}{av:Nat→Int}{dv nv:Nat→ByteArray}(h:KL w oa n av dv nv)(hb:Below w.heap.size w w'):KL w' oa n av dv nv:=λi hi=>by
 obtain⟨b,off,e,hl,h0,h1,h2⟩:=h i hi;exact⟨b,off,e,Nat.lt_of_lt_of_le hl hb.size,(hb.cell (p:=⟨b,_,none⟩) hl).trans h0,(hb.cell (p:=⟨b,_,none⟩) hl).trans h1,(hb.cell (p:=⟨b,_,none⟩) hl).trans h2⟩
section
variable{H:Type}{enc:TypeId×Value→H}{w:World}{base:Nat}{spare:Nat→Bool}{held:Bool}
theorem Ut{n:Nat}{cs:List Value}{x:DataW H×List MemPlace}(h:DataW.trod enc Tryz.prog w base spare held n 35 cs=some x):
  ∃(a:Int) (d m:ByteArray),cs=[.int .i64 a,.string d,.string m]:=by
 obtain⟨xs,k,_,hx,hlen,hxl,hg⟩:=DataW.trod_struct Tryz.underlying35 h;rw[show Tryz.prog.cellsOf 35=3 from by kernel_rfl]at hlen
 match cs,hlen with
 | [c0,c1,c2],_=>
  match xs,hxl with
  | [y0,y1,y2],_=>
   have e0:DataW.trod enc Tryz.prog w base spare held k 3 (([c0,c1,c2].drop 0).take (Tryz.prog.cellsOf 3))=some y0:=hg 0 _ rfl;have e1:DataW.trod enc Tryz.prog w base spare held k 9 (([c0,c1,c2].drop 1).take (Tryz.prog.cellsOf 9))=some y1:=hg 1 _ rfl;have e2:DataW.trod enc Tryz.prog w base spare held k 9 (([c0,c1,c2].drop 2).take (Tryz.prog.cellsOf 9))=some y2:=hg 2 _ rfl;rw[show Tryz.prog.cellsOf 3=1 from by kernel_rfl]at e0;rw[show Tryz.prog.cellsOf 9=1 from by kernel_rfl]at e1 e2;simp at e0 e1 e2;obtain⟨a,x0,z0,_⟩:=DataW.trod_int Tryz.underlying3 e0;obtain⟨d,x1,z1,_⟩:=DataW.trod_string Tryz.underlying9 e1;obtain⟨m,x2,z2,_⟩:=DataW.trod_string Tryz.underlying9 e2;simp at x0 x1 x2;subst x0 x1 x2;exact⟨a,d,m,rfl⟩
theorem zop{fuel:Nat}{cs:List Value}{x:DataW H×List MemPlace}(h:DataW.trod enc Tryz.prog w base spare held fuel 35 cs=some x):∃(a:Int) (d m:ByteArray),cs=[.int .i64 a,.string d,.string m]:=Ut h
end
open Go.ChangeShapes Go.WideShapes Go.ChangeAt Go.RowKit
def O8:List (List UInt8):=(List.range 18).map λi=>(txt i).data.toList
theorem Uu:Tryz.prog.globalNamed "quillwort/oper.texts"=some 0:=by kernel_rfl
theorem ziK:(Tryz.prog.globals[0]?).map (·.type)=some 184:=by kernel_rfl
theorem ziL:Tryz.prog.cellsOf 184=18:=by kernel_rfl
theorem ziM:Tryz.prog.cellsOf 9=1:=by kernel_rfl
theorem Uf{W:World}(h:laidMet Tryz.prog [("unicode/utf8.acceptRanges",Rows.laid_unicode_utf8_acceptRanges),("quillwort/oper.texts",Rows.laid_quillwort_oper_texts),("unicode/utf8.first",Rows.laid_unicode_utf8_first)] W):Tx W:=by
 obtain⟨ps0,⟨g0,t0,cs0,fuel0,p0,q0,hg0,ht0,zmP,hd0,htail,_⟩,_⟩:=h;obtain⟨g',t',cs,fuel,p,q,hg',ht',hvar,hd,_,_⟩:=htail;obtain rfl:=Option.some.inj (Uu.symm.trans hg');obtain rfl:=Option.some.inj (ziK.symm.trans ht');have hcell:∀i,i<18→W.cell? ⟨0,i,none⟩=some (.string (txt i)):=λi hi=>by
  obtain⟨xs,m,-,hx,hlen,hn,hel⟩:=DataW.trod_array Tryz.underlying184 hd;rw[ziL]at hlen;have hi2:i<xs.length:=by omega
  have h1:=hel i hi;rw[ziM,Nat.mul_one,List.getElem?_eq_getElem hi2]at h1;obtain⟨z,hz,hxi,-⟩:=DataW.trod_string Tryz.underlying9 h1;have hti:(O8.map λt=>(DataW.lit (.string t):DataW Unit))[i]?=some (.lit (.string z.data.toList)):=by
   have e:O8.map (λt=>(DataW.lit (.string t):DataW Unit))=xs.map (·.1):=(DataW.agg.inj (Prod.mk.inj hx).1:);rw[e,List.getElem?_map,List.getElem?_eq_getElem hi2,hxi];rfl
  have lq:z=txt i:=by
   have e:(txt i).data.toList=z.data.toList:=by simpa[O8,hi]using hti
   exact ByteArray.ext (Array.toList_inj.1 e.symm)
  have hc:cs[i]?=some (.string z):=by
   have e:=congrArg (·[0]?) hz;simpa[List.getElem?_take,List.getElem?_drop]using e
  have hv:=World.var?_cell Uu hvar i;rw[hv,←lq,←hc]
 refine⟨?_,hcell⟩;have h0:=hcell 0 (by omega);refine Nat.pos_of_ne_zero λg=>?_;have:W.heap[0]?=none:=Array.getElem?_eq_none (by omega);simp[World.cell?,this]at h0
theorem Na:laidOutB Tryz.prog=true:=by kernel_rfl
theorem Ui:mapsRowed Tryz.prog=true:=by kernel_rfl
theorem Uj:(Rows.relexFollowsRow.plainKeys==Tryz.prog.plainKeys)=true:=by kernel_rfl
theorem Uk:Tryz.prog.stopsHeard=true:=by kernel_rfl
theorem Ul:Tryz.prog.mayEnter=true:=by kernel_rfl
theorem Um:(Rows.relexFollowsRow.lifted==Tryz.prog.liftsFinal)=true:=by kernel_rfl
theorem Un:(Tryz.prog.make==some Rows.relexFollowsRow.make)=true:=by kernel_rfl
noncomputable def KN(os:Os):World:=World.laidAll Tryz.prog os [("unicode/utf8.acceptRanges",Rows.laid_unicode_utf8_acceptRanges),("quillwort/oper.texts",Rows.laid_quillwort_oper_texts),("unicode/utf8.first",Rows.laid_unicode_utf8_first)]
theorem Uh(os:Os):(KN os).os=os:=World.laidAll_os _ _ _
theorem Ud(s d n:ByteArray)(w:World)(a:Int)(h:vF s a d n=0)(hs:s.size≤281474976710656)(hns:n.size≤281474976710656):
  Calls Tryz.prog 15 #[.string s,.agg #[.int .i64 a,.string d,.string n]] w λe w'=>e=.returned (.string (xP s a.toNat d n))∧Below w.heap.size w w':=by
 have hf:=(G7 h).2.2.1.1;obtain⟨k,rfl⟩:=Int.eq_ofNat_of_zero_le (G7 h).1;simp only[Int.toNat_natCast]at hf;exact zib s d n k w (by omega) hs hns
theorem ZL.ne{W W':World}{z b n:Nat}{l:List Tk}(h:ZL W (some ⟨z,0,none⟩) n l)(hz:z≠b)(hf:zg (λk=>k=b) W W'):ZL W' (some ⟨z,0,none⟩) n l:=
 ⟨h.len,λj d hj=>by
  obtain⟨b',off,h1,h2,h3,h4,h5,h6⟩:=h.cells j d hj;cases h1;have e:∀o,W'.cell? ⟨z,o,none⟩=W.cell? ⟨z,o,none⟩:=λo=>hf.cell (a:=⟨z,o,none⟩) h2 hz;exact⟨z,0,rfl,Nat.lt_of_lt_of_le h2 hf.size,(e _).trans h3,(e _).trans h4,(e _).trans h5,(e _).trans h6⟩⟩
theorem XC.ne{W W':World}{b:Nat}{Av:Nat→Prop}{s:ByteArray}{oa:Option Addr}{n:Nat}{l:List Dl}(h:XC W oa n l)(hD:ZK W b Av s)(hf:zg (λk=>k=b) W W'):XC W' oa n l:=
 ⟨h.len,λj d hj=>by
  obtain⟨b',off,h1,h2,h3,h4⟩:=h.cells j d hj;have hne:¬b'=b:=λe=>by
   subst e;obtain⟨I,E,D,g,ni,ci,od,nd,cd,hV,_⟩:=hD;have k:=hV.blk;rw[k.cell]at h3 h4;generalize off+j*2=i at h3 h4
   match i,h3,h4 with
   |0,_,h4=>cases h4
   |1,h3,_=>cases h3
   |2,h3,_=>cases h3
   |3,h3,_=>cases h3
   |4,h3,_=>cases h3
   |5,h3,_=>cases h3
   |6,h3,_=>cases h3
   |i+7,h3,_=>simp at h3
  exact⟨b',off,h1,Nat.lt_of_lt_of_le h2 hf.size,(hf.cell (a:=⟨b',_,none⟩) h2 hne).trans h3,(hf.cell (a:=⟨b',_,none⟩) h2 hne).trans h4⟩⟩
theorem znK{s:ByteArray}{D:List Dl}{I:List (Tk×Mk)}{E:Mk}(h:zl s D 0 Mk.zero I s.size E){i:Nat}{r:Tk}(hr:(tL s)[i]?=some r):∃q,I[i]?=some q∧q.1=r∧(znD s)[i]?=some (zi q.2 D):=by
 have e:tL s=I.map Prod.fst:=h.whole.1;rw[e,List.getElem?_map]at hr
 cases hq:I[i]? with
 |none=>rw[hq]at hr;cases hr
 |some q=>
  rw[hq]at hr;exact⟨q,rfl,by simpa using hr,h.ahead hq⟩
theorem znU{s:ByteArray}{D:List Dl}{I:List (Tk×Mk)}{E:Mk}(h:zl s D 0 Mk.zero I s.size E){i:Nat}{q:Tk×Mk}(hq:I[i]?=some q):(tL s)[i]?=some q.1∧(znD s)[i]?=some (zi q.2 D):=by
 have e:tL s=I.map Prod.fst:=h.whole.1;exact⟨by rw[e,List.getElem?_map,hq];rfl,h.ahead hq⟩
theorem zof{s t:ByteArray}{D D':List Dl}{I I':List (Tk×Mk)}{E E':Mk}(h:zl s D 0 Mk.zero I s.size E)(h':zl t D' 0 Mk.zero I' t.size E'){at' dl hd tail:Nat}{more:Int}(hm:more=(t.size:Int)-(s.size:Int))(hK:OB I D I' D' at' dl more hd tail):znL s t at' dl hd tail:=by
 have hl:(ui s).length=I.length:=by simpa using congrArg List.length h.whole.1
 obtain⟨k1,k2,k3,k4⟩:=hK;refine⟨by omega,λi r hr=>?_,λi j hi hM=>?_,λh0=>?_⟩
 ·obtain⟨q,hq,rfl,_⟩:=znK h hr
  exact k2 i q hq
 ·obtain⟨r,q,x,g1,g2,g3,g4,g5,g6⟩:=hM
  obtain⟨p,hp,rfl,hz⟩:=znK h g1;obtain⟨p',hp',rfl,hz'⟩:=znK h' g3;rw[hz]at g5;rw[hz']at g6;exact k3 i j p p' (by omega) g2 hp hp' (by omega) ((Option.some.inj g6).trans (Option.some.inj g5).symm)
 ·obtain⟨p,j,p',hp,g2,hp',g4,g5⟩:=k4 h0
  have a1:=znU h hp;have a2:=znU h' hp';rw[←hl]at a1;exact⟨j,p.1,p'.1,zi p.2 D,a1.1,g2,a2.1,by omega,a1.2,by rw[a2.2,g5]⟩
theorem ZL.take{W:World}{oa:Option Addr}{n m:Nat}{l:List Tk}(h:ZL W oa n l)(hm:m≤n):ZL W oa m (l.take m):=
 ⟨by rw[List.length_take];have:=h.len;omega,λj q hj=>by
  rw[List.getElem?_take]at hj;split at hj
  ·exact h.cells j q hj
  ·cases hj⟩
theorem ShT.len{I I':List (Tk×Mk)}{hd tail a b:Nat}(h:ShT I I' hd tail a b)(hl:hd+tail≤I.length):hd+tail≤I'.length:=by
 obtain⟨m,hm⟩:=h;have:=congrArg List.length hm;simp only[List.length_map,List.length_append,List.length_take,List.length_drop]at this;omega
theorem ShT.fst{I I':List (Tk×Mk)}{hd tail a b:Nat}(h:ShT I I' hd tail a b)(hl:hd+tail≤I.length):(I'.map Prod.fst).take hd=(I.map Prod.fst).take hd:=by
 obtain⟨m,hm⟩:=h;rw[hm,List.append_assoc,List.take_append_of_le_length (by simp;omega),List.map_take,List.take_take,Nat.min_self]
theorem ShT.lst{I I':List (Tk×Mk)}{hd tail a b i:Nat}(h:ShT I I' hd tail a b)(hl:hd+tail≤I.length)(hi:1≤i)(hi2:i≤tail):∃q,(I.map Prod.fst)[I.length-i]?=some q∧(I'.map Prod.fst)[I'.length-i]?=some (q.mv a b):=by
 obtain⟨m,hm⟩:=h;have hlen:=congrArg List.length hm;simp only[List.length_map,List.length_append,List.length_take,List.length_drop]at hlen;have hq:I[I.length-i]?=some (I[I.length-i]'(by omega)):=List.getElem?_eq_getElem _;refine⟨_,by rw[List.getElem?_map,hq];rfl,?_⟩;rw[hm,List.getElem?_append_right (by simp;omega),List.getElem?_map,List.getElem?_drop];have e:I.length-tail+(I'.length-i-((I.take hd).map Prod.fst++m).length)=I.length-i:=by
  simp only[List.length_append,List.length_map,List.length_take];omega
 rw[e,hq];rfl
theorem znV(s:ByteArray):∀(k a:Nat) (x:Lx) (q:Tk×Lx),q∈vO s k a x→a≤q.1.zf
 |0,_,_,_,h=>by cases h
 |k+1,a,x,q,h=>by
  unfold vO at h;split at h
  ·rename_i hlt
   have h1:=jB x hlt;rcases List.mem_cons.1 h with rfl|h
   ·show a≤(zo s a x).zf
    omega
   ·have:=znV s k _ _ q h
    omega
  ·cases h
theorem znW(s:ByteArray):∀(k a:Nat) (x:Lx) (i j:Nat) (p q:Tk×Lx),(vO s k a x)[i]?=some p→(vO s k a x)[j]?=some q→i≤j→p.1.zf≤q.1.zf
 |0,_,_,_,_,_,_,h,_,_=>by cases h
 |k+1,a,x,i,j,p,q,hp,hq,hij=>by
  unfold vO at hp hq;split at hp
  ·rename_i hlt
   rw[if_pos hlt]at hq;have h1:=jB x hlt
   match i,j,hp,hq,hij with
   |0,0,hp,hq,_=>rw[hp]at hq;cases hq;exact Nat.le_refl _
   |0,j+1,hp,hq,_=>
    cases hp;have:=znV s k _ _ q (List.mem_of_getElem? hq);show(zo s a x).zf≤_;omega
   |i+1,j+1,hp,hq,hij=>exact znW s k _ _ i j p q hp hq (by omega)
  ·cases hp
theorem zog{s:ByteArray}{i j:Nat}{p q:Tk}(hp:(tL s)[i]?=some p)(hq:(tL s)[j]?=some q)(hij:i≤j):p.zf≤q.zf:=by
 unfold tL at hp hq;rw[List.getElem?_map]at hp hq
 cases h1:(ui s)[i]? with
 |none=>rw[h1]at hp;cases hp
 |some p1=>
  cases h2:(ui s)[j]? with
  |none=>rw[h2]at hq;cases hq
  |some q1=>
   rw[h1]at hp;rw[h2]at hq;cases hp;cases hq;exact znW s _ _ _ i j p1 q1 h1 h2 hij
theorem znX(s:ByteArray):∀(k a:Nat) (x:Lx) (q:Tk×Lx),q∈vO s k a x→q.1.zf≤q.1.en
 |0,_,_,_,h=>by cases h
 |k+1,a,x,q,h=>by
  unfold vO at h;split at h
  ·rename_i hlt
   have h1:=jB x hlt;rcases List.mem_cons.1 h with rfl|h
   ·show(zo s a x).zf≤(zo s a x).en
    omega
   ·exact znX s k _ _ q h
  ·cases h
theorem zoh{s:ByteArray}{i:Nat}{p:Tk}(hp:(tL s)[i]?=some p):p.zf≤p.en:=by
 unfold tL at hp;rw[List.getElem?_map]at hp
 cases h1:(ui s)[i]? with
 |none=>rw[h1]at hp;cases hp
 |some p1=>
  rw[h1]at hp;cases hp;exact znX s _ _ _ p1 (List.mem_of_getElem? h1)
theorem zoi{s t:ByteArray}{at' dl h u i:Nat}{q:Tk}(hK:znL s t at' dl h u)(h1:1≤i)(hi:i≤u)(hq:(tL s)[(ui s).length-i]?=some q):s.size≤q.zf+t.size:=by
 obtain⟨j,r,q2,x,g1,_,_,g4,_,_⟩:=hK.yes (by omega);have:=zog g1 hq (by omega);omega
def KpL(W:World)(tl:Nat)(v:Value)(wr:World):Prop:=∃i:Nat,1≤i∧i≤tl+1∧v=.int .i64 (i:Int)∧Below W.heap.size W wr
theorem kept10_law(w:World)(hT:Tx w)(s:ByteArray)(hz:s.size≤9223372036854775807)(a:Int)(d n:ByteArray):Calls Tryz.prog 4 #[.string s,.agg #[.int .i64 a,.string d,.string n]] w λe w'=>e=.returned (.bool true)∧Below w.heap.size w w':=by
 obtain⟨z,hzz⟩:∃z,w.heap.size=z:=⟨_,rfl⟩;obtain⟨W0,hW0⟩:∃X,w.alloc (.cells #[.int .i64 a,.string d,.string n] 35)=X:=⟨_,rfl⟩;have hB0:Below w.heap.size w W0:=by rw[←hW0];exact(Below.refl _ _).alloc (Nat.le_refl _) _
 have kz:zh W0 z #[.int .i64 a,.string d,.string n] 35:=by rw[←hW0,←hzz];exact zh.new _ _ _
 have HT:=hid (And.intro hT (hT.b hB0));have HB0:=hid hB0;have Qd:=hid kz;clear hT hB0 kz;go_enter Tryz.func4,Tryz.ntmps4
 go_wp2_with fail
 have HW0:=hid (And.intro hW0 hzz);clear hW0 hzz;refine(Ua W0 HT.out.2).mono ?_;rintro e w1 ⟨rfl,hb1⟩;have HB1:=hid (HB0.out.trans (hb1.mono HB0.out.size));have kz1:=Qd.out.below hb1;have c0:=kz1.cell 0;have c1:=kz1.cell 1;have c2:=kz1.cell 2;have zoj:=hid kz1;clear hb1 kz1;by_cases ziA:(100:Int)<(s.size:Int)
 ·go_wp2
  go_ret;exact⟨rfl,HB1.out⟩
 ·by_cases hd:(60:Int)<(d.size:Int)
  ·go_wp2
   go_ret;exact⟨rfl,HB1.out⟩
  ·by_cases hn:(60:Int)<(n.size:Int)
   ·go_wp2
    go_ret;exact⟨rfl,HB1.out⟩
   ·obtain⟨k,hk⟩:∃k,vF s a d n=k:=⟨_,rfl⟩
    go_wp2_with fail
    refine(AP s d n w1 a k hk (by omega) (by omega)).mono ?_;rintro e w2 ⟨rfl,hb2⟩;have HB2:=hid (HB1.out.trans (hb2.mono HB1.out.size));have RP:=zoj.out.below hb2;have zjQ:=hid RP;clear c0 c1 c2 hb2 RP;by_cases hk0:k=0
    ·subst hk0
     obtain⟨at',rfl⟩:=Int.eq_ofNat_of_zero_le (G7 hk).1;have hfit:at'+d.size≤s.size:=by have:=(G7 hk).2.2.1;simpa using this.1
     obtain⟨t,ht⟩:∃t,xP s at' d n=t:=⟨_,rfl⟩;have htz:t.size=s.size-d.size+n.size:=by rw[←ht];exact J4 hfit
     have Rt:=hid (OI w2 (HT.out.1.below HB2.out HT.out.1.1) s (by omega));obtain⟨b,hb⟩:∃b,w2.heap.size=b:=⟨_,rfl⟩;rw[hb]at Rt;have HKK:=hid (And.intro hk (And.intro ht hb));clear hk ht hb
     go_wp2_with fail
     refine(Rt.out).mono ?_;rintro e w3 ⟨rfl,hD,hb3⟩;have znM:Below w2.heap.size w2 w3:=by rw[HKK.out.2.2];exact hb3
     obtain⟨I,E,D,g,ni,ci,od,nd,cd,hV,hic,_⟩:=hD (λk=>k=b) (λk hk=>by omega);have HV:=hid (And.intro hV hic);have HB3:=hid (HB2.out.trans (znM.mono HB2.out.size));have zok:=hid (zjQ.out.below znM);have HTA:=hid (OO w3 b s I E D _ ni ci od nd cd hV);clear hD hb3 znM hV hic
     go_wp2_with fail
     refine(HTA.out).mono ?_;rintro e w4 ⟨z1,c1,rfl,hr1,hz1,hb4,hc1⟩;have KC:=HV.out.1.below hb4;have HB4:=hid (HB3.out.trans (hb4.mono HB3.out.size));have gu:=zok.out.below hb4;have e0:=gu.cell 0;have e1:=gu.cell 1;have e2:=gu.cell 2;have zol:=hid gu;have HR1:=hid (And.intro hr1 (And.intro hz1 hc1));have HV4:=hid KC;have Ru:=hid (OC w4 b s I E D _ ni ci od nd cd KC HV.out.2 (.inr ⟨g,0,rfl⟩) (by have:=HT.out.1.1;have:=HKK.out.2.2;have:=HB2.out.size;omega) (HT.out.1.below HB4.out HT.out.1.1) at' d n HKK.out.1 (by omega) (by omega) (by rw[HKK.out.2.1];omega));clear hr1 hz1 hb4 hc1 KC gu
     go_wp2_with fail
     refine(Ru.out).mono ?_;rintro e w5 ⟨hd',tl,I',E',D',g',Qg,ci',Qh,KE,KF,rfl,hV',q1,q2,q3,hF,hKP,hSh⟩;rw[HKK.out.2.1]at hV' hSh;have hmm:(n.size:Int)-(d.size:Int)=(t.size:Int)-(s.size:Int):=by omega
     have hKT:=zof HV.out.1.path hV'.path hmm hKP;have hbw:w.heap.size≤b:=by have:=HKK.out.2.2;have:=HB2.out.size;omega
     have yA:Below w.heap.size w w5:=HB4.out.trans (hF.below HB4.out.size (λj hj=>by omega));have hzb:z<b:=by have:=zjQ.out.lt;have:=HKK.out.2.2;omega
     have hz1b:z1≠b:=by have:=HV.out.1.blk.lt;have:=HR1.out.2.1;omega
     have vg:=zol.out.zf hF (show ¬z=b by omega);have AY:=HR1.out.1.ne hz1b hF;have hal:=ziJ (Below.refl w5.heap.size w5) (.cells #[.int .i64 (hd':Int),.int .i64 (tl:Int)] 31);have kk:=zh.new w5 #[.int .i64 (hd':Int),.int .i64 (tl:Int)] 31;obtain⟨W6,hW6⟩:∃X,w5.alloc (.cells #[.int .i64 (hd':Int),.int .i64 (tl:Int)] 31)=X:=⟨_,rfl⟩;obtain⟨kb,hkb⟩:∃x,w5.heap.size=x:=⟨_,rfl⟩;rw[hW6]at hal kk;rw[hkb]at kk;have xH:=vg.below hal;have jI:=hid (yA.trans (hal.mono yA.size));have HKT:=hid (And.intro hKT (And.intro hSh q1));have HV6:=hid (hV'.below hal);have HR6:=hid (AY.below hal);have jK:=hid kk;have HZ6:=hid xH;have ZY:=hid (Ud s d n W6 at' HKK.out.1 (by omega) (by omega));rw[Int.toNat_natCast,HKK.out.2.1]at ZY;have c0:=xH.cell 0;have c1':=xH.cell 1;have c2:=xH.cell 2;clear e0 e1 e2 hV' q1 q2 q3 hF hKP hSh hKT yA vg AY hal kk xH hmm
     go_wp2_with fail
     refine(ZY.out).mono ?_;rintro e w7 ⟨rfl,hb7⟩;have Qi:=hid (jI.out.trans (hb7.mono jI.out.size));have HV7:=hid (HV6.out.below hb7);have HR7:=hid (HR6.out.below hb7);have VB:=hid (λW (hW:Below w7.heap.size w7 W)=>(⟨((jK.out.below hb7).below hW).cell 0,((jK.out.below hb7).below hW).cell 1,((HZ6.out.below hb7).below hW).cell 0,((HZ6.out.below hb7).below hW).cell 1,((HZ6.out.below hb7).below hW).cell 2⟩:W.cell? ⟨kb,0,none⟩=some (.int .i64 (hd':Int))∧W.cell? ⟨kb,1,none⟩=some (.int .i64 (tl:Int))∧W.cell? ⟨z,0,none⟩=some (.int .i64 (at':Int))∧W.cell? ⟨z,1,none⟩=some (.string d)∧W.cell? ⟨z,2,none⟩=some (.string n)));have C9:=hid (λW (hW:Below w7.heap.size w7 W)=>show Calls Tryz.prog 17 #[.string s,.agg #[.int .i64 (at':Int),.string d,.string n],.string t] W λe w'=>∃v,e=.returned v∧v=.agg #[.int .i64 (hd':Int),.int .i64 (tl:Int)]∧Below w7.heap.size w7 w' from(zom W s t d n at' hd' tl (by omega) (by omega) (by omega) (by omega) HKT.out.1).mono (λe w' ⟨h1,h2⟩=>⟨_,h1,rfl,hW.trans (h2.mono hW.size)⟩));have HKB:=hid hkb;have hnk:=λW=>ziz hd' tl hd' tl W;clear c0 c1' c2 hb7 hW6 hkb
     go_upto_region 11 with fail
     obtain⟨x0,x1,x2,x3,x4⟩:=VB.out w7.drew (Below.refl _ _).drew
     go_region_held_law (λW=>W.cell? ⟨kb,0,none⟩=some (.int .i64 (hd':Int))∧W.cell? ⟨kb,1,none⟩=some (.int .i64 (tl:Int))∧W.cell? ⟨z,0,none⟩=some (.int .i64 (at':Int))∧W.cell? ⟨z,1,none⟩=some (.string d)∧W.cell? ⟨z,2,none⟩=some (.string n)) (exact VB.out _ (by first|exact(Below.refl _ _).drew|exact hb8)) ((refine Rk (by rfl) Tryz.func17 (by kernel_rfl) (by kernel_rfl) _ _ (by rfl) [.string s,.agg #[.int .i64 (at':Int),.string d,.string n],.string t] (by rfl) _ (C9.out _ (Below.refl w7.heap.size w7).drew) ?_;intro v w8 hh;obtain⟨nZ,hb8⟩:=hh;subst nZ))
     all_goals
      have Ad:=hid (HV7.out.below hb8);have KD:=hid (Qi.out.trans (hb8.mono Qi.out.size));have HR8:=hid (HR7.out.below hb8);have Bc:=hid ((jK.out.below (Below.refl _ _)));have hk8:=VB.out _ hb8;have QA:=hid (OO w8 b t I' E' D' _ Qg ci' Qh KE KF Ad.out);obtain⟨x0,x1,_⟩:=hk8;have nJ:=hb8;clear hnk hb8
      go_wp2_with fail
      refine(QA.out).mono ?_;rintro e w9 ⟨z2,c2,rfl,hr2,hz2,vH,hc2⟩;have hln:=HV.out.1.its.len;have Vx:=Ad.out.its.len;have hl1:hd'+tl≤I.length:=by have:=HKT.out.1.len;have:=congrArg List.length HV.out.1.path.whole.1;simp only[List.length_map]at this;omega
      have hl2:=HKT.out.2.1.len hl1;have hle:=YN w3 b s I E D _ ni ci od nd cd HV.out.1;have zoI:=YN w8 b t I' E' D' _ Qg ci' Qh KE KF Ad.out;have hs9:=HV.out.1.sz;have zoJ:=Ad.out.sz;have hr1:=HR8.out.below vH;have hks:=VB.out w9 (nJ.trans (vH.mono nJ.size));have znY:=hid (λW (hW:Below w9.heap.size w9 W)=>(⟨(VB.out W ((nJ.trans (vH.mono nJ.size)).trans (hW.mono (by have:=nJ.size;have:=vH.size;omega)))).1,(VB.out W ((nJ.trans (vH.mono nJ.size)).trans (hW.mono (by have:=nJ.size;have:=vH.size;omega)))).2.1⟩:W.cell? ⟨kb,0,none⟩=some (.int .i64 (hd':Int))∧W.cell? ⟨kb,1,none⟩=some (.int .i64 (tl:Int))));have wP:=hid (KD.out.trans (vH.mono KD.out.size));have htk:=HKT.out.2.1.fst hl1;have Rn:=hid (λW (hW:Below w9.heap.size w9 W)=>show Calls Tryz.prog 18 #[.slice (some ⟨z1,0,none⟩) hd' c1,.slice (some ⟨z2,0,none⟩) hd' c2] W λe w'=>∃v,e=.returned v∧v=.bool true∧Below w9.heap.size w9 w' from(zit W ((I.map Prod.fst).take hd') _ _ hd' c1 c2 ((hr1.take (by omega)).below hW) (by have h9:=(hr2.take (m:=hd') (by omega)).below hW;rwa [htk]at h9) (by omega)).mono (λe w' ⟨h1,h2⟩=>⟨_,h1,rfl,hW.trans (h2.mono hW.size)⟩));have HRR:=hid (And.intro hr1 hr2);have hc1:=HR1.out.2.2;have e3:IntKind.i64.wrap ((ni:Int)-(tl:Int))=(ni:Int)-(tl:Int):=IntWalk.i64_in _ (by omega);have e4:IntKind.i64.wrap ((Qg:Int)-(tl:Int))=(Qg:Int)-(tl:Int):=IntWalk.i64_in _ (by omega);have t1:decide ((hd':Int)<0)=false:=by simp
      have t2:decide ((tl:Int)<0)=false:=by simp
      have t3:decide ((ni:Int)-(tl:Int)<(hd':Int))=false:=by simp;omega
      have t4:decide ((Qg:Int)-(tl:Int)<(hd':Int))=false:=by simp;omega
      have u1:¬(hd':Int)<0:=by omega
      have u2:¬(tl:Int)<0:=by omega
      have u3:¬(ni:Int)-(tl:Int)<(hd':Int):=by omega
      have u4:¬(Qg:Int)-(tl:Int)<(hd':Int):=by omega
      have u5:(0:Int)≤(hd':Int):=by omega
      have u6:(hd':Int)≤(c1:Int):=by omega
      have u7:(hd':Int)≤(c2:Int):=by omega
      have uo:=hid (And.intro hln (And.intro Vx (And.intro hl1 hl2)));clear vH hr1 hr2 hz2 hks x0 x1 x2 x3 x4 nJ htk hln Vx
      go_upto_region 14 with fail
      go_region_held_law (λW=>W.cell? ⟨kb,0,none⟩=some (.int .i64 (hd':Int))∧W.cell? ⟨kb,1,none⟩=some (.int .i64 (tl:Int))) (exact znY.out _ (by first|exact(Below.refl _ _).drew|exact Gn)) ((refine Rk (by rfl) Tryz.func18 (by kernel_rfl) (by kernel_rfl) _ _ (by rfl) [.slice (some ⟨z1,0,none⟩) hd' c1,.slice (some ⟨z2,0,none⟩) hd' c2] (by rfl) _ (Rn.out _ (Below.refl w9.heap.size w9).drew) ?_;intro v w10 hh;obtain⟨zon,Gn⟩:=hh;subst zon))
      all_goals
       have znZ:=hid (wP.out.trans (Gn.mono wP.out.size));have zn0:=hid (And.intro (HRR.out.1.below Gn) (HRR.out.2.below Gn));have zoo:=hid (λW (hW:Below w10.heap.size w10 W)=>(znY.out W (Gn.trans (hW.mono Gn.size))).2);clear Gn t1 t2 t3 t4 u1 u2 u3 u4 u5 u6 u7 e3 e4 hc1 hc2;go_wp2
       go_loopw [12] (λv wr=>KpL w10 tl v wr) (λv _=>tl+1-(intOf v).toNat)
       case atStart=>exact⟨1,Nat.le_refl _,by omega,rfl,Below.refl _ _⟩
       case round=>
        obtain⟨i,hi1,hi2,rfl,hbl⟩:=hrel;have vN:=hid hbl;have kt:=zoo.out _ hbl;have zoK:tl≤900:=by have:=uo.out.2.2.1;omega
        by_cases hlt:i≤tl
        ·have q1:(i:Int)≤(tl:Int):=by omega
         obtain⟨hln,Vx,hl1,hl2⟩:=uo.out;obtain⟨q,hqa,Io⟩:=HKT.out.2.1.lst hl1 hi1 hlt;have htq:(tL s)[(ui s).length-i]?=some q:=by
          have e:=HV.out.1.path.whole.1;have e2:(ui s).length=I.length:=by simpa using congrArg List.length e
          unfold tL;rw[e,e2];exact hqa
         have hmv:=zoi HKT.out.1 hi1 hlt htq;have hin:=znH htq;obtain⟨A1,hA1⟩:∃k,ni-i=k:=⟨_,rfl⟩;obtain⟨A2,hA2⟩:∃k,Qg-i=k:=⟨_,rfl⟩;rw[←hln,hA1]at hqa;rw[←Vx,hA2]at Io;have r1:IntKind.i64.wrap ((ni:Int)-(i:Int))=(A1:Int):=by rw[IntWalk.i64_in _ (by omega)];omega
         have r2:IntKind.i64.wrap ((Qg:Int)-(i:Int))=(A2:Int):=by rw[IntWalk.i64_in _ (by omega)];omega
         have s1:(0:Int)≤(A1:Int):=by omega
         have s2:(0:Int)≤(A2:Int):=by omega
         have s3:(A1:Int)<(ni:Int):=by omega
         have s4:(A2:Int)<(Qg:Int):=by omega
         obtain⟨_,_,hg1,g1,a0,a1,a2,a3⟩:=(zn0.out.1.below hbl).cells A1 q hqa;obtain⟨_,_,hg2,g2,b0,b1,b2,b3⟩:=(zn0.out.2.below hbl).cells A2 _ Io;cases hg1;cases hg2;unfold Tk.mv at b0 b1 b2 b3;dsimp only at b0 b1 b2 b3;simp only[Nat.zero_add]at a0 a1 a2 a3 b0 b1 b2 b3;obtain⟨F,hF⟩:∃k,q.zf+t.size-s.size=k:=⟨_,rfl⟩;obtain⟨G,hG⟩:∃k,q.en+t.size-s.size=k:=⟨_,rfl⟩;rw[hF]at b1;rw[hG]at b2;have d1:(F:Int)-(q.zf:Int)=(t.size:Int)-(s.size:Int):=by omega
         have hge:q.zf≤q.en:=zoh htq;have d2:(G:Int)-(q.en:Int)=(t.size:Int)-(s.size:Int):=by omega
         have HAB:=hid (And.intro hA1 (And.intro hA2 (And.intro hF hG)));clear hln Vx hqa Io htq hmv hA1 hA2 hF hG hbl;have w1':IntKind.i64.wrap ((F:Int)-(q.zf:Int))=(F:Int)-(q.zf:Int):=IntWalk.i64_in _ (by omega);have w2':IntKind.i64.wrap ((G:Int)-(q.en:Int))=(G:Int)-(q.en:Int):=IntWalk.i64_in _ (by omega);have w3':IntKind.i64.wrap ((t.size:Int)-(s.size:Int))=(t.size:Int)-(s.size:Int):=IntWalk.i64_in _ (by omega);go_wp2
         go_roundw
         case rel=>exact⟨i+1,by omega,by omega,by go_num,ziJ (ziJ vN.out _) _⟩
         case measure=>simp[intOf];omega
        ·have q1:¬(i:Int)≤(tl:Int):=by omega
         clear hbl;go_wp2;go_ret;exact⟨rfl,znZ.out.trans (vN.out.mono znZ.out.size)⟩
    ·have hk1:(k==0)=false:=by simpa using hk0
     have hk2:(k !=0)=true:=by rw[bne,hk1];rfl
     have hk3:(!(k==0))=true:=by rw[hk1];rfl
     have hk4:(!decide (k=0))=true:=by rw[decide_eq_false hk0];rfl
     clear hk;go_wp2;go_ret;exact⟨rfl,HB2.out⟩
end Go.Proofs.YtdjcidackkogjaaGreatDoor

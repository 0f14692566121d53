/- Rows of tokens and of delimiters, held against eac -/
import Derived.Test.YtdjcidackkogjaaGreatDoorQn
namespace Go.Proofs.YtdjcidackkogjaaGreatDoor
set_option linter.unusedSectionVars false
set_option linter.unusedVariables false
open Lib(hid)
set_option maxHeartbeats 8000000
set_option maxRecDepth 100000
open Go.RowKit
def Ye:List Dl→List Dl→Bool
 | [],[]=>true
 |a::r,b::s=>(decide (a.word=b.word)&& a.tabs==b.tabs)&& Ye r s
 |_,_=>false
theorem Ea:∀l,Ye l l=true
 | []=>rfl
 |a::r=>by unfold Ye;rw[Ea r];simp
theorem zbD:∀{a b:List Dl},Ye a b=true→a.length=b.length
 | [],[],_=>rfl
 |a::r,b::s,h=>by
  unfold Ye at h;rw[Bool.and_eq_true]at h;rw[List.length_cons,List.length_cons,zbD h.2]
 | [],b::s,h=>by cases h
 |a::r,[],h=>by cases h
theorem Eb:∀{a b:List Dl},Ye a b=true→a=b
 | [],[],_=>rfl
 |⟨w,t⟩::r,⟨w2,t2⟩::s,h=>by
  unfold Ye at h;simp only[Bool.and_eq_true,decide_eq_true_eq,beq_iff_eq]at h;obtain⟨⟨h1,h2⟩,h3⟩:=h;subst h1 h2;rw[Eb h3]
 | [],b::s,h=>by cases h
 |a::r,[],h=>by cases h
theorem zl9{a b:List Dl}:Ye a b=true↔a=b:=⟨Eb,λh=>by rw[h];exact Ea b⟩
theorem zma{a b:List Dl}{i:Nat}{x y:Dl}(hx:a[i]?=some x)(hy:b[i]?=some y)(h:(decide (x.word=y.word)&& x.tabs==y.tabs)=false):Ye a b=false:=by
 cases hs:Ye a b with
 |false=>rfl
 |true=>
  have e:=Eb hs;rw[e,hy]at hx;injection hx with hx;rw[hx]at h;simp at h
theorem zmb{a b:List Dl}(hl:a.length=b.length)(h:∀(i:Nat) (x y:Dl),a[i]?=some x→b[i]?=some y→(decide (x.word=y.word)&& x.tabs==y.tabs)=true):Ye a b=true:=by
 refine zl9.2 (List.ext_getElem? λi=>?_)
 cases ha:a[i]? with
 |none=>
  rw[List.getElem?_eq_none_iff]at ha;rw[eq_comm,List.getElem?_eq_none_iff];omega
 |some x=>
  have hi:=(List.getElem?_eq_some_iff.1 ha).1;have hb:b[i]?=some b[i]:=List.getElem?_eq_getElem (by omega);have:=h i x _ ha hb;rw[hb];simp only[Bool.and_eq_true,decide_eq_true_eq,beq_iff_eq]at this;obtain⟨w,t⟩:=x;obtain⟨h1,h2⟩:=this;simp only at h1 h2;rw[h1,h2]
structure XC(W:World)(oa:Option Addr)(n:Nat)(l:List Dl):Prop where
 len:n=l.length
 cells:∀(j:Nat) d,l[j]?=some d→∃b off,oa=some ⟨b,off,none⟩∧b<W.heap.size∧W.cell? ⟨b,off+j*2,none⟩=some (.string d.word)∧W.cell? ⟨b,off+j*2+1,none⟩=some (.bool d.tabs)
theorem XC.below{W W':World}{oa:Option Addr}{n:Nat}{l:List Dl}(h:XC W oa n l)(hb:Below W.heap.size W W'):XC W' oa n l:=
 ⟨h.len,λj d hj=>by
  obtain⟨b,off,h1,h2,h3,h4⟩:=h.cells j d hj;exact⟨b,off,h1,Nat.lt_of_lt_of_le h2 hb.size,(hb.cell (p:=⟨b,off+j*2,none⟩) h2).trans h3,(hb.cell (p:=⟨b,off+j*2+1,none⟩) h2).trans h4⟩⟩
theorem zbE:∀(l:List Dl) (j k:Nat) (d:Dl),l[j]?=some d→k<2→(zx l)[j*2+k]?=(WL d)[k]?
 | [],j,k,d,h,_=>by cases h
 |a::l,0,k,d,h,hk=>by
  cases h;show(WL a++zx l)[0*2+k]?=_;rw[List.getElem?_append_left (by show 0*2+k<2;omega),Nat.zero_mul,Nat.zero_add]
 |a::l,j+1,k,d,h,hk=>by
  show(WL a++zx l)[(j+1)*2+k]?=_;rw[List.getElem?_append_right (by show 2≤_;omega),show(j+1)*2+k-(WL a).length=j*2+k from by show(j+1)*2+k-2=_;omega];exact zbE l j k d h hk
theorem XC.wW{W:World}{oa:Option Addr}{n c:Nat}{l:List Dl}(h:Src W (.slice oa n c) l.length (zx l))(hn:n=l.length):XC W oa n l:=by
 refine⟨hn,λj d hj=>?_⟩;rcases h with⟨_,h1,_⟩|⟨b,off,c2,h1,h2,h3⟩
 ·have:=(List.getElem?_eq_some_iff.1 hj).1;omega
 ·injection h1 with h4
  have g:=λk hk=>zbE l j k d hj hk;refine⟨b,off,h4,h2,h3 (j*2) _ (g 0 (by omega)),?_⟩;exact h3 (j*2+1) _ (g 1 (by omega))
theorem zaQ(a c:ByteArray)(b d:Bool)(w:World):(Op.equalIn 10000 87 (.agg #[.string a,.bool b]) (.agg #[.string c,.bool d])).run Tryz.prog w=.ok (decide (a=c)&& b==d) w:=by
 have u3:=Tryz.underlying9;have a3:=Tryz.isAgg9;have z3:=Tryz.sizeOf9;have u4:=Tryz.underlying4;have a4:=Tryz.isAgg4;have z4:=Tryz.sizeOf4;have hb:=jW a c;have hS:Tryz.prog.underlying 87=some (.struct (Tryz.prog.fieldsOf 87)):=by kernel_rfl
 rw[show(10000:Nat)=9999+1 from rfl,run_equalIn_agg w 9999 87 _ _ hS (by kernel_rfl)];simp only[Program.fieldsOf,Tryz.underlying87]
 go_simp
 by_cases h1:a=c<;>cases b<;>cases d<;>simp_all
theorem zmc(a c:ByteArray)(b d:Bool)(w:World):(binOp .neq 87 (.agg #[.string a,.bool b]) (.agg #[.string c,.bool d])).run Tryz.prog w=.ok (.bool (!(decide (a=c)&& b==d))) w:=by
 rw[run_neq_struct,zaQ];simp[Result.andThen]
section
variable(w:World)(a b:List Dl)(oa ob:Option Addr)(n m c e:Nat)(ha:XC w oa n a)(hb:XC w ob m b)(hn:n≤1000000)(hm:m≤1000000)
include ha hb hn hm
def Tc(A1 A2:Int)(p q:List Dl)(b1 b2:Bool):Bool:=decide (A1=A2)&&((b1==b2)&& Ye p q)
def zmd(W:World)(n:Nat)(a b:List Dl)(v2:Value)(wr:World):Prop:=∃i:Nat,i≤n∧v2=.int .i64 (i:Int)∧(∀j x y,j<i→a[j]?=some x→b[j]?=some y→(decide (x.word=y.word)&& x.tabs==y.tabs)=true)∧Below W.heap.size W wr
theorem ziv(A1 A2:Int)(b1 b2:Bool):Calls Tryz.prog 21 #[.agg #[.int .i64 A1,.slice oa n c,.bool b1],.agg #[.int .i64 A2,.slice ob m e,.bool b2]] w λe w'=>e=.returned (.bool (Tc A1 A2 a b b1 b2))∧Below w.heap.size w w':=by
 have k1:=(zh.new w #[.int .i64 A1,.slice oa n c,.bool b1] 50).alloc (.cells #[.int .i64 A2,.slice ob m e,.bool b2] 50);have k2:=xU w (.cells #[.int .i64 A1,.slice oa n c,.bool b1] 50) #[.int .i64 A2,.slice ob m e,.bool b2] 50;have hB:=jd w (.cells #[.int .i64 A1,.slice oa n c,.bool b1] 50) (.cells #[.int .i64 A2,.slice ob m e,.bool b2] 50);have hla:=ha.len;have hlb:=hb.len;have HA:=hid (ha.below hB);have HB:=hid (hb.below hB);have Xt:=hid hla;have Td:=hid hlb;have x0:=k1.cell 0;have x1:=k1.cell 1;have x2:=k1.cell 2;have y0:=k2.cell 0;have y1:=k2.cell 1;have y2:=k2.cell 2;clear ha hb hla hlb;unfold Tc;by_cases h1:A1=A2
 ·have hd:decide (A1=A2)=true:=decide_eq_true h1
  rw[hd];subst h1;by_cases h2:b1=b2
  ·have hd2:(b1==b2)=true:=beq_iff_eq.2 h2
   rw[hd2,Bool.true_and,Bool.true_and];subst h2;obtain⟨S,hS⟩:∃S,Ye a b=S:=⟨_,rfl⟩;have HS:=hid hS;rw[hS];clear hS;by_cases hnm:n=m
   ·subst hnm
    go_enter Tryz.func21,Tryz.ntmps21;go_wp2;obtain⟨W1,hW1⟩:∃X,(w.alloc (.cells #[.int .i64 A1,.slice oa n c,.bool b1] 50)).alloc (.cells #[.int .i64 A1,.slice ob n e,.bool b1] 50)=X:=⟨_,rfl⟩;rw[hW1]at k1 k2 hB HA HB ⊢;clear hW1 x0 x1 x2 y0 y1 y2
    go_loopw [5] (λv2 wr=>zmd W1 n a b v2 wr) (λv _=>n-(intOf v).toNat)
    case atStart=>exact⟨0,Nat.zero_le _,rfl,λj x y h=>by omega,Below.refl _ _⟩
    case round=>
     obtain⟨i,hi,rfl,hal,hbl⟩:=hrel;have Gj:=hid hal;have vN:=hid hbl;have x1:=(k1.below hbl).cell 1;have y1:=(k2.below hbl).cell 1;clear hal;by_cases hlt:i<n
     ·have q1:(i:Int)<(n:Int):=by omega
      have q0:(0:Int)≤(i:Int):=by omega
      have hxa:a[i]?=some (a[i]'(by have:=Xt.out;omega)):=List.getElem?_eq_getElem _;have hxb:b[i]?=some (b[i]'(by have:=Td.out;omega)):=List.getElem?_eq_getElem _;generalize a[i]'(by have:=Xt.out;omega)=x at hxa;generalize b[i]'(by have:=Td.out;omega)=y at hxb;obtain⟨g1,o1,rfl,h1,c0,c1⟩:=(HA.out.below hbl).cells i x hxa;obtain⟨g2,o2,rfl,h2,d0,d1⟩:=(HB.out.below hbl).cells i y hxb;obtain⟨w1,t1⟩:=x;obtain⟨w2,t2⟩:=y;have hneq:=zmc w1 w2 t1 t2;obtain⟨E,hE⟩:∃E,(decide (w1=w2)&& t1==t2)=E:=⟨_,rfl⟩;rw[hE]at hneq;dsimp only at c0 c1 d0 d1;have HE:=hid hE;have HXA:=hid hxa;have HXB:=hid hxb;clear hE hxa hxb hbl
      cases E with
      |true=>
       simp only[Bool.not_true]at hneq;go_wp2
       go_quiet (fail)
       go_wp2
       go_roundw
       case rel=>
        refine⟨i+1,by omega,by go_num,λj x y hj hx hy=>?_,below_drewN vN.out _⟩;by_cases ej:j=i
        ·subst ej
         rw[HXA.out]at hx;rw[HXB.out]at hy;injection hx with hx;injection hy with hy;rw[←hx,←hy];exact HE.out
        ·exact Gj.out j x y (by omega) hx hy
       case measure=>simp[intOf];omega
      |false=>
       simp only[Bool.not_false]at hneq;go_wp2
       go_quiet (fail)
       go_wp2;go_ret;refine⟨?_,hB.trans ((below_drewN vN.out _).mono hB.size)⟩;rw[←HS.out,zma HXA.out HXB.out HE.out];rfl
     ·have q1:¬(i:Int)<(n:Int):=by omega
      have hin:i=n:=by omega
      have ug:=hid hin;clear hin hlt hbl;go_wp2;go_ret;refine⟨?_,hB.trans (vN.out.mono hB.size)⟩;rw[←HS.out,zmb (by rw[←Xt.out];exact Td.out) (λj x y hx hy=>Gj.out j x y (by have:=(List.getElem?_eq_some_iff.1 hx).1;have:=Xt.out;have:=ug.out;omega) hx hy)];rfl
   ·have t1:((n:Int)==(m:Int))=false:=beq_eq_false_iff_ne.2 (by omega)
    have t2:((n:Int)!=(m:Int))=true:=by rw[bne,t1];rfl
    have hSf:S=false:=by
     rw[←HS.out]
     cases h:Ye a b with
     |false=>rfl
     |true=>exact absurd (by have:=zbD h;have:=Xt.out;have:=Td.out;omega) hnm
    have HSF:=hid hSf;clear hSf hnm;go_enter Tryz.func21,Tryz.ntmps21;go_wp2;go_ret;exact⟨by rw[HSF.out];rfl,hB⟩
  ·have hd2:(b1==b2)=false:=beq_eq_false_iff_ne.2 h2
   have t2:(b1 !=b2)=true:=by rw[bne,hd2];rfl
   rw[hd2,Bool.true_and,Bool.false_and];go_enter Tryz.func21,Tryz.ntmps21;go_wp2;go_ret;exact⟨rfl,hB⟩
 ·have hd:decide (A1=A2)=false:=decide_eq_false h1
  have t1:(A1==A2)=false:=beq_eq_false_iff_ne.2 h1;have t2:(A1 !=A2)=true:=by rw[bne,t1];rfl
  rw[hd,Bool.false_and];clear h1 hd;go_enter Tryz.func21,Tryz.ntmps21;go_wp2;go_ret;exact⟨rfl,hB⟩
end
theorem ziw(A:Int)(p:List Dl)(b:Bool):Tc A A p p b b=true:=by
 unfold Tc;rw[Ea];simp
def zme(W:World)(n:Nat)(v:Value)(wr:World):Prop:=∃i:Nat,i≤n∧v=.int .i64 (i:Int)∧Below W.heap.size W wr
section
variable(w:World)(l:List Tk)(oa ob:Option Addr)(n c e:Nat)(ha:ZL w oa n l)(hb:ZL w ob n l)(hn:n≤1000000)
include ha hb hn
theorem zit:Calls Tryz.prog 18 #[.slice oa n c,.slice ob n e] w λe w'=>e=.returned (.bool true)∧Below w.heap.size w w':=by
 have hla:=ha.len;have HA:=hid ha;have HB:=hid hb;have Xt:=hid hla;clear ha hb hla;go_enter Tryz.func18,Tryz.ntmps18;go_wp2
 go_loopw [5] (λv wr=>zme w n v wr) (λv _=>n-(intOf v).toNat)
 case atStart=>exact⟨0,Nat.zero_le _,rfl,Below.refl _ _⟩
 case round=>
  obtain⟨i,hi,rfl,hbl⟩:=hrel;have vN:=hid hbl;by_cases hlt:i<n
  ·have q1:(i:Int)<(n:Int):=by omega
   have q0:(0:Int)≤(i:Int):=by omega
   have hxa:l[i]?=some (l[i]'(by have:=Xt.out;omega)):=List.getElem?_eq_getElem _;generalize l[i]'(by have:=Xt.out;omega)=x at hxa;obtain⟨g1,o1,rfl,h1,c0,c1,c2,c3⟩:=(HA.out.below hbl).cells i x hxa;obtain⟨g2,o2,rfl,h2,d0,d1,d2,d3⟩:=(HB.out.below hbl).cells i x hxa;obtain⟨tk,tf,te,top⟩:=x;have hneq:=zlg tk tf te top;dsimp only at c0 c1 c2 c3 d0 d1 d2 d3;clear hxa hbl;go_wp2
   go_quiet (fail)
   go_wp2
   go_roundw
   case rel=>exact⟨i+1,by omega,by go_num,below_drewN vN.out _⟩
   case measure=>simp[intOf];omega
  ·have q1:¬(i:Int)<(n:Int):=by omega
   clear hlt hbl;go_wp2;go_ret;exact⟨rfl,vN.out⟩
end
end Go.Proofs.YtdjcidackkogjaaGreatDoor

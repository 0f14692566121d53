/- What oper's Text, At, Of and Redirects return. Con -/
import Derived.Test.YtkolpaonccmgiaaGreatDoorSc
namespace Go.Proofs.YtkolpaonccmgiaaGreatDoor.Q
set_option linter.unusedSectionVars false
set_option linter.unusedVariables false
open Go.Proofs.Tryz
open Lib(hid)
set_option maxHeartbeats 8000000
set_option maxRecDepth 100000
open Go.RowKit
def yO(w w':World):Prop:=∃q,w'=w.drewN q
theorem yO.below{w w':World}(h:yO w w'){n:Nat}:Below n w w':=by obtain⟨q,rfl⟩:=h;exact below_drewN (Below.refl _ _) _
theorem yO.refl(w:World):yO w w:=⟨0,rfl⟩
theorem yO.trans{a b c:World}(h:yO a b)(k:yO b c):yO a c:=by obtain⟨q,rfl⟩:=h;obtain⟨r,rfl⟩:=k;exact⟨q+r,by simp[World.drewN,Nat.add_assoc]⟩
theorem yO.drew{a b:World}(h:yO a b):yO a b.drew:=by obtain⟨q,rfl⟩:=h;exact⟨q+1,rfl⟩
theorem yO.drewN{a b:World}(h:yO a b)(n:Nat):yO a (b.drewN n):=h.trans ⟨n,rfl⟩
theorem yO.cell{a b:World}(h:yO a b)(p:Addr):b.cell? p=a.cell? p:=by obtain⟨q,rfl⟩:=h;rfl
theorem yO.heap{a b:World}(h:yO a b):b.heap=a.heap:=by obtain⟨q,rfl⟩:=h;rfl
def Tx(w:World):Prop:=0<w.heap.size/\∀i,i<18->w.cell? ⟨0,i,none⟩=some (.string (txt i))
theorem Tx.below{w w':World}{n:Nat}(h:Tx w)(hb:Below n w w')(hn:0<n):Tx w':=
 ⟨Nat.lt_of_lt_of_le h.1 hb.size,λi hi=>(hb.cell (p:=⟨0,i,none⟩) hn).trans (h.2 i hi)⟩
theorem Tx.b{w w':World}(h:Tx w)(hb:Below w.heap.size w w'):Tx w':=h.below hb h.1
theorem Tx.d{w w':World}(h:Tx w)(hb:yO w w'):Tx w':=h.b hb.below
theorem zcG(op:Int)(w:World)(hT:Tx w):
  Calls prog 126 #[.int .i64 op] w λe w'=>e=.returned (.string (txt op.toNat))/\w'=w:=by
 by_cases h:0<=op/\op<18
 ·obtain⟨k,rfl⟩:=Int.eq_ofNat_of_zero_le h.1
  have hk:(k:Int)<18:=h.2;have hk2:k<18:=by omega
  have hc:=hT.2 k (by omega);rw[Int.toNat_natCast];obtain⟨t,ht⟩:∃t,txt k=t:=⟨_,rfl⟩;rw[ht]at hc ⊢;have hd:decide ((k:Int)<0)=false:=by simp
  have hd2:decide (18<=(k:Int))=false:=by simp;omega
  clear h ht;go_enter func126,ntmps126;go_wp2;go_ret;exact⟨rfl,rfl⟩
 ·have ht:txt op.toNat=⟨#[]⟩:=pW (by omega)
  rw[ht];clear ht;by_cases g:op<0
  ·have hd:decide (op<0)=true:=by simpa using g
   clear h;go_enter func126,ntmps126;go_wp2;go_ret;exact⟨rfl,rfl⟩
  ·have h2:18<=op:=by omega
   have hd:decide (op<0)=false:=by simpa using g
   have hd2:decide (18<=op)=true:=by simpa using h2
   clear h;go_enter func126,ntmps126;go_wp2;go_ret;exact⟨rfl,rfl⟩
def Zn:ByteArray:=⟨#[38,38,32,124,124,32,59,59,32,60,60,32,60,60,45,62,62,32,60,38,32,62,38,32,60,62,32,62,124,32,60,32,32,62,32,32,38,32,32,59,32,32,124,32,32,40,32,32,41,32,32]⟩
def X4(k m:Nat):Bool:=(List.range 3).all λi=>decide (m<=i->(bt Zn (3*k+i)).toNat=32)
theorem TJ{k m:Nat}(hk:k<17)(hm:m<=3)(h:X4 k m=true)(h0:m=0\/(bt Zn (3*k+(m-1))).toNat≠32):Zn.extract (3*k) (3*k+m)=txt (k+1):=by
 have:∀k,k<17->∀m,m<4->X4 k m=true->(m=0\/(bt Zn (3*k+(m-1))).toNat≠32)->Zn.extract (3*k) (3*k+m)=txt (k+1):=by decide+kernel
 exact this k hk m (by omega) h h0
theorem iq{k m:Nat}(h:X4 k (m+1)=true)(e:(bt Zn (3*k+m)).toNat=32):X4 k m=true:=by
 unfold X4 at h ⊢;rw[List.all_eq_true]at h ⊢;intro i hi;have:=h i hi;rw[decide_eq_true_iff]at this ⊢;intro hm;by_cases g:i=m
 ·rw[g];exact e
 ·exact this (by omega)
theorem TK{a b:ByteArray}(h:a=b):Ending.returned (.string a)=.returned (.string b):=by rw[h]
def TL(v:Value):Nat:=match v with
 | .string s=>s.size
 |_=>0
theorem zl0{s:ByteArray}{k:Nat}{c:Nat}(h:k<s.size)(e:(bt s k).toNat=c):((s[k].toNat:Int)==(c:Int))=true:=by
 rw[zT h]at e;rw[e];simp
theorem zl1{s:ByteArray}{k:Nat}{c:Nat}(h:k<s.size)(e:(bt s k).toNat≠c):((s[k].toNat:Int)==(c:Int))=false:=by
 rw[zT h]at e;rw[beq_eq_false_iff_ne];intro g;exact e (by omega)
theorem iw(k o:Nat)(hk:k<17)(ho:Hid (o=k+1))(w:World):
  Calls prog 51 #[.int .i64 o] w λe w'=>e=.returned (.string (txt o))/\w'=w:=by
 have h1:decide ((o:Int)<1)=false:=decide_eq_false_iff_not.2 (by have:=ho.out;omega);have h2:decide (17<(o:Int))=false:=decide_eq_false_iff_not.2 (by have:=ho.out;omega);have h1':decide (o<1)=false:=decide_eq_false_iff_not.2 (by have:=ho.out;omega);have h2':decide (17<o)=false:=decide_eq_false_iff_not.2 (by have:=ho.out;omega);have e1:IntKind.i64.wrap ((o:Int)-1)=(k:Int):=by have:=ho.out;rw[IntWalk.i64_in _ (by omega)];omega
 have e2:IntKind.i64.wrap (3*(k:Int))=((3*k:Nat):Int):=by rw[IntWalk.i64_in _ (by omega)];omega
 obtain⟨z,hz⟩:∃z,z=3*k+3:=⟨_,rfl⟩;have hz2:z<=51:=by omega
 have hz3:3*k<=z:=by omega
 have e3:IntKind.i64.wrap (3*(o:Int))=(z:Int):=by have:=ho.out;rw[IntWalk.i64_in _ (by omega)];omega
 have HZ:=hid hz;clear hz;go_enter func51,ntmps51;go_wp2
 go_loopw [3] (λv wr=>∃m x,m<=3/\v=.string x/\x=Zn.extract (3*k) (3*k+m)/\X4 k m=true/\wr=w) (λv _=>TL v)
 case atStart=>
  refine⟨3,_,Nat.le_refl _,rfl,by rw[←HZ.out];rfl,?_,rfl⟩;unfold X4;rw[List.all_eq_true];intro i hi;rw[decide_eq_true_iff];intro hm;simp at hi;omega
 case round=>
  obtain⟨m,x,hm,rfl,hx,hall,rfl⟩:=hrel;have hA:Zn.size=51:=rfl;have hsz:x.size=m:=by rw[hx,ByteArray.size_extract,hA];omega
  have HX:=hid hx;have Jk:=hid hall;clear hx hall hA;rcases Nat.eq_zero_or_pos m with rfl|hpos
  ·go_wp2
   go_ret;exact⟨TK (HX.out.trans ((TJ hk (Nat.zero_le _) Jk.out (.inl rfl)).trans (congrArg txt ho.out.symm))),rfl⟩
  ·obtain⟨j,rfl⟩:∃j,m=j+1:=⟨m-1,by omega⟩
   have hj:j<x.size:=by omega
   have hj2:(j:Int)<x.size:=by omega
   have hp:decide ((0:Int)<x.size)=true:=decide_eq_true_iff.2 (by omega);have hp2:decide (0<x.size)=true:=decide_eq_true_iff.2 (by omega);have hj3:(j:Int)<=x.size:=by omega
   have hA:Zn.size=51:=rfl;have eb:bt x j=bt Zn (3*k+j):=by rw[HX.out];exact VC _ _ _ _ (by rw[hA];omega) (by omega)
   have e4:IntKind.i64.wrap ((x.size:Int)-1)=(j:Int):=by rw[IntWalk.i64_in _ (by omega)];omega
   have EB:=hid eb;have HS:=hid hsz;clear hsz eb hA;by_cases e:(bt x j).toNat=32
   ·have t1:=zl0 hj e
    have HE:=hid e;clear e;go_wp2
    go_roundw
    case rel=>
     refine⟨j,_,by omega,rfl,?_,iq Jk.out (by rw[←EB.out];exact HE.out),by first|rfl|trivial⟩;rw[HX.out,ByteArray.extract_extract];congr 1;omega
    case measure=>simp[TL];have:=HS.out;omega
   ·have t1:=zl1 hj e
    have HE:=hid e;clear e;go_wp2;go_ret;exact⟨TK (HX.out.trans ((TJ hk hm Jk.out (.inr (by rw[Nat.add_sub_cancel,←EB.out];exact HE.out))).trans (congrArg txt ho.out.symm))),rfl⟩
theorem H9(op:Int)(w:World):
  Calls prog 51 #[.int .i64 op] w λe w'=>e=.returned (.string (txt op.toNat))/\w'=w:=by
 by_cases h:1<=op/\op<=17
 ·obtain⟨o,rfl⟩:=Int.eq_ofNat_of_zero_le (a:=op) (by omega)
  rw[Int.toNat_natCast];exact iw (o-1) o (by omega) (hid (by omega)) w
 ·have ht:txt op.toNat=⟨#[]⟩:=pW (by omega)
  rw[ht];clear ht;by_cases g:op<1
  ·have hd:decide (op<1)=true:=by simpa using g
   clear h;go_enter func51,ntmps51;go_wp2;go_ret;exact⟨rfl,rfl⟩
  ·have h2:17<op:=by omega
   have hd:decide (op<1)=false:=by simpa using g
   have hd2:decide (17<op)=true:=by simpa using h2
   clear h;go_enter func51,ntmps51;go_wp2;go_ret;exact⟨rfl,rfl⟩
def iy(s:ByteArray)(k z:Nat)(w:World)(v4 v:Value)(wr:World):Prop:=
 ∃n:Nat,v4=.int .i64 0/\n<=3/\n<=z/\v=.int .i64 n/\(∀i∈ops,n<(txt i).size->¬jL s k (txt i))/\yO w wr
def iC(x:ByteArray)(w:World)(v4 v:Value)(wr:World):Prop:=
 ∃j:Nat,v4=.int .i64 0/\j<=18/\v=.int .i64 j/\(∀i,i<j->x≠txt i)/\yO w wr
theorem zl2(s:ByteArray)(k:Nat)(w:World)(hs:s.size<=1000000)(hT:Tx w)(hk:k<s.size):
  Calls prog 128 #[.string s,.int .i64 k] w λe w'=>e=.returned (.tuple #[.int .i64 (yS s k:Nat),.int .i64 ((txt (yS s k)).size:Nat)])/\yO w w':=by
 have hd:decide ((k:Int)<0)=false:=decide_eq_false_iff_not.2 (by omega);have hd2:decide ((s.size:Int)<=k)=false:=decide_eq_false_iff_not.2 (by omega);have hd3:decide (s.size<=k)=false:=decide_eq_false_iff_not.2 (by omega);have hi:(k:Int)<=s.size:=by omega
 obtain⟨x,hx⟩:∃x,s.extract k s.size=x:=⟨_,rfl⟩;obtain⟨z,hz⟩:∃z,x.size=z:=⟨_,rfl⟩;have hz2:z=s.size-k:=by rw[←hz,←hx];simp
 obtain⟨m,hm⟩:∃m:Nat,(if(z:Int)<3 then(z:Int)else 3)=(m:Int):=⟨min 3 z,by split<;>omega⟩;have qH:m<=3/\m<=z/\(m=3\/m=z):=by split at hm<;>omega
 obtain⟨qH,hmz,hmo⟩:=qH;have HM:=hid hm;have HZ2:=hid hz2;have HX:=hid hx;clear hz2;go_enter func128,ntmps128;go_wp2
 go_step3
 go_wp2
 go_step3
 go_wp2
 go_loopw [4,5] (λv4 v5 wr=>iy s k z w v4 v5 wr) (λ_ v _=>(intOf v).toNat)
 case atStart=>
  refine⟨m,rfl,qH,hmz,rfl,λi hi hlt hf=>?_,yO.refl _⟩;have h1:=Lc i;have h2:=hf.1;have h3:=HZ2.out;omega
 case round=>
  obtain⟨n,rfl,hn3,hnz,rfl,hno,hdr⟩:=hrel;have Zu:=hid hno;clear hno;rcases Nat.eq_zero_or_pos n with rfl|hpos
  ·go_wp2
   rw[Exit.noGoto_ret];go_ret2;have h0:yS s k=0:=pX Zu.out;refine⟨?_,hdr⟩;rw[h0];rfl
  ·have hp:decide ((0:Int)<n)=true:=decide_eq_true_iff.2 (by omega)
   have hp2:decide (0<n)=true:=decide_eq_true_iff.2 (by omega);have hkn:k+n<=s.size:=by have:=HZ2.out;omega
   go_wp2
   go_loopw [4,26] (λv4 v wq=>iC (x.extract 0 n) w v4 v wq) (λ_ v _=>18-(intOf v).toNat)
   case atStart=>exact⟨0,rfl,by omega,rfl,λi hi=>absurd hi (by omega),hdr⟩
   case round=>
    obtain⟨j,rfl,hj,rfl,hne,GR⟩:=hrel;have jF:=hid hne;clear hne;by_cases hlt:j<18
    ·have hc:=(hT.d GR).2 j hlt
     by_cases e:txt j=x.extract 0 n
     ·have t1:((txt j).toList==(x.extract 0 n).toList)=true:=by rw[Zv];exact decide_eq_true_iff.2 e
      have HE:=hid e;clear e;go_wp2
      go_quiet (fail)
      go_wp2;rw[Exit.noGoto_ret];go_ret2;have hj0:1<=j:=by
       refine Nat.pos_of_ne_zero λg=>?_;have h1:=((dJ (d:=txt j) hkn).1 (by rw[HX.out];exact HE.out.symm)).1;rw[g]at h1;have:(txt 0).size=0:=rfl;omega
      have hm:j∈ops:=Xa.2 ⟨hj0,by omega⟩;have hf:=(dJ (d:=txt j) hkn).1 (by rw[HX.out];exact HE.out.symm);have h0:yS s k=j:=UX hm hf.1 hf.2 Zu.out;refine⟨?_,GR.drewN _⟩;rw[h0,hf.1];rfl
     ·have t1:((txt j).toList==(x.extract 0 n).toList)=false:=by rw[Zv];exact decide_eq_false_iff_not.2 e
      have HE:=hid e;clear e;go_wp2
      go_quiet (fail)
      go_wp2
      go_roundw
      case rel=>
       refine⟨j+1,rfl,by omega,by go_num,λi hi=>?_,GR.drewN _⟩;by_cases g:i=j
       ·rw[g];exact λh=>HE.out h.symm
       ·exact jF.out i (by omega)
      case measure=>simp[intOf];omega
    ·obtain rfl:j=18:=by omega
     go_wp2
     go_roundw
     case rel=>
      refine⟨n-1,rfl,by omega,by omega,by first|rfl|(congr 1;omega)|(simp;omega),λi hi hlt hf=>?_,GR⟩;by_cases g:n<(txt i).size
      ·exact Zu.out i hi g hf
      ·refine jF.out i (by have:=(Xa.1 hi).2;omega) ?_
       rw[←HX.out];exact(dJ hkn).2 ⟨by omega,hf⟩
     case measure=>simp[intOf];omega
def Z5(s:ByteArray)(a:Int):Nat:=if 0<=a/\a<s.size then yS s a.toNat else 0
theorem DR{s:ByteArray}{k:Nat}(h:k<s.size):Z5 s k=yS s k:=by
 unfold Z5;rw[if_pos ⟨by omega,by omega⟩,Int.toNat_natCast]
theorem oO(s:ByteArray)(a:Int)(w:World)(hs:s.size<=1000000)(hT:Tx w):
  Calls prog 128 #[.string s,.int .i64 a] w λe w'=>e=.returned (.tuple #[.int .i64 (Z5 s a:Nat),.int .i64 ((txt (Z5 s a)).size:Nat)])/\yO w w':=by
 by_cases h:0<=a/\a<s.size
 ·obtain⟨k,rfl⟩:=Int.eq_ofNat_of_zero_le h.1
  rw[DR (by omega)];exact zl2 s k w hs hT (by omega)
 ·have h0:Z5 s a=0:=by unfold Z5;rw[if_neg h]
  rw[h0];clear h0;by_cases g:a<0
  ·have hd:decide (a<0)=true:=by simpa using g
   clear h;go_enter func128,ntmps128;go_wp2
   go_step3
   go_wp2;rw[Exit.noGoto_ret];go_ret2;exact⟨rfl,yO.refl _⟩
  ·have h2:(s.size:Int)<=a:=by omega
   have hd:decide (a<0)=false:=by simpa using g
   have hd2:decide ((s.size:Int)<=a)=true:=by simpa using h2
   clear h;go_enter func128,ntmps128;go_wp2
   go_step3
   go_wp2;rw[Exit.noGoto_ret];go_ret2;exact⟨rfl,yO.refl _⟩
theorem iD{s:ByteArray}{a:Nat}(h:s.size<=a):yS s a=0:=
 pX λk hk h0 hf=>by have:=hf.1;omega
theorem iE(s:ByteArray):Z5 s 0=yS s 0:=by
 by_cases h:0<s.size
 ·exact DR h
 ·rw[iD (by omega)]
  unfold Z5;rw[if_neg (by omega)]
theorem iF(s:ByteArray)(w:World)(hs:s.size<=1000000)(hT:Tx w):
  Calls prog 105 #[.string s] w λe w'=>e=.returned (.int .i64 (vI s:Nat))/\yO w w':=by
 obtain⟨o,ho⟩:∃o,Z5 s 0=o:=⟨_,rfl⟩;obtain⟨z,hz⟩:∃z,(txt o).size=z:=⟨_,rfl⟩;have hat:=oO s 0 w hs hT;rw[ho,hz]at hat
 have hN:vI s=if z=s.size then o else 0:=by unfold vI;rw[←iE,ho,hz]
 rw[hN];have hz3:z<=3:=by rw[←hz];exact Lc o
 have HAT:=hid hat
 clear hat hN hz ho;by_cases c:z=s.size
 ·rw[if_pos c]
  have d1:((z:Int)==(s.size:Int))=true:=beq_iff_eq.2 (by omega);have d1':(z==s.size)=true:=beq_iff_eq.2 c;clear c;go_enter func105,ntmps105
  go_wp2_with fail
  refine HAT.out.mono ?_;rintro e w' ⟨rfl,hd⟩;go_wp2;go_ret;exact⟨rfl,hd⟩
 ·rw[if_neg c]
  have d1:((z:Int)==(s.size:Int))=false:=beq_eq_false_iff_ne.2 (by omega);have d1':(z==s.size)=false:=beq_eq_false_iff_ne.2 c;clear c;go_enter func105,ntmps105
  go_wp2_with fail
  refine HAT.out.mono ?_;rintro e w' ⟨rfl,hd⟩;go_wp2;go_ret;exact⟨rfl,hd⟩
theorem zl3(op:Int)(w:World):
  Calls prog 127 #[.int .i64 op] w λe w'=>e=.returned (.bool (decide (4<=op/\op<=12)))/\w'=w:=by
 go_enter func127,ntmps127;go_wp2
 all_goals
  go_ret;refine⟨uV ?_,rfl⟩;rw[Bool.eq_iff_iff];simp;try omega
theorem oZ{a b:Int}(h:a=b):Ending.returned (.int .u8 a)=.returned (.int .u8 b):=by rw[h]
def Xc(p:Lf):Value:=.agg #[.int .i64 p.k,.string p.s,.int .i64 p.f,.int .i64 p.t]
section
variable(w:World)
theorem zl7(op:Nat)(hop:op<=17)(hT:Tx w):
  Calls prog 104 #[.int .i64 (op:Int)] w λe w'=>e=.returned (.int .u8 (Q4 op:Nat))/\w'=w:=by
 have htx:∀W,Tx W->∀k:Nat,Calls prog 126 #[.int .i64 (k:Int)] W λe w'=>e=.returned (.string (txt k))/\w'=W:=λW h k=>by
  have:=zcG (k:Int) W h
  rwa [Int.toNat_natCast]at this
 have hrd:=λW (k:Int)=>zl3 k W;have h:op=0\/op=1\/op=2\/op=3\/op=4\/op=5\/op=6\/op=7\/op=8\/op=9\/op=10\/op=11\/op=12\/op=13\/op=14\/op=15\/op=16\/op=17:=by omega
 have HT:∀(k:Nat) (t:ByteArray),txt k=t->Hid (Calls prog 126 #[.int .i64 (k:Int)] w λe w'=>e=.returned (.string t)/\w'=w):=λk t h=>by
  rw[←h];exact hid (htx w hT k)
 have qF:∀(k:Int) (b:Bool),decide (4<=k/\k<=12)=b->Hid (Calls prog 127 #[.int .i64 k] w λe w'=>e=.returned (.bool b)/\w'=w):=λk b h=>by
  rw[←h];exact hid (hrd w k)
 have t13:=HT 13 ⟨#[38]⟩ rfl;have t14:=HT 14 ⟨#[59]⟩ rfl;have t15:=HT 15 ⟨#[124]⟩ rfl;have t16:=HT 16 ⟨#[40]⟩ rfl;have t17:=HT 17 ⟨#[41]⟩ rfl;have HR:=hid qF;clear htx hrd hT hop HT qF;rcases h with rfl|rfl|rfl|rfl|rfl|rfl|rfl|rfl|rfl|rfl|rfl|rfl|rfl|rfl|rfl|rfl|rfl|rfl
 ·go_enter func104,ntmps104
  go_wp2_with fail
  refine(HR.out _ false (by decide)).out.mono ?_;rintro e w1 ⟨rfl,rfl⟩;go_wp2;go_ret;exact⟨rfl,rfl⟩
 ·go_enter func104,ntmps104
  go_wp2_with fail
  go_ret;exact⟨rfl,rfl⟩
 ·go_enter func104,ntmps104
  go_wp2_with fail
  go_ret;exact⟨rfl,rfl⟩
 ·go_enter func104,ntmps104
  go_wp2_with fail
  go_ret;exact⟨rfl,rfl⟩
 ·go_enter func104,ntmps104
  go_wp2_with fail
  refine(HR.out _ true (by decide)).out.mono ?_;rintro e w1 ⟨rfl,rfl⟩;go_wp2;go_ret;exact⟨rfl,rfl⟩
 ·go_enter func104,ntmps104
  go_wp2_with fail
  refine(HR.out _ true (by decide)).out.mono ?_;rintro e w1 ⟨rfl,rfl⟩;go_wp2;go_ret;exact⟨rfl,rfl⟩
 ·go_enter func104,ntmps104
  go_wp2_with fail
  refine(HR.out _ true (by decide)).out.mono ?_;rintro e w1 ⟨rfl,rfl⟩;go_wp2;go_ret;exact⟨rfl,rfl⟩
 ·go_enter func104,ntmps104
  go_wp2_with fail
  refine(HR.out _ true (by decide)).out.mono ?_;rintro e w1 ⟨rfl,rfl⟩;go_wp2;go_ret;exact⟨rfl,rfl⟩
 ·go_enter func104,ntmps104
  go_wp2_with fail
  refine(HR.out _ true (by decide)).out.mono ?_;rintro e w1 ⟨rfl,rfl⟩;go_wp2;go_ret;exact⟨rfl,rfl⟩
 ·go_enter func104,ntmps104
  go_wp2_with fail
  refine(HR.out _ true (by decide)).out.mono ?_;rintro e w1 ⟨rfl,rfl⟩;go_wp2;go_ret;exact⟨rfl,rfl⟩
 ·go_enter func104,ntmps104
  go_wp2_with fail
  refine(HR.out _ true (by decide)).out.mono ?_;rintro e w1 ⟨rfl,rfl⟩;go_wp2;go_ret;exact⟨rfl,rfl⟩
 ·go_enter func104,ntmps104
  go_wp2_with fail
  refine(HR.out _ true (by decide)).out.mono ?_;rintro e w1 ⟨rfl,rfl⟩;go_wp2;go_ret;exact⟨rfl,rfl⟩
 ·go_enter func104,ntmps104
  go_wp2_with fail
  refine(HR.out _ true (by decide)).out.mono ?_;rintro e w1 ⟨rfl,rfl⟩;go_wp2;go_ret;exact⟨rfl,rfl⟩
 ·go_enter func104,ntmps104
  go_wp2_with fail
  refine t13.out.mono ?_;rintro e w1 ⟨rfl,rfl⟩;go_wp2;go_ret;exact⟨rfl,rfl⟩
 ·go_enter func104,ntmps104
  go_wp2_with fail
  refine t14.out.mono ?_;rintro e w1 ⟨rfl,rfl⟩;go_wp2;go_ret;exact⟨rfl,rfl⟩
 ·go_enter func104,ntmps104
  go_wp2_with fail
  refine t15.out.mono ?_;rintro e w1 ⟨rfl,rfl⟩;go_wp2;go_ret;exact⟨rfl,rfl⟩
 ·go_enter func104,ntmps104
  go_wp2_with fail
  refine t16.out.mono ?_;rintro e w1 ⟨rfl,rfl⟩;go_wp2;go_ret;exact⟨rfl,rfl⟩
 ·go_enter func104,ntmps104
  go_wp2_with fail
  refine t17.out.mono ?_;rintro e w1 ⟨rfl,rfl⟩;go_wp2;go_ret;exact⟨rfl,rfl⟩
theorem zl8(s:ByteArray):
  Calls prog 106 #[.string s] w λe w'=>e=.returned (.int .u8 (GN s:Nat))/\w'=w:=by
 by_cases h:s=⟨#[33]⟩\/s=⟨#[123]⟩\/s=⟨#[125]⟩
 ·have key:∀c:UInt8,s=⟨#[c]⟩->s.toList=[c]/\(0:Int)<(s.size:Int)/\0<s.size/\Hid (s=⟨#[c]⟩):=λc h=>by
   refine⟨by rw[h,Go.ByteArray.toList_eq],?_,?_,hid h⟩
   ·rw[h];show(0:Int)<((1:Nat):Int);decide
   ·rw[h];show 0<1;decide
  rcases h with h|h|h
  ·obtain⟨h1,h2,h3,H⟩:=key _ h
   clear h key;go_enter func106,ntmps106;go_wp2;go_ret;refine⟨oZ ?_,rfl⟩;have:=H.out;subst this;rfl
  ·obtain⟨h1,h2,h3,H⟩:=key _ h
   clear h key;go_enter func106,ntmps106;go_wp2;go_ret;refine⟨oZ ?_,rfl⟩;have:=H.out;subst this;rfl
  ·obtain⟨h1,h2,h3,H⟩:=key _ h
   clear h key;go_enter func106,ntmps106;go_wp2;go_ret;refine⟨oZ ?_,rfl⟩;have:=H.out;subst this;rfl
 ·have h1:¬s.toList=[33]:=λg=>h (.inl (by apply ByteArray.ext;apply Array.toList_inj.1;rw[←Go.ByteArray.toList_eq,g]))
  have h2:¬s.toList=[123]:=λg=>h (.inr (.inl (by apply ByteArray.ext;apply Array.toList_inj.1;rw[←Go.ByteArray.toList_eq,g])));have h3:¬s.toList=[125]:=λg=>h (.inr (.inr (by apply ByteArray.ext;apply Array.toList_inj.1;rw[←Go.ByteArray.toList_eq,g])));have g1:(s.toList==[33])=false:=by simpa using h1
  have g2:(s.toList==[123])=false:=by simpa using h2
  have g3:(s.toList==[125])=false:=by simpa using h3
  clear h h1 h2 h3;go_enter func106,ntmps106;go_wp2
  all_goals
   go_ret;refine⟨oZ ?_,rfl⟩;unfold GN;simp only[Go.ByteArray.toList_eq]at*;generalize s.data.toList=L at*
   simp_all [TI]
theorem U4(p:Lf)(hs:p.s.size<=1000000)(hT:Tx w):
  Calls prog 77 #[Xc p] w λe w'=>e=.returned (.int .u8 (XJ p.k p.s:Nat))/\Below w.heap.size w w':=by
 obtain⟨k,s,f,t⟩:=p;unfold Xc;simp only at hs ⊢;have hT1:Tx (w.alloc (.cells #[.int .i64 k,.string s,.int .i64 f,.int .i64 t] 37)):=hT.b ((Below.refl _ w).alloc (Nat.le_refl _) _);have lH:=hid (iF s _ hs hT1);have DT:=hid (λW (hW:Tx W)=>zl7 W (vI s) (by
  by_cases h0:vI s=0
  ·omega
  ·exact(Xa.1 (U0 h0)).2) hW)
 have HWD:=hid (λW=>zl8 W s);have HT1:=hid hT1;clear hT hT1;have e:XJ k s=if k=2 then 110 else if k=4 then Q4 (vI s)else if k=5 then 35 else if k=6 then GN s else 63:=rfl
 rw[e];clear e;by_cases h2:k=2
 ·rw[if_pos h2]
  have g2:(k==2)=true:=by simpa using h2
  clear h2;go_enter func77,ntmps77
  go_wp2_with fail
  go_wp2;go_ret;exact⟨rfl,(Below.refl _ w).alloc (Nat.le_refl _) _⟩
 ·rw[if_neg h2]
  have g2:(k==2)=false:=by simpa using h2
  clear h2;by_cases h4:k=4
  ·rw[if_pos h4]
   have g4:(k==4)=true:=by simpa using h4
   clear h4;go_enter func77,ntmps77
   go_wp2_with fail
   refine lH.out.mono ?_;rintro e w1 ⟨rfl,hd⟩;have HD:=hid hd;clear hd
   go_wp2_with fail
   refine(DT.out w1 (HT1.out.d HD.out)).mono ?_;rintro e w2 ⟨rfl,rfl⟩;go_wp2;go_ret;exact⟨rfl,((Below.refl _ w).alloc (Nat.le_refl _) _).trans HD.out.below⟩
  ·rw[if_neg h4]
   have g4:(k==4)=false:=by simpa using h4
   clear h4;by_cases h5:k=5
   ·rw[if_pos h5]
    have g5:(k==5)=true:=by simpa using h5
    clear h5;go_enter func77,ntmps77;go_wp2;go_ret;exact⟨rfl,(Below.refl _ w).alloc (Nat.le_refl _) _⟩
   ·rw[if_neg h5]
    have g5:(k==5)=false:=by simpa using h5
    clear h5;by_cases h6:k=6
    ·rw[if_pos h6]
     have g6:(k==6)=true:=by simpa using h6
     clear h6;go_enter func77,ntmps77
     go_wp2_with fail
     refine(HWD.out _).mono ?_;rintro e w2 ⟨rfl,rfl⟩;go_wp2;go_ret;exact⟨rfl,(Below.refl _ w).alloc (Nat.le_refl _) _⟩
    ·rw[if_neg h6]
     have g6:(k==6)=false:=by simpa using h6
     clear h6;go_enter func77,ntmps77;go_wp2;go_ret;exact⟨rfl,(Below.refl _ w).alloc (Nat.le_refl _) _⟩
end
end Go.Proofs.YtkolpaonccmgiaaGreatDoor.Q

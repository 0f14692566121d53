/- What the document's own Text and At of layer 5 ret -/
import Derived.Test.YtkolpaonccmgiaaGreatDoorTt
import Derived.Test.YtkolpaonccmgiaaGreatDoorQl
namespace Go.Proofs.YtkolpaonccmgiaaGreatDoor
set_option linter.unusedSectionVars false
set_option linter.unusedVariables false
open Go.Proofs.Tryz
open _root_.Go.IntWalk renaming i64_in->waq
open Lib(hid)
set_option maxHeartbeats 8000000
set_option maxRecDepth 100000
open Go.RowKit
def Zn:ByteArray:=⟨#[38,38,32,124,124,32,59,59,32,60,60,32,60,60,45,62,62,32,60,38,32,62,38,32,60,62,32,62,124,32,60,32,32,62,32,32,38,32,32,59,32,32,124,32,32,40,32,32,41,32,32]⟩
def X4(k m:Nat):Bool:=(List.range 3).all λi=>decide (m<=i->(bt Zn (3*k+i)).toNat=32)
theorem TJ{k m:Nat}(hk:k<17)(hm:m<=3)(h:X4 k m=true)(h0:m=0\/(bt Zn (3*k+(m-1))).toNat≠32):Zn.extract (3*k) (3*k+m)=txt (k+1):=by
 have:∀k,k<17->∀m,m<4->X4 k m=true->(m=0\/(bt Zn (3*k+(m-1))).toNat≠32)->Zn.extract (3*k) (3*k+m)=txt (k+1):=by decide+kernel
 exact this k hk m (by omega) h h0
theorem iq{k m:Nat}(h:X4 k (m+1)=true)(e:(bt Zn (3*k+m)).toNat=32):X4 k m=true:=by
 unfold X4 at h ⊢;rw[List.all_eq_true]at h ⊢;intro i hi;have:=h i hi;rw[decide_eq_true_iff]at this ⊢;intro hm;by_cases g:i=m
 ·rw[g];exact e
 ·exact this (by omega)
theorem TK{a b:ByteArray}(h:a=b):Ending.returned (.string a)=.returned (.string b):=by rw[h]
def TL(v:Value):Nat:=match v with
 | .string s=>s.size
 |_=>0
theorem zmj{s:ByteArray}{k:Nat}{c:Nat}(h:k<s.size)(e:(bt s k).toNat=c):((s[k].toNat:Int)==(c:Int))=true:=by
 rw[zT h]at e;rw[e];simp
theorem zmk{s:ByteArray}{k:Nat}{c:Nat}(h:k<s.size)(e:(bt s k).toNat≠c):((s[k].toNat:Int)==(c:Int))=false:=by
 rw[zT h]at e;rw[beq_eq_false_iff_ne];intro g;exact e (by omega)
theorem iw(k o:Nat)(hk:k<17)(ho:Hid (o=k+1))(w:World):
  Calls prog 51 #[.int .i64 o] w λe w'=>e=.returned (.string (txt o))/\w'=w:=by
 have h1:decide ((o:Int)<1)=false:=decide_eq_false_iff_not.2 (by have:=ho.out;omega);have h2:decide (17<(o:Int))=false:=decide_eq_false_iff_not.2 (by have:=ho.out;omega);have h1':decide (o<1)=false:=decide_eq_false_iff_not.2 (by have:=ho.out;omega);have h2':decide (17<o)=false:=decide_eq_false_iff_not.2 (by have:=ho.out;omega);have e1:IntKind.i64.wrap ((o:Int)-1)=(k:Int):=by have:=ho.out;rw[waq _ (by omega)];omega
 have e2:IntKind.i64.wrap (3*(k:Int))=((3*k:Nat):Int):=by rw[waq _ (by omega)];omega
 obtain⟨z,hz⟩:∃z,z=3*k+3:=⟨_,rfl⟩;have hz2:z<=51:=by omega
 have hz3:3*k<=z:=by omega
 have e3:IntKind.i64.wrap (3*(o:Int))=(z:Int):=by have:=ho.out;rw[waq _ (by omega)];omega
 have HZ:=hid hz;clear hz;go_enter func51,ntmps51;go_wp2
 go_loopw [3] (λv wr=>∃m x,m<=3/\v=.string x/\x=Zn.extract (3*k) (3*k+m)/\X4 k m=true/\wr=w) (λv _=>TL v)
 case atStart=>
  refine⟨3,_,Nat.le_refl _,rfl,by rw[←HZ.out];rfl,?_,rfl⟩;unfold X4;rw[List.all_eq_true];intro i hi;rw[decide_eq_true_iff];intro hm;simp at hi;omega
 case round=>
  obtain⟨m,x,hm,rfl,hx,hall,rfl⟩:=hrel;have hA:Zn.size=51:=rfl;have hsz:x.size=m:=by rw[hx,ByteArray.size_extract,hA];omega
  have HX:=hid hx;have Jk:=hid hall;clear hx hall hA;rcases Nat.eq_zero_or_pos m with rfl|hpos
  ·go_wp2
   go_ret;exact⟨TK (HX.out.trans ((TJ hk (Nat.zero_le _) Jk.out (.inl rfl)).trans (congrArg txt ho.out.symm))),rfl⟩
  ·obtain⟨j,rfl⟩:∃j,m=j+1:=⟨m-1,by omega⟩
   have hj:j<x.size:=by omega
   have hj2:(j:Int)<x.size:=by omega
   have hp:decide ((0:Int)<x.size)=true:=decide_eq_true_iff.2 (by omega);have hp2:decide (0<x.size)=true:=decide_eq_true_iff.2 (by omega);have hj3:(j:Int)<=x.size:=by omega
   have hA:Zn.size=51:=rfl;have eb:bt x j=bt Zn (3*k+j):=by rw[HX.out];exact VC _ _ _ _ (by rw[hA];omega) (by omega)
   have e4:IntKind.i64.wrap ((x.size:Int)-1)=(j:Int):=by rw[waq _ (by omega)];omega
   have EB:=hid eb;have HS:=hid hsz;clear hsz eb hA;by_cases e:(bt x j).toNat=32
   ·have t1:=zmj hj e
    have HE:=hid e;clear e;go_wp2
    go_roundw
    case rel=>
     refine⟨j,_,by omega,rfl,?_,iq Jk.out (by rw[←EB.out];exact HE.out),by first|rfl|trivial⟩;rw[HX.out,ByteArray.extract_extract];congr 1;omega
    case measure=>simp[TL];have:=HS.out;omega
   ·have t1:=zmk hj e
    have HE:=hid e;clear e;go_wp2;go_ret;exact⟨TK (HX.out.trans ((TJ hk hm Jk.out (.inr (by rw[Nat.add_sub_cancel,←EB.out];exact HE.out))).trans (congrArg txt ho.out.symm))),rfl⟩
theorem H9(op:Int)(w:World):
  Calls prog 51 #[.int .i64 op] w λe w'=>e=.returned (.string (txt op.toNat))/\w'=w:=by
 by_cases h:1<=op/\op<=17
 ·obtain⟨o,rfl⟩:=Int.eq_ofNat_of_zero_le (a:=op) (by omega)
  rw[Int.toNat_natCast];exact iw (o-1) o (by omega) (hid (by omega)) w
 ·have ht:txt op.toNat=⟨#[]⟩:=pW (by omega)
  rw[ht];clear ht;by_cases g:op<1
  ·have hd:decide (op<1)=true:=by simpa using g
   clear h;go_enter func51,ntmps51;go_wp2;go_ret;exact⟨rfl,rfl⟩
  ·have h2:17<op:=by omega
   have hd:decide (op<1)=false:=by simpa using g
   have hd2:decide (17<op)=true:=by simpa using h2
   clear h;go_enter func51,ntmps51;go_wp2;go_ret;exact⟨rfl,rfl⟩
theorem rW(o:Nat)(t:ByteArray)(h:txt o=t)(w:World):
  Calls prog 51 #[.int .i64 o] w λe w'=>e=.returned (.string t)/\w'=w:=by
 have:=H9 o w;rw[Int.toNat_natCast,h]at this;exact this
def Qv(s:ByteArray)(k o b:Nat):Prop:=
 (b=0/\∀i∈ops,i<o->¬jL s k (txt i))\/(b∈ops/\jL s k (txt b)/\∀i∈ops,i<o->jL s k (txt i)->(txt i).size<=(txt b).size)
theorem Qv.keep{s:ByteArray}{k o b:Nat}(h:Qv s k o b)(hn:jL s k (txt o)->(txt o).size<=(txt b).size)(ho:o∈ops):Qv s k (o+1) b:=by
 rcases h with⟨h1,h2⟩|⟨h1,h2,h3⟩
 ·refine .inl ⟨h1,λi hi hlt hf=>?_⟩
  by_cases g:i=o
  ·subst g
   have:=hn hf;rw[h1]at this;have h0:(txt 0).size=0:=rfl;have:=dI ho;omega
  ·exact h2 i hi (by omega) hf
 ·refine .inr ⟨h1,h2,λi hi hlt hf=>?_⟩
  by_cases g:i=o
  ·rw[g]at hf ⊢;exact hn hf
  ·exact h3 i hi (by omega) hf
theorem Qv.take{s:ByteArray}{k o b:Nat}(h:Qv s k o b)(hf:jL s k (txt o))(hlt:(txt b).size<(txt o).size)(ho:o∈ops):Qv s k (o+1) o:=by
 refine .inr ⟨ho,hf,λi hi hi2 hfi=>?_⟩;by_cases g:i=o
 ·rw[g];exact Nat.le_refl _
 ·rcases h with⟨h1,h2⟩|⟨h1,h2,h3⟩
  ·exact absurd hfi (h2 i hi (by omega))
  ·exact Nat.le_trans (h3 i hi (by omega) hfi) (Nat.le_of_lt hlt)
theorem Qv.done{s:ByteArray}{k b:Nat}(h:Qv s k 18 b):yS s k=b:=by
 refine Cm ?_;rcases h with⟨h1,h2⟩|⟨h1,h2,h3⟩
 ·exact .inl ⟨h1,λi hi=>h2 i hi (by have:=(Xa.1 hi).2;omega)⟩
 ·exact .inr ⟨h1,h2,λi hi=>h3 i hi (by have:=(Xa.1 hi).2;omega)⟩
theorem Qv.le{s:ByteArray}{k o b:Nat}(h:Qv s k o b):b<=17:=by
 rcases h with⟨h1,_⟩|⟨h1,_⟩
 ·omega
 ·exact(Xa.1 h1).2
def ig(s:ByteArray)(k:Nat)(w:World)(v5 v6:Value)(wr:World):Prop:=
 ∃b o:Nat,v5=.int .i64 b/\v6=.int .i64 o/\1<=o/\o<=18/\Qv s k o b/\wr=w
theorem zml(s:ByteArray)(k:Nat)(w:World)(hs:s.size<=1000000)(hk:k<=s.size):
  Calls prog 95 #[.string s,.int .i64 k] w λe w'=>e=.returned (.int .i64 (yS s k:Nat))/\w'=w:=by
 obtain⟨r,hr⟩:∃r,r=s.size-k:=⟨_,rfl⟩;have e1:IntKind.i64.wrap ((s.size:Int)-k)=(r:Int):=by rw[waq _ (by omega)];omega
 have HR:=hid hr;clear hr;go_enter func95,ntmps95;go_wp2
 go_loopw [5,6] (λv5 v6 wr=>ig s k w v5 v6 wr) (λ_ v6 _=>18-(intOf v6).toNat)
 case atStart=>exact⟨0,1,rfl,rfl,by omega,by omega,.inl ⟨rfl,λi hi h=>absurd (Xa.1 hi).1 (by omega)⟩,rfl⟩
 case round=>
  obtain⟨b,o,rfl,rfl,ho1,ho2,hb,rfl⟩:=hrel;by_cases hlt:o=18
  ·subst hlt
   have hB:=hb.done;clear hb;go_wp2;go_ret;exact⟨qc (by rw[hB]),rfl⟩
  ·have zoU:(o:Int)<=17:=by omega
   have zmm:o<=17:=by omega
   have hom:o∈ops:=Xa.2 ⟨ho1,zmm⟩;have zoV:=hb.le;obtain⟨t,ht⟩:∃t,txt o=t:=⟨_,rfl⟩;obtain⟨t2,ht2⟩:∃t2,txt b=t2:=⟨_,rfl⟩;have hz:=Lc o;have hz2:=Lc b;rw[ht]at hz;rw[ht2]at hz2;have HB:=hid hb;have HT:=hid ht;have HT2:=hid ht2;have o6:=hid hom;obtain⟨q,hq⟩:∃q,q=k+t.size:=⟨_,rfl⟩;have e2:IntKind.i64.wrap ((k:Int)+t.size)=(q:Int):=by rw[waq _ (by omega)];omega
   have HQ:=hid hq;clear hb ht ht2 hom hlt hq;by_cases c1:t.size<=r
   ·have d1:decide ((t.size:Int)<=r)=true:=decide_eq_true_iff.2 (by omega)
    have d1':decide (t.size<=r)=true:=decide_eq_true_iff.2 c1;have i1:(q:Int)<=s.size:=by have:=HR.out;have:=HQ.out;omega
    have i2:(k:Int)<=q:=by have:=HQ.out;omega
    have hfits:jL s k t↔s.extract k q=t:=by
     rw[HQ.out];exact⟨λh=>h.2,λh=>⟨by have:=HR.out;omega,h⟩⟩
    have HF:=hid hfits;clear hfits;by_cases e:s.extract k q=t
    ·have t1:((s.extract k q).toList==t.toList)=true:=by rw[Zv];exact decide_eq_true_iff.2 e
     have hf:jL s k (txt o):=by rw[HT.out];exact HF.out.2 e
     have wY:=hid hf;clear e hf;by_cases c2:t2.size<t.size
     ·have d2:decide ((t2.size:Int)<t.size)=true:=decide_eq_true_iff.2 (by omega)
      have d2':decide (t2.size<t.size)=true:=decide_eq_true_iff.2 c2;have hnew:=HB.out.take wY.out (by rw[HT.out,HT2.out];exact c2) o6.out;have HN:=hid hnew;clear hnew
      go_wp2_with fail
      refine(rW o t HT.out _).mono ?_;rintro e w' ⟨rfl,rfl⟩
      go_wp2_with fail
      refine(rW b t2 HT2.out _).mono ?_;rintro e w' ⟨rfl,rfl⟩;go_wp2
      go_roundw
      case rel=>exact⟨o,o+1,rfl,by go_num,by omega,by omega,HN.out,rfl⟩
      case measure=>simp[intOf];omega
     ·have d2:decide ((t2.size:Int)<t.size)=false:=decide_eq_false_iff_not.2 (by omega)
      have d2':decide (t2.size<t.size)=false:=decide_eq_false_iff_not.2 c2;have hnew:=HB.out.keep (λ_=>by rw[HT.out,HT2.out];omega) o6.out;have HN:=hid hnew;clear hnew
      go_wp2_with fail
      refine(rW o t HT.out _).mono ?_;rintro e w' ⟨rfl,rfl⟩
      go_wp2_with fail
      refine(rW b t2 HT2.out _).mono ?_;rintro e w' ⟨rfl,rfl⟩;go_wp2
      go_roundw
      case rel=>exact⟨b,o+1,rfl,by go_num,by omega,by omega,HN.out,rfl⟩
      case measure=>simp[intOf];omega
    ·have t1:((s.extract k q).toList==t.toList)=false:=by rw[Zv];exact decide_eq_false_iff_not.2 e
     have hnew:=HB.out.keep (λh=>absurd (HF.out.1 (by rw[HT.out]at h;exact h)) e) o6.out;have HN:=hid hnew;clear hnew e
     go_wp2_with fail
     refine(rW o t HT.out _).mono ?_;rintro e w' ⟨rfl,rfl⟩;go_wp2
     go_roundw
     case rel=>exact⟨b,o+1,rfl,by go_num,by omega,by omega,HN.out,rfl⟩
     case measure=>simp[intOf];omega
   ·have d1:decide ((t.size:Int)<=r)=false:=decide_eq_false_iff_not.2 (by omega)
    have d1':decide (t.size<=r)=false:=decide_eq_false_iff_not.2 c1;have hnew:=HB.out.keep (λh=>by
     have:=h.1;rw[HT.out]at this;have:=HR.out;omega) o6.out
    have HN:=hid hnew;clear hnew
    go_wp2_with fail
    refine(rW o t HT.out _).mono ?_;rintro e w' ⟨rfl,rfl⟩;go_wp2
    go_roundw
    case rel=>exact⟨b,o+1,rfl,by go_num,by omega,by omega,HN.out,rfl⟩
    case measure=>simp[intOf];omega
open _root_.Nat renaming le_refl->waa
theorem zdl(n:Nat):cls n=1↔n=32\/n=9:=by
 unfold cls
 repeat' split
 all_goals omega
def znm(s:ByteArray)(E:Nat)(w:World)(v:Value)(wr:World):Prop:=∃b:Nat,b<=s.size/\v=.int .i64 (b:Int)/\qL s b=E/\wr=w
section
variable(w:World)
theorem znn(s:ByteArray)(a:Nat)(ha:a<=s.size)(hs:s.size<=1000000):
  Calls prog 94 #[.string s,.int .i64 (a:Int)] w λe w'=>e=.returned (.int .i64 ((qL s a:Nat):Int))/\w'=w:=by
 obtain⟨E,hE⟩:∃E,qL s a=E:=⟨_,rfl⟩;rw[hE];have HE:=hid hE;clear hE;go_enter func94,ntmps94;go_wp2
 go_loopw [1] (λv wr=>znm s E w v wr) (λv _=>s.size-(intOf v).toNat)
 case atStart=>exact⟨a,ha,rfl,HE.out,rfl⟩
 case round=>
  obtain⟨b,hbs,rfl,hbe,rfl⟩:=hrel;have Zl:=hid hbe;clear hbe HE;by_cases hlt:b<s.size
  ·have q0:(0:Int)<=(b:Int):=by omega
   have q1:(b:Int)<(s.size:Int):=by omega
   obtain⟨c,hc⟩:∃c,by8 s b=c:=⟨_,rfl⟩;have hix:∀hh:b<s.size,(s[b]'hh).toNat=c:=λhh=>by rw[←hc];unfold by8;rw[zT hh]
   have hone:∀k,b1 s b=k->k≠0->qL s (b+k)=E:=λk h h0=>by
    have:=zng hbs (by rw[h];exact h0);rw[h]at this;rw[←this];exact Zl.out
   have Iq:=hid hone;have HC:=hid hc;have hcl:(c=32\/c=9)->b1 s b=1:=λh=>by
    unfold b1;rw[if_pos ⟨hlt,(zdl _).2 (by show by8 s b=32\/by8 s b=9;rw[HC.out];exact h)⟩]
   have hno:¬(c=32\/c=9)->b1 s b=if b+1<s.size/\c=92/\by8 s (b+1)=10 then 2 else 0:=λh=>by
    unfold b1;rw[if_neg (λe=>h (by have:=(zdl _).1 e.2;rw[←HC.out];exact this)),HC.out]
   have XK:=hid hcl;have Zu:=hid hno;clear hone hc hcl hno;by_cases h32:c=32
   ·subst h32
    go_wp2
    go_roundw
    case rel=>exact⟨b+1,by omega,by go_num,Iq.out 1 (XK.out (.inl rfl)) (by omega),rfl⟩
    case measure=>simp[intOf];omega
   by_cases h9:c=9
   ·subst h9
    clear h32;go_wp2
    go_roundw
    case rel=>exact⟨b+1,by omega,by go_num,Iq.out 1 (XK.out (.inr rfl)) (by omega),rfl⟩
    case measure=>simp[intOf];omega
   have hn2:=Zu.out (by omega);have t32:((c:Int)==32)=false:=beq_eq_false_iff_ne.2 (by omega);have t9:((c:Int)==9)=false:=beq_eq_false_iff_ne.2 (by omega);by_cases yR:c=92
   ·subst yR
    clear h32 h9 t32 t9;obtain⟨b',hb'⟩:∃b',b+1=b':=⟨_,rfl⟩;rw[hb']at hn2;have r1:IntKind.i64.wrap ((b:Int)+1)=(b':Int):=by rw[IntWalk.i64_in _ (by omega)];omega
    by_cases hlt2:b'<s.size
    ·have u0:(0:Int)<=(b':Int):=by omega
     have u1:(b':Int)<(s.size:Int):=by omega
     obtain⟨c2,hc2⟩:∃c2,by8 s b'=c2:=⟨_,rfl⟩;have hix2:∀hh:b'<s.size,(s[b']'hh).toNat=c2:=λhh=>by rw[←hc2];unfold by8;rw[zT hh]
     rw[hc2]at hn2;have HB':=hid hb';by_cases h10:c2=10
     ·rw[if_pos ⟨hlt2,rfl,h10⟩]at hn2
      subst h10;have hnx:=Iq.out 2 hn2 (by omega);have ZF:=hid hnx;clear hn2 hc2 hb' hnx;go_wp2
      go_roundw
      case rel=>exact⟨b+2,by have:=HB'.out;omega,by go_num,ZF.out,rfl⟩
      case measure=>simp[intOf];have:=HB'.out;omega
     ·rw[if_neg (λe=>h10 e.2.2)]at hn2
      have t10:((c2:Int)==10)=false:=beq_eq_false_iff_ne.2 (by omega);have hst:b=E:=by rw[←Oo hn2];exact Zl.out
      have HST:=hid hst;clear hn2 hc2 hb' hst h10;go_wp2;go_ret;exact⟨by rw[HST.out];rfl,rfl⟩
    ·have u1:¬(b':Int)<(s.size:Int):=by omega
     rw[if_neg (λe=>hlt2 e.1)]at hn2;have hst:b=E:=by rw[←Oo hn2];exact Zl.out
     have HST:=hid hst;clear hn2 hb' hst hlt2;go_wp2;go_ret;exact⟨by rw[HST.out];rfl,rfl⟩
   ·rw[if_neg (λe=>yR e.2.1)]at hn2
    have t92:((c:Int)==92)=false:=beq_eq_false_iff_ne.2 (by omega);have hst:b=E:=by rw[←Oo hn2];exact Zl.out
    have HST:=hid hst;clear hn2 hst yR h32 h9;go_wp2;go_ret;exact⟨by rw[HST.out];rfl,rfl⟩
  ·have q1:¬(b:Int)<(s.size:Int):=by omega
   have hst:b=E:=by
    have:b1 s b=0:=by unfold b1;rw[if_neg (λe=>hlt e.1),if_neg (by omega)]
    rw[←Oo this];exact Zl.out
   have HST:=hid hst;clear hst hlt;go_wp2;go_ret;exact⟨by rw[HST.out];rfl,rfl⟩
theorem zdm{m2 m:Nat}(h:ZO m2 m=true):m≠0:=by rintro rfl;simp[ZO]at h
theorem zdn{m:Nat}(hm:m<=14)(h0:m≠0)(h12:m≠12):Xz m≠ []:=by
 obtain⟨b,l,e,_⟩:=zfK hm h0 h12;rw[e];simp
theorem zno{st:List Fr}(hg:good st):ZN st=[]↔st.length=1\/(st.length=2/\top st=12):=by
 match st,hg with
 | [],hg=>exact absurd hg (by simp[good])
 | [(m,f)],hg=>
  have:m=0:=hg;subst this;exact⟨λ_=> .inl rfl,λ_=>rfl⟩
 |(m,f)::(m2,f2)::r,hg=>
  obtain⟨ho,hg2⟩:=G8 hg;have h0:=zdm ho;have hB:=Jw ho;unfold base at hB;rw[decide_eq_true_iff]at hB;have e:ZN ((m,f)::(m2,f2)::r)=Xz m++(Xz m2++ZN r):=rfl;have hl:((m,f)::(m2,f2)::r).length=r.length+2:=rfl;rw[e,hl];by_cases h12:m=12
  ·subst h12
   have e0:Xz 12=[]:=rfl;rw[e0,List.nil_append]
   match r,hg2 with
   | [],hg2=>
    have:m2=0:=hg2;subst this;exact⟨λ_=> .inr ⟨rfl,rfl⟩,λ_=>rfl⟩
   |(m3,f3)::r3,hg2=>
    obtain⟨ho2,_⟩:=G8 hg2;have hne:=zdn (QT hg2) (zdm ho2) hB.2.2.2.1;constructor
    ·intro h
     exact absurd (List.append_eq_nil_iff.1 h).1 hne
    ·intro h
     have:((m3,f3)::r3).length=r3.length+1:=rfl;omega
  ·have hne:=zdn (QT hg) h0 h12
   constructor
   ·intro h
    exact absurd (List.append_eq_nil_iff.1 h).1 hne
   ·rintro(h|⟨_,h⟩)
    ·omega
    ·exact absurd h h12
theorem znp{x:Ms}(h:Inv x):(ZN x.st).isEmpty=(decide (uk x.st.reverse=⟨#[84]⟩)||decide (uk x.st.reverse=⟨#[84,76]⟩)):=by
 rw[Bool.eq_iff_iff,List.isEmpty_iff,zno h.good];simp only[Bool.or_eq_true,decide_eq_true_eq,Uz h.good,UA h.good]
theorem znq(t:ByteArray)(ht:t.size<=80000):
  Calls prog 98 #[.string t] w λe w'=>e=.returned (.bool (!Z7 t))/\Below w.heap.size w w':=by
 have hop:(!Z7 t)=(ZN (zU t t.size).st).isEmpty:=by unfold Z7;rw[Bool.not_not]
 rw[hop,znp (Yz t t.size)];have hrun:=λW=>zgU W t ht;generalize zU t t.size=x at hrun ⊢;obtain⟨S,hS⟩:∃S,uk x.st.reverse=S:=⟨_,rfl⟩;have zdo:=hid hrun;have HS:=hid hS;rw[hS];have hT:(S.toList==(⟨#[84]⟩:ByteArray).toList)=decide (S=⟨#[84]⟩):=Zv _ _;have hTL:(S.toList==(⟨#[84,76]⟩:ByteArray).toList)=decide (S=⟨#[84,76]⟩):=Zv _ _;rw[show(⟨#[84]⟩:ByteArray).toList=[84] by rw[Go.ByteArray.toList_eq]]at hT;rw[show(⟨#[84,76]⟩:ByteArray).toList=[84,76] by rw[Go.ByteArray.toList_eq]]at hTL;obtain⟨cT,dw⟩:∃cT,decide (S=⟨#[84]⟩)=cT:=⟨_,rfl⟩;obtain⟨cL,hcL⟩:∃cL,decide (S=⟨#[84,76]⟩)=cL:=⟨_,rfl⟩;rw[dw]at hT ⊢;rw[hcL]at hTL ⊢;clear hrun hS hop dw hcL
 cases cT with
 |true=>
  go_enter func98,ntmps98
  go_wp2_with fail
  refine(zdo.out _).mono ?_;rintro e w1 ⟨S1,g,n,cap,rfl,hR,hB1,_⟩;obtain rfl:S1=S:=hR.s.trans HS.out;have kb:=zf.new w1 #[.string S1,.slice (some ⟨g,0,none⟩) n cap,.bool x.fresh] 112;have c0:=kb.cell 0;clear hR;go_wp2;go_ret;exact⟨rfl,hB1.alloc hB1.size _⟩
 |false=>
  go_enter func98,ntmps98
  go_wp2_with fail
  refine(zdo.out _).mono ?_;rintro e w1 ⟨S1,g,n,cap,rfl,hR,hB1,_⟩;obtain rfl:S1=S:=hR.s.trans HS.out;have kb:=zf.new w1 #[.string S1,.slice (some ⟨g,0,none⟩) n cap,.bool x.fresh] 112;have c0:=kb.cell 0;clear hR;go_wp2;go_ret;exact⟨by simp,hB1.alloc hB1.size _⟩
def znr(b:Bool):Int:=if b=true then 1 else 0
def zns(s:ByteArray)(d:Dl)(E:Nat)(B:Bool)(W:World)(v8 v9:Value)(wr:World):Prop:=
 ∃f i:Nat,f<=i/\i<=s.size+1/\(i=s.size+1->s.size<=f)/\v8=.int .i64 (f:Int)/\v9=.int .i64 (i:Int)/\(∀j,f<=j->j<i->j<s.size->by8 s j≠10)/\dA s d f=(E,B)/\yO W wr
def zdp(s:ByteArray)(f i:Nat)(tb:Bool)(W:World)(v10:Value)(wr:World):Prop:=
 ∃k:Nat,f<=k/\k<=i/\v10=.int .i64 (k:Int)/\(∀j,f<=j->j<k->by8 s j=9)/\(tb=false->k=f)/\wr=W
theorem zdq{s:ByteArray}{f i k:Nat}{tb:Bool}(h1:f<=k)(h2:k<=i)(h3:∀j,f<=j->j<k->by8 s j=9)(h4:tb=false->k=f)(h5:tb=true->k<i->by8 s k≠9):f+QB s f i tb=k:=by
 unfold QB
 cases tb with
 |false=>rw[if_neg (by decide),h4 rfl,Nat.add_zero]
 |true=>
  rw[if_pos rfl,Xq (n:=k-f) _ (by omega) (λj hj=>by
   have:=h3 (f+j) (by omega) (by omega);simpa using this) (λhj=>by
   have:=h5 rfl (by omega);rw[show f+(k-f)=k by omega];simpa using this)]
  omega
theorem znt{s:ByteArray}{d:Dl}{f i E:Nat}{B:Bool}(h1:f<=i)(h2:i<=s.size)(h0:f<s.size)(hin:∀j,f<=j->j<i->j<s.size->by8 s j≠10)(h10:i<s.size->by8 s i=10)(hd:dA s d f=(E,B)){k:Nat}(hk:f+QB s f i d.tabs=k):
  (s.extract k i=d.word->E=(if i<s.size then i+1 else i)/\B=true)/\(s.extract k i≠d.word->dA s d (i+1)=(E,B)):=by
 have hn:vk s f=i:=DU h1 h2 (λj a b=>hin j a b (by omega)) h10;have hl:=znu h1 h2 hn h0 d;rw[hk]at hl;rw[Ip s d h0,hl]at hd;have hln:zY s f=if i<s.size then i+1 else i:=by
  unfold zY;rw[hn];split
  ·rfl
  ·omega
 constructor
 ·intro e
  rw[if_pos (decide_eq_true e),hln]at hd;injection hd with e1 e2;exact⟨e1.symm,e2.symm⟩
 ·intro e
  rw[if_neg (by rw[decide_eq_false e];decide),hln]at hd;by_cases g:i<s.size
  ·rw[if_pos g]at hd;exact hd
  ·rw[if_neg g]at hd
   rw[D6 s d (by omega)]at hd ⊢;exact hd
theorem znv(s:ByteArray)(a:Nat)(d:Dl)(ha:a<=s.size)(hs:s.size<=1000000):
  Calls prog 93 #[.string s,.int .i64 (a:Int),.agg #[.string d.word,.bool d.tabs]] w λe w'=>e=.returned (.tuple #[.int .i64 (((dA s d a).1:Nat):Int),.int .i64 (znr (dA s d a).2)])/\Below w.heap.size w w':=by
 obtain⟨⟨E,B⟩,hEB⟩:∃p,dA s d a=p:=⟨_,rfl⟩;rw[hEB];have HEB:=hid hEB;have VX:=hid (fun(f i:Nat)=>@znt s d f i E B);have Gj:=hid (fun(f:Nat)=>@D6 s d f);obtain⟨wd,tb⟩:=d;have HW:Hid ((⟨wd,tb⟩:Dl).word=wd/\(⟨wd,tb⟩:Dl).tabs=tb):=hid ⟨rfl,rfl⟩;obtain⟨D,hD⟩:∃D:Dl,(⟨wd,tb⟩:Dl)=D:=⟨_,rfl⟩;rw[hD]at HEB VX Gj HW;clear hEB hD;have kb:=zf.new w #[.string wd,.bool tb] 105;have hB1:Below w.heap.size w (w.alloc (.cells #[.string wd,.bool tb] 105)):=(Below.refl _ w).alloc (waa _) _;go_enter func93,ntmps93;go_wp2;obtain⟨W1,hW1⟩:∃X,w.alloc (.cells #[.string wd,.bool tb] 105)=X:=⟨_,rfl⟩;obtain⟨Bd,hBd⟩:∃z,w.heap.size=z:=⟨_,rfl⟩;have ja:=hid hBd;rw[hW1]at kb hB1 ⊢;rw[hBd]at kb ⊢;have HB1:=hid hB1;clear hW1 hBd hB1
 go_loopw [8,9] (λv8 v9 wr=>zns s D E B W1 v8 v9 wr) (λ_ v _=>s.size+1-(intOf v).toNat)
 case atStart=>exact⟨a,a,waa _,by omega,λh=>by omega,rfl,rfl,λj h1 h2=>by omega,HEB.out,yO.refl _⟩
 case round=>
  obtain⟨f,i,hfi,his,hie,rfl,rfl,hin,hd,hdr⟩:=hrel;have yH:zf wr Bd #[.string wd,.bool tb] 105:=by obtain⟨q,rfl⟩:=hdr;exact kb.drewN q
  have c0:=yH.cell 0;have c1:=yH.cell 1;have xP:=hid hin;have HD:=hid hd;have X6:Below w.heap.size w wr:=HB1.out.trans (hdr.below);have Ro:=hid X6;have HDR:=hid hdr;clear hin hd X6 hdr kb yH;by_cases hend:i=s.size+1
  ·have hfs:=hie hend
   have hde:=Gj.out f (by omega);have hee:=HD.out.symm.trans hde;injection hee with e1 e2;subst e1 e2;have q1:¬(i:Int)<=(s.size:Int):=by omega
   clear hde hend hie;go_wp2;go_ret2;exact⟨rfl,Ro.out⟩
  have zdr:i<=s.size:=by omega
  have q1:(i:Int)<=(s.size:Int):=by omega
  have q0:(0:Int)<=(i:Int):=by omega
  clear hie hend his;by_cases hlt:i<s.size
  ·have q2:(i:Int)<(s.size:Int):=by omega
   obtain⟨c,hc⟩:∃c,by8 s i=c:=⟨_,rfl⟩;have hix:∀hh:i<s.size,(s[i]'hh).toNat=c:=λhh=>by rw[←hc];unfold by8;rw[zT hh]
   have HC:=hid hc;clear hc;have q3:((i:Int)==(s.size:Int))=false:=beq_eq_false_iff_ne.2 (by omega);by_cases h10:c=10
   ·have znw:Hid (by8 s i=10):=hid (HC.out.trans h10)
    subst h10;go_wp2
    go_loopw [10] (λv10 wq=>zdp s f i tb wr v10 wq) (λv _=>i-(intOf v).toNat)
    case atStart=>exact⟨f,waa _,hfi,rfl,λj h1 h2=>by omega,λ_=>rfl,rfl⟩
    case round=>
     obtain⟨k,hfk,hki,rfl,hk9,rQ,rfl⟩:=hrel;have u0:(0:Int)<=(k:Int):=by omega
     have u1:(k:Int)<=(i:Int):=by omega
     have TZ:=hid hk9;have Ir:=hid rQ;have hstep:(tb=true->k<i->by8 s k≠9)->(s.extract k i=wd->E=i+1/\B=true)/\(s.extract k i≠wd->dA s D (i+1)=(E,B)):=λh5=>by
      have:=VX.out f i hfi zdr (by omega) xP.out (λ_=>znw.out) HD.out (k:=k) (by rw[HW.out.2];exact zdq hfk hki TZ.out Ir.out h5);rw[HW.out.1,if_pos hlt]at this;exact this
     have YY:=hid hstep;obtain⟨X,hX⟩:∃X,s.extract k i=X:=⟨_,rfl⟩;rw[hX]at YY;have su:=Zv X wd;obtain⟨ce,hce⟩:∃ce,decide (X=wd)=ce:=⟨_,rfl⟩;rw[hce]at su;have VY:=hid hce;clear hk9 rQ hstep hce
     cases tb with
     |false=>
      have HST:=hid (YY.out (λh=>by cases h))
      cases ce with
      |true=>
       obtain⟨e1,e2⟩:=HST.out.1 (of_decide_eq_true VY.out);have yU:=hid e1;subst e2;clear e1;go_wp2
       go_quiet (fail)
       go_wp2;go_ret2;rw[yU.out];exact⟨rfl,below_drewN Ro.out _⟩
      |false=>
       have hnx:=HST.out.2 (of_decide_eq_false VY.out);have ZF:=hid hnx;clear hnx;go_wp2
       go_quiet (fail)
       go_wp2
       go_roundw
       case rel=>exact⟨i+1,i+1,waa _,by omega,λh=>by omega,by go_num,by go_num,λj h1 h2=>by omega,ZF.out,HDR.out.drewN _⟩
       case measure=>simp[intOf];omega
     |true=>
      by_cases sD:k<i
      ·have u2:(k:Int)<(i:Int):=by omega
       have hks:k<s.size:=by omega
       have u3:(k:Int)<(s.size:Int):=by omega
       obtain⟨cc,hcc⟩:∃cc,by8 s k=cc:=⟨_,rfl⟩;have znx:∀hh:k<s.size,(s[k]'hh).toNat=cc:=λhh=>by rw[←hcc];unfold by8;rw[zT hh]
       have sF:=hid hcc;clear hcc;by_cases h9:cc=9
       ·have Nw:Hid (by8 s k=9):=hid (sF.out.trans h9)
        subst h9;clear su;go_wp2
        go_roundw
        case rel=>
         refine⟨k+1,by omega,by omega,by go_num,λj h1 h2=>?_,(λh=>by cases h),by first|rfl|trivial⟩;by_cases e:j=k
         ·rw[e];exact Nw.out
         ·exact TZ.out j h1 (by omega)
        case measure=>simp[intOf];omega
       ·have t9:((cc:Int)==9)=false:=beq_eq_false_iff_ne.2 (by omega)
        have HST:=hid (YY.out (λ_ _=>by rw[sF.out];exact h9));clear h9
        cases ce with
        |true=>
         obtain⟨e1,e2⟩:=HST.out.1 (of_decide_eq_true VY.out);have yU:=hid e1;subst e2;clear e1;go_wp2
         go_quiet (fail)
         go_wp2;go_ret2;rw[yU.out];exact⟨rfl,below_drewN Ro.out _⟩
        |false=>
         have hnx:=HST.out.2 (of_decide_eq_false VY.out);have ZF:=hid hnx;clear hnx;go_wp2
         go_quiet (fail)
         go_wp2
         go_roundw
         case rel=>exact⟨i+1,i+1,waa _,by omega,λh=>by omega,by go_num,by go_num,λj h1 h2=>by omega,ZF.out,HDR.out.drewN _⟩
         case measure=>simp[intOf];omega
      ·have u2:¬(k:Int)<(i:Int):=by omega
       have HST:=hid (YY.out (λ_ h=>absurd h sD));clear sD
       cases ce with
       |true=>
        obtain⟨e1,e2⟩:=HST.out.1 (of_decide_eq_true VY.out);have yU:=hid e1;subst e2;clear e1;go_wp2
        go_quiet (fail)
        go_wp2;go_ret2;rw[yU.out];exact⟨rfl,below_drewN Ro.out _⟩
       |false=>
        have hnx:=HST.out.2 (of_decide_eq_false VY.out);have ZF:=hid hnx;clear hnx;go_wp2
        go_quiet (fail)
        go_wp2
        go_roundw
        case rel=>exact⟨i+1,i+1,waa _,by omega,λh=>by omega,by go_num,by go_num,λj h1 h2=>by omega,ZF.out,HDR.out.drewN _⟩
        case measure=>simp[intOf];omega
   ·have t10:((c:Int)!=10)=true:=by rw[bne,beq_eq_false_iff_ne.2 (by omega)];rfl
    have zny:((c:Int)==10)=false:=beq_eq_false_iff_ne.2 (by omega);clear c0 c1;go_wp2
    go_roundw
    case rel=>
     refine⟨f,i+1,by omega,by omega,λh=>by omega,rfl,by go_num,λj h1 h2 h3=>?_,HD.out,HDR.out⟩;by_cases e:j=i
     ·rw[e,HC.out];exact h10
     ·exact xP.out j h1 (by omega) h3
    case measure=>simp[intOf];omega
  ·have q2:¬(i:Int)<(s.size:Int):=by omega
   have q3:((i:Int)==(s.size:Int))=true:=beq_iff_eq.2 (by omega);by_cases hfe:f=i
   ·have q4:((f:Int)==(i:Int))=true:=beq_iff_eq.2 (by omega)
    have hfs:s.size<=f:=by omega
    clear c0 c1;go_wp2
    go_roundw
    case rel=>
     exact⟨f,i+1,by omega,by omega,λh=>hfs,rfl,by go_num,λj h1 h2 h3=>by omega,HD.out,HDR.out⟩
    case measure=>simp[intOf];omega
   ·have q4:((f:Int)==(i:Int))=false:=beq_eq_false_iff_ne.2 (by omega)
    go_wp2
    go_loopw [10] (λv10 wq=>zdp s f i tb wr v10 wq) (λv _=>i-(intOf v).toNat)
    case atStart=>exact⟨f,waa _,hfi,rfl,λj h1 h2=>by omega,λ_=>rfl,rfl⟩
    case round=>
     obtain⟨k,hfk,hki,rfl,hk9,rQ,rfl⟩:=hrel;have u0:(0:Int)<=(k:Int):=by omega
     have u1:(k:Int)<=(i:Int):=by omega
     have TZ:=hid hk9;have Ir:=hid rQ;have hstep:(tb=true->k<i->by8 s k≠9)->(s.extract k i=wd->E=i/\B=true)/\(s.extract k i≠wd->dA s D (i+1)=(E,B)):=λh5=>by
      have:=VX.out f i hfi zdr (by omega) xP.out (λh=>absurd h hlt) HD.out (k:=k) (by rw[HW.out.2];exact zdq hfk hki TZ.out Ir.out h5);rw[HW.out.1,if_neg hlt]at this;exact this
     have YY:=hid hstep;obtain⟨X,hX⟩:∃X,s.extract k i=X:=⟨_,rfl⟩;rw[hX]at YY;have su:=Zv X wd;obtain⟨ce,hce⟩:∃ce,decide (X=wd)=ce:=⟨_,rfl⟩;rw[hce]at su;have VY:=hid hce;clear hk9 rQ hstep hce
     cases tb with
     |false=>
      have HST:=hid (YY.out (λh=>by cases h))
      cases ce with
      |true=>
       obtain⟨e1,e2⟩:=HST.out.1 (of_decide_eq_true VY.out);have yU:=hid e1;subst e2;clear e1;go_wp2
       go_quiet (fail)
       go_wp2;go_ret2;rw[yU.out];exact⟨rfl,below_drewN Ro.out _⟩
      |false=>
       have hnx:=HST.out.2 (of_decide_eq_false VY.out);have ZF:=hid hnx;clear hnx;go_wp2
       go_quiet (fail)
       go_wp2
       go_roundw
       case rel=>exact⟨i+1,i+1,waa _,by omega,λh=>by omega,by go_num,by go_num,λj h1 h2=>by omega,ZF.out,HDR.out.drewN _⟩
       case measure=>simp[intOf];omega
     |true=>
      by_cases sD:k<i
      ·have u2:(k:Int)<(i:Int):=by omega
       have hks:k<s.size:=by omega
       have u3:(k:Int)<(s.size:Int):=by omega
       obtain⟨cc,hcc⟩:∃cc,by8 s k=cc:=⟨_,rfl⟩;have znx:∀hh:k<s.size,(s[k]'hh).toNat=cc:=λhh=>by rw[←hcc];unfold by8;rw[zT hh]
       have sF:=hid hcc;clear hcc;by_cases h9:cc=9
       ·have Nw:Hid (by8 s k=9):=hid (sF.out.trans h9)
        subst h9;clear su;go_wp2
        go_roundw
        case rel=>
         refine⟨k+1,by omega,by omega,by go_num,λj h1 h2=>?_,(λh=>by cases h),by first|rfl|trivial⟩;by_cases e:j=k
         ·rw[e];exact Nw.out
         ·exact TZ.out j h1 (by omega)
        case measure=>simp[intOf];omega
       ·have t9:((cc:Int)==9)=false:=beq_eq_false_iff_ne.2 (by omega)
        have HST:=hid (YY.out (λ_ _=>by rw[sF.out];exact h9));clear h9
        cases ce with
        |true=>
         obtain⟨e1,e2⟩:=HST.out.1 (of_decide_eq_true VY.out);have yU:=hid e1;subst e2;clear e1;go_wp2
         go_quiet (fail)
         go_wp2;go_ret2;rw[yU.out];exact⟨rfl,below_drewN Ro.out _⟩
        |false=>
         have hnx:=HST.out.2 (of_decide_eq_false VY.out);have ZF:=hid hnx;clear hnx;go_wp2
         go_quiet (fail)
         go_wp2
         go_roundw
         case rel=>exact⟨i+1,i+1,waa _,by omega,λh=>by omega,by go_num,by go_num,λj h1 h2=>by omega,ZF.out,HDR.out.drewN _⟩
         case measure=>simp[intOf];omega
      ·have u2:¬(k:Int)<(i:Int):=by omega
       have HST:=hid (YY.out (λ_ h=>absurd h sD));clear sD
       cases ce with
       |true=>
        obtain⟨e1,e2⟩:=HST.out.1 (of_decide_eq_true VY.out);have yU:=hid e1;subst e2;clear e1;go_wp2
        go_quiet (fail)
        go_wp2;go_ret2;rw[yU.out];exact⟨rfl,below_drewN Ro.out _⟩
       |false=>
        have hnx:=HST.out.2 (of_decide_eq_false VY.out);have ZF:=hid hnx;clear hnx;go_wp2
        go_quiet (fail)
        go_wp2
        go_roundw
        case rel=>exact⟨i+1,i+1,waa _,by omega,λh=>by omega,by go_num,by go_num,λj h1 h2=>by omega,ZF.out,HDR.out.drewN _⟩
        case measure=>simp[intOf];omega
end
end Go.Proofs.YtkolpaonccmgiaaGreatDoor

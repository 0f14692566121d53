/- What the document's own Text and At of layer 5 ret -/
import Derived.Test.YtdjcidackkogjaaGreatDoorTkA
namespace Go.Proofs.YtdjcidackkogjaaGreatDoor
set_option linter.unusedVariables false
open Lib(hid)
set_option maxHeartbeats 8000000
set_option maxRecDepth 100000
open Go.RowKit
def VL:ByteArray:=⟨#[38,38,32,124,124,32,59,59,32,60,60,32,60,60,45,62,62,32,60,38,32,62,38,32,60,62,32,62,124,32,60,32,32,62,32,32,38,32,32,59,32,32,124,32,32,40,32,32,41,32,32]⟩
def gQ(k m:Nat):Bool:=(List.range 3).all λi=>decide (m≤i→(bt VL (3*k+i)).toNat=32)
theorem zaV{k m:Nat}(hk:k<17)(hm:m≤3)(h:gQ k m=true)(h0:m=0∨(bt VL (3*k+(m-1))).toNat≠32):VL.extract (3*k) (3*k+m)=txt (k+1):=by
 have:∀k,k<17→∀m,m<4→gQ k m=true→(m=0∨(bt VL (3*k+(m-1))).toNat≠32)→VL.extract (3*k) (3*k+m)=txt (k+1):=by decide+kernel
 exact this k hk m (by omega) h h0
theorem zkl{k m:Nat}(h:gQ k (m+1)=true)(e:(bt VL (3*k+m)).toNat=32):gQ k m=true:=by
 unfold gQ at h ⊢;rw[List.all_eq_true]at h ⊢;intro i hi;have:=h i hi;rw[decide_eq_true_iff]at this ⊢;intro hm;by_cases g:i=m
 ·rw[g];exact e
 ·exact this (by omega)
theorem zaW{a b:ByteArray}(h:a=b):Ending.returned (.string a)=.returned (.string b):=by rw[h]
def zaX(v:Value):Nat:=match v with
 | .string s=>s.size
 |_=>0
theorem zkm{s:ByteArray}{k:Nat}{c:Nat}(h:k<s.size)(e:(bt s k).toNat=c):((s[k].toNat:Int)==(c:Int))=true:=by
 rw[yx h]at e;rw[e];simp
theorem zkn{s:ByteArray}{k:Nat}{c:Nat}(h:k<s.size)(e:(bt s k).toNat≠c):((s[k].toNat:Int)==(c:Int))=false:=by
 rw[yx h]at e;rw[beq_eq_false_iff_ne];intro g;exact e (by omega)
theorem zko(k o:Nat)(hk:k<17)(ho:Hid (o=k+1))(w:World):
  Calls Tryz.prog 55 #[.int .i64 o] w λe w'=>e=.returned (.string (txt o))∧w'=w:=by
 have h1:decide ((o:Int)<1)=false:=decide_eq_false_iff_not.2 (by have:=ho.out;omega);have h2:decide (17<(o:Int))=false:=decide_eq_false_iff_not.2 (by have:=ho.out;omega);have h1':decide (o<1)=false:=decide_eq_false_iff_not.2 (by have:=ho.out;omega);have h2':decide (17<o)=false:=decide_eq_false_iff_not.2 (by have:=ho.out;omega);have e1:IntKind.i64.wrap ((o:Int)-1)=(k:Int):=by have:=ho.out;rw[IntWalk.i64_in _ (by omega)];omega
 have e2:IntKind.i64.wrap (3*(k:Int))=((3*k:Nat):Int):=by rw[IntWalk.i64_in _ (by omega)];omega
 obtain⟨z,hz⟩:∃z,z=3*k+3:=⟨_,rfl⟩;have hz2:z≤51:=by omega
 have hz3:3*k≤z:=by omega
 have e3:IntKind.i64.wrap (3*(o:Int))=(z:Int):=by have:=ho.out;rw[IntWalk.i64_in _ (by omega)];omega
 have HZ:=hid hz;clear hz;go_enter Tryz.func55,Tryz.ntmps55;go_wp2
 go_loopw [3] (λv wr=>∃m x,m≤3∧v=.string x∧x=VL.extract (3*k) (3*k+m)∧gQ k m=true∧wr=w) (λv _=>zaX v)
 case atStart=>
  refine⟨3,_,Nat.le_refl _,rfl,by rw[←HZ.out];rfl,?_,rfl⟩;unfold gQ;rw[List.all_eq_true];intro i hi;rw[decide_eq_true_iff];intro hm;simp at hi;omega
 case round=>
  obtain⟨m,x,hm,rfl,hx,hall,rfl⟩:=hrel;have hA:VL.size=51:=rfl;have hsz:x.size=m:=by rw[hx,ByteArray.size_extract,hA];omega
  have HX:=hid hx;have Xz:=hid hall;clear hx hall hA;rcases Nat.eq_zero_or_pos m with rfl|hpos
  ·go_wp2
   go_ret;exact⟨zaW (HX.out.trans ((zaV hk (Nat.zero_le _) Xz.out (.inl rfl)).trans (congrArg txt ho.out.symm))),rfl⟩
  ·obtain⟨j,rfl⟩:∃j,m=j+1:=⟨m-1,by omega⟩
   have hj:j<x.size:=by omega
   have hj2:(j:Int)<x.size:=by omega
   have hp:decide ((0:Int)<x.size)=true:=decide_eq_true_iff.2 (by omega);have hp2:decide (0<x.size)=true:=decide_eq_true_iff.2 (by omega);have hj3:(j:Int)≤x.size:=by omega
   have hA:VL.size=51:=rfl;have eb:bt x j=bt VL (3*k+j):=by rw[HX.out];exact ZU _ _ _ _ (by rw[hA];omega) (by omega)
   have e4:IntKind.i64.wrap ((x.size:Int)-1)=(j:Int):=by rw[IntWalk.i64_in _ (by omega)];omega
   have EB:=hid eb;have HS:=hid hsz;clear hsz eb hA;by_cases e:(bt x j).toNat=32
   ·have t1:=zkm hj e
    have HE:=hid e;clear e;go_wp2
    go_roundw
    case rel=>
     refine⟨j,_,by omega,rfl,?_,zkl Xz.out (by rw[←EB.out];exact HE.out),by first|rfl|trivial⟩;rw[HX.out,ByteArray.extract_extract];congr 1;omega
    case measure=>simp[zaX];have:=HS.out;omega
   ·have t1:=zkn hj e
    have HE:=hid e;clear e;go_wp2;go_ret;exact⟨zaW (HX.out.trans ((zaV hk hm Xz.out (.inr (by rw[Nat.add_sub_cancel,←EB.out];exact HE.out))).trans (congrArg txt ho.out.symm))),rfl⟩
theorem zkp(op:Int)(w:World):
  Calls Tryz.prog 55 #[.int .i64 op] w λe w'=>e=.returned (.string (txt op.toNat))∧w'=w:=by
 by_cases h:1≤op∧op≤17
 ·obtain⟨o,rfl⟩:=Int.eq_ofNat_of_zero_le (a:=op) (by omega)
  rw[Int.toNat_natCast];exact zko (o-1) o (by omega) (hid (by omega)) w
 ·have ht:txt op.toNat=⟨#[]⟩:=iI (by omega)
  rw[ht];clear ht;by_cases g:op<1
  ·have hd:decide (op<1)=true:=by simpa using g
   clear h;go_enter Tryz.func55,Tryz.ntmps55;go_wp2;go_ret;exact⟨rfl,rfl⟩
  ·have h2:17<op:=by omega
   have hd:decide (op<1)=false:=by simpa using g
   have hd2:decide (17<op)=true:=by simpa using h2
   clear h;go_enter Tryz.func55,Tryz.ntmps55;go_wp2;go_ret;exact⟨rfl,rfl⟩
theorem gU(o:Nat)(t:ByteArray)(h:txt o=t)(w:World):
  Calls Tryz.prog 55 #[.int .i64 o] w λe w'=>e=.returned (.string t)∧w'=w:=by
 have:=zkp o w;rw[Int.toNat_natCast,h]at this;exact this
def XL(s:ByteArray)(k o b:Nat):Prop:=
 (b=0∧∀i∈ops,i<o→¬yX s k (txt i))∨(b∈ops∧yX s k (txt b)∧∀i∈ops,i<o→yX s k (txt i)→(txt i).size≤(txt b).size)
theorem XL.keep{s:ByteArray}{k o b:Nat}(h:XL s k o b)(hn:yX s k (txt o)→(txt o).size≤(txt b).size)(ho:o∈ops):XL s k (o+1) b:=by
 rcases h with⟨h1,h2⟩|⟨h1,h2,h3⟩
 ·refine .inl ⟨h1,λi hi hlt hf=>?_⟩
  by_cases g:i=o
  ·subst g
   have:=hn hf;rw[h1]at this;have h0:(txt 0).size=0:=rfl;have:=G9 ho;omega
  ·exact h2 i hi (by omega) hf
 ·refine .inr ⟨h1,h2,λi hi hlt hf=>?_⟩
  by_cases g:i=o
  ·rw[g]at hf ⊢;exact hn hf
  ·exact h3 i hi (by omega) hf
theorem XL.take{s:ByteArray}{k o b:Nat}(h:XL s k o b)(hf:yX s k (txt o))(hlt:(txt b).size<(txt o).size)(ho:o∈ops):XL s k (o+1) o:=by
 refine .inr ⟨ho,hf,λi hi hi2 hfi=>?_⟩;by_cases g:i=o
 ·rw[g];exact Nat.le_refl _
 ·rcases h with⟨h1,h2⟩|⟨h1,h2,h3⟩
  ·exact absurd hfi (h2 i hi (by omega))
  ·exact Nat.le_trans (h3 i hi (by omega) hfi) (Nat.le_of_lt hlt)
theorem XL.done{s:ByteArray}{k b:Nat}(h:XL s k 18 b):yC s k=b:=by
 refine Pe ?_;rcases h with⟨h1,h2⟩|⟨h1,h2,h3⟩
 ·exact .inl ⟨h1,λi hi=>h2 i hi (by have:=(V9.1 hi).2;omega)⟩
 ·exact .inr ⟨h1,h2,λi hi=>h3 i hi (by have:=(V9.1 hi).2;omega)⟩
theorem XL.le{s:ByteArray}{k o b:Nat}(h:XL s k o b):b≤17:=by
 rcases h with⟨h1,_⟩|⟨h1,_⟩
 ·omega
 ·exact(V9.1 h1).2
def zkq(s:ByteArray)(k:Nat)(w:World)(v5 v6:Value)(wr:World):Prop:=
 ∃b o:Nat,v5=.int .i64 b∧v6=.int .i64 o∧1≤o∧o≤18∧XL s k o b∧wr=w
theorem zkr(s:ByteArray)(k:Nat)(w:World)(hs:s.size≤1000000)(hk:k≤s.size):
  Calls Tryz.prog 54 #[.string s,.int .i64 k] w λe w'=>e=.returned (.int .i64 (yC s k:Nat))∧w'=w:=by
 obtain⟨r,hr⟩:∃r,r=s.size-k:=⟨_,rfl⟩;have e1:IntKind.i64.wrap ((s.size:Int)-k)=(r:Int):=by rw[IntWalk.i64_in _ (by omega)];omega
 have HR:=hid hr;clear hr;go_enter Tryz.func54,Tryz.ntmps54;go_wp2
 go_loopw [5,6] (λv5 v6 wr=>zkq s k w v5 v6 wr) (λ_ v6 _=>18-(intOf v6).toNat)
 case atStart=>exact⟨0,1,rfl,rfl,by omega,by omega,.inl ⟨rfl,λi hi h=>absurd (V9.1 hi).1 (by omega)⟩,rfl⟩
 case round=>
  obtain⟨b,o,rfl,rfl,ho1,ho2,hb,rfl⟩:=hrel;by_cases hlt:o=18
  ·subst hlt
   have hB:=hb.done;clear hb;go_wp2;go_ret;exact⟨uf (by rw[hB]),rfl⟩
  ·have znp:(o:Int)≤17:=by omega
   have zks:o≤17:=by omega
   have hom:o∈ops:=V9.2 ⟨ho1,zks⟩;have znq:=hb.le;obtain⟨t,ht⟩:∃t,txt o=t:=⟨_,rfl⟩;obtain⟨t2,ht2⟩:∃t2,txt b=t2:=⟨_,rfl⟩;have hz:=wo o;have hz2:=wo b;rw[ht]at hz;rw[ht2]at hz2;have HB:=hid hb;have HT:=hid ht;have HT2:=hid ht2;have NZ:=hid hom;obtain⟨q,hq⟩:∃q,q=k+t.size:=⟨_,rfl⟩;have e2:IntKind.i64.wrap ((k:Int)+t.size)=(q:Int):=by rw[IntWalk.i64_in _ (by omega)];omega
   have HQ:=hid hq;clear hb ht ht2 hom hlt hq;by_cases c1:t.size≤r
   ·have d1:decide ((t.size:Int)≤r)=true:=decide_eq_true_iff.2 (by omega)
    have d1':decide (t.size≤r)=true:=decide_eq_true_iff.2 c1;have i1:(q:Int)≤s.size:=by have:=HR.out;have:=HQ.out;omega
    have i2:(k:Int)≤q:=by have:=HQ.out;omega
    have hfits:yX s k t↔s.extract k q=t:=by
     rw[HQ.out];exact⟨λh=>h.2,λh=>⟨by have:=HR.out;omega,h⟩⟩
    have HF:=hid hfits;clear hfits;by_cases e:s.extract k q=t
    ·have t1:((s.extract k q).toList==t.toList)=true:=by rw[jW];exact decide_eq_true_iff.2 e
     have hf:yX s k (txt o):=by rw[HT.out];exact HF.out.2 e
     have Xr:=hid hf;clear e hf;by_cases c2:t2.size<t.size
     ·have d2:decide ((t2.size:Int)<t.size)=true:=decide_eq_true_iff.2 (by omega)
      have d2':decide (t2.size<t.size)=true:=decide_eq_true_iff.2 c2;have hnew:=HB.out.take Xr.out (by rw[HT.out,HT2.out];exact c2) NZ.out;have HN:=hid hnew;clear hnew
      go_wp2_with fail
      refine(gU o t HT.out _).mono ?_;rintro e w' ⟨rfl,rfl⟩
      go_wp2_with fail
      refine(gU b t2 HT2.out _).mono ?_;rintro e w' ⟨rfl,rfl⟩;go_wp2
      go_roundw
      case rel=>exact⟨o,o+1,rfl,by go_num,by omega,by omega,HN.out,rfl⟩
      case measure=>simp[intOf];omega
     ·have d2:decide ((t2.size:Int)<t.size)=false:=decide_eq_false_iff_not.2 (by omega)
      have d2':decide (t2.size<t.size)=false:=decide_eq_false_iff_not.2 c2;have hnew:=HB.out.keep (λ_=>by rw[HT.out,HT2.out];omega) NZ.out;have HN:=hid hnew;clear hnew
      go_wp2_with fail
      refine(gU o t HT.out _).mono ?_;rintro e w' ⟨rfl,rfl⟩
      go_wp2_with fail
      refine(gU b t2 HT2.out _).mono ?_;rintro e w' ⟨rfl,rfl⟩;go_wp2
      go_roundw
      case rel=>exact⟨b,o+1,rfl,by go_num,by omega,by omega,HN.out,rfl⟩
      case measure=>simp[intOf];omega
    ·have t1:((s.extract k q).toList==t.toList)=false:=by rw[jW];exact decide_eq_false_iff_not.2 e
     have hnew:=HB.out.keep (λh=>absurd (HF.out.1 (by rw[HT.out]at h;exact h)) e) NZ.out;have HN:=hid hnew;clear hnew e
     go_wp2_with fail
     refine(gU o t HT.out _).mono ?_;rintro e w' ⟨rfl,rfl⟩;go_wp2
     go_roundw
     case rel=>exact⟨b,o+1,rfl,by go_num,by omega,by omega,HN.out,rfl⟩
     case measure=>simp[intOf];omega
   ·have d1:decide ((t.size:Int)≤r)=false:=decide_eq_false_iff_not.2 (by omega)
    have d1':decide (t.size≤r)=false:=decide_eq_false_iff_not.2 c1;have hnew:=HB.out.keep (λh=>by
     have:=h.1;rw[HT.out]at this;have:=HR.out;omega) NZ.out
    have HN:=hid hnew;clear hnew
    go_wp2_with fail
    refine(gU o t HT.out _).mono ?_;rintro e w' ⟨rfl,rfl⟩;go_wp2
    go_roundw
    case rel=>exact⟨b,o+1,rfl,by go_num,by omega,by omega,HN.out,rfl⟩
    case measure=>simp[intOf];omega
end Go.Proofs.YtdjcidackkogjaaGreatDoor

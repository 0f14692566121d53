/- What Digits and Blanks of class, At and Of of oper -/
import Derived.Test.YtkolpaonccmgiaaGreatDoorQt
namespace Go.Proofs.YtkolpaonccmgiaaGreatDoor
set_option linter.unusedVariables false
open Go.Proofs.Tryz
open Lib(hid)
set_option maxHeartbeats 8000000
set_option maxRecDepth 100000
open Go.RowKit
theorem zmd(c i d b:Nat)(w:World)(hc:w.cell? ⟨b,0,none⟩=some (.int .i64 d)):
  Calls prog 236 #[.int .i64 c,.int .i64 i,.pointer (some ⟨b,0,none⟩)] w λe w'=>e=.returned (.bool (decide (c=d)))/\w'=w:=by
 go_enter func236,ntmps236;go_wp2;go_ret;exact⟨uV (by rw[Bool.eq_iff_iff,decide_eq_true_iff,beq_iff_eq];omega),rfl⟩
theorem zme(c i d b:Nat)(w:World)(hc:w.cell? ⟨b,0,none⟩=some (.int .i64 d))(x:Bool)(h:decide (c=d)=x):
  Calls prog 236 #[.int .i64 c,.int .i64 i,.pointer (some ⟨b,0,none⟩)] w λe w'=>e=.returned (.bool x)/\w'=w:=by
 rw[←h];exact zmd c i d b w hc
theorem zmf(s:ByteArray)(a:Nat)(w:World)(hs:s.size<=1000000)(h:a<s.size)(d b:Nat)(hc:w.cell? ⟨b,0,none⟩=some (.int .i64 d)):
  Calls prog 208 #[.string s,.int .i64 a,.func (.func 236) #[] #[.pointer (some ⟨b,0,none⟩)]] w λe w'=>e=.returned (.int .i64 (yP s a d:Nat))/\w'=w:=by
 have hi:(a:Int)<s.size:=by omega
 have hi2:(a:Int)<=s.size:=by omega
 have hd:decide ((a:Int)<0)=false:=by simp
 have hd2:decide (s.size<=a)=false:=by simp;omega
 go_enter func208,ntmps208;go_wp2
 go_step3
 go_wp2
 go_step3
 go_wp2
 go_loopw [8] (λv wr=>og (λi=>decide (cl s (a+i)=d)) (s.size-a) w v wr) (λv _=>s.size-a-(intOf v).toNat)
 case atStart=>exact⟨0,Nat.zero_le _,rfl,λi h=>by omega,rfl⟩
 case round=>
  obtain⟨k,hk,rfl,hq,rfl⟩:=hrel;have HQ:=hid hq;clear hq;by_cases hlt:a+k<s.size
  ·have hx:(k:Int)<(s.size:Int)-a:=by omega
   have hx1:k<s.size-a:=by omega
   have hx2:(k:Int)<(s.extract a s.size).size:=by simp;omega
   have hx3:k<(s.extract a s.size).size:=by simp;omega
   have e1:(bt (s.extract a s.size) k)=bt s (a+k):=VC s a s.size k (Nat.le_refl _) (by omega);rw[zT hx3]at e1;have e2:cls (s.extract a s.size)[k].toNat=cl s (a+k):=by rw[e1];rfl
   have E2:=hid e2;clear e1 e2;obtain⟨y,hy⟩:∃y,(decide (cl s (a+k)=d))=y:=⟨_,rfl⟩;have HY:=hid hy;clear hy;cases y
   all_goals
    go_wp2_with fail
    refine(Xp _ _).mono ?_;rintro e w' ⟨rfl,rfl⟩;rw[E2.out]
    go_wp2_with fail
    refine(zme _ _ _ _ _ hc _ HY.out).mono ?_;rintro e w' ⟨rfl,rfl⟩;go_wp2
   ·rw[Exit.noGoto_ret]
    go_ret;refine⟨qc ?_,rfl⟩;rw[show yP s a d=k from Xq _ hk HQ.out (λ_=>HY.out)]
   ·go_roundw
    case rel=>
     refine⟨k+1,by omega,by go_num,λi hi=>?_,rfl⟩;by_cases g:i=k
     ·rw[g];exact HY.out
     ·exact HQ.out i (by omega)
    case measure=>simp[intOf];omega
  ·have hz:k=s.size-a:=by omega
   have HZ:=hid hz;clear hz;go_wp2;go_ret;refine⟨qc ?_,rfl⟩;rw[show yP s a d=k from Xq _ hk HQ.out (λg=>absurd HZ.out (Nat.ne_of_lt g))]
theorem zcH(s:ByteArray)(a:Int)(d:Nat)(w:World)(hs:s.size<=1000000):
  Calls prog 215 #[.string s,.int .i64 a,.int .i64 d] w λe w'=>e=.returned (.int .i64 (ql s a (λk=>yP s k d)))/\w'=w.alloc (.cells #[.int .i64 d] 3):=by
 have hc:=(zf.new w #[.int .i64 (d:Int)] 3).cell 0;unfold ql;by_cases h:0<=a/\a<s.size
 ·rw[if_pos h]
  obtain⟨k,rfl⟩:=Int.eq_ofNat_of_zero_le h.1;have hk:k<s.size:=by omega
  clear h;go_enter func215,ntmps215
  go_wp2_with fail
  refine(zmf s k _ hs hk d _ hc).mono ?_;rintro e w' ⟨rfl,rfl⟩;go_wp2;go_ret;exact⟨rfl,rfl⟩
 ·rw[if_neg h]
  have h':a<0\/(s.size:Int)<=a:=by omega
  have H:=hid h';clear h h';go_enter func215,ntmps215
  go_wp2_with fail
  refine(oh s a _ _ hs H.out).mono ?_;rintro e w' ⟨rfl,rfl⟩;go_wp2;go_ret;exact⟨rfl,rfl⟩
theorem zmg(s:ByteArray)(a:Int)(w:World)(hs:s.size<=1000000):
  Calls prog 190 #[.string s,.int .i64 a] w λe w'=>e=.returned (.int .i64 (ql s a (λk=>yP s k 6)))/\Below w.heap.size w w':=by
 go_enter func190,ntmps190
 go_wp2_with (go_at_call 215;refine(zcH s a 6 _ hs).mono ?_;rintro e w' ⟨rfl,rfl⟩)
 go_ret;exact⟨rfl,(Below.refl _ _).alloc (Nat.le_refl _) _⟩
theorem zmh(s:ByteArray)(a:Int)(w:World)(hs:s.size<=1000000):
  Calls prog 187 #[.string s,.int .i64 a] w λe w'=>e=.returned (.int .i64 (ql s a (λk=>yP s k 1)))/\Below w.heap.size w w':=by
 go_enter func187,ntmps187
 go_wp2_with (go_at_call 215;refine(zcH s a 1 _ hs).mono ?_;rintro e w' ⟨rfl,rfl⟩)
 go_ret;exact⟨rfl,(Below.refl _ _).alloc (Nat.le_refl _) _⟩
def yO(w w':World):Prop:=∃q,w'=w.drewN q
theorem yO.below{w w':World}(h:yO w w'){n:Nat}:Below n w w':=by obtain⟨q,rfl⟩:=h;exact below_drewN (Below.refl _ _) _
theorem yO.refl(w:World):yO w w:=⟨0,rfl⟩
theorem yO.trans{a b c:World}(h:yO a b)(k:yO b c):yO a c:=by obtain⟨q,rfl⟩:=h;obtain⟨r,rfl⟩:=k;exact⟨q+r,by simp[World.drewN,Nat.add_assoc]⟩
theorem yO.drew{a b:World}(h:yO a b):yO a b.drew:=by obtain⟨q,rfl⟩:=h;exact⟨q+1,rfl⟩
theorem yO.drewN{a b:World}(h:yO a b)(n:Nat):yO a (b.drewN n):=h.trans ⟨n,rfl⟩
theorem yO.cell{a b:World}(h:yO a b)(p:Addr):b.cell? p=a.cell? p:=by obtain⟨q,rfl⟩:=h;rfl
theorem yO.heap{a b:World}(h:yO a b):b.heap=a.heap:=by obtain⟨q,rfl⟩:=h;rfl
def Tx(w:World):Prop:=0<w.heap.size/\∀i,i<18->w.cell? ⟨0,i,none⟩=some (.string (txt i))
theorem Tx.below{w w':World}{n:Nat}(h:Tx w)(hb:Below n w w')(hn:0<n):Tx w':=
 ⟨Nat.lt_of_lt_of_le h.1 hb.size,λi hi=>(hb.cell (p:=⟨0,i,none⟩) hn).trans (h.2 i hi)⟩
theorem Tx.b{w w':World}(h:Tx w)(hb:Below w.heap.size w w'):Tx w':=h.below hb h.1
theorem Tx.d{w w':World}(h:Tx w)(hb:yO w w'):Tx w':=h.b hb.below
def iy(s:ByteArray)(k z:Nat)(w:World)(v4 v:Value)(wr:World):Prop:=
 ∃n:Nat,v4=.int .i64 0/\n<=3/\n<=z/\v=.int .i64 n/\(∀i∈ops,n<(txt i).size->¬jL s k (txt i))/\yO w wr
def iC(x:ByteArray)(w:World)(v4 v:Value)(wr:World):Prop:=
 ∃j:Nat,v4=.int .i64 0/\j<=18/\v=.int .i64 j/\(∀i,i<j->x≠txt i)/\yO w wr
theorem zmi(s:ByteArray)(k:Nat)(w:World)(hs:s.size<=1000000)(hT:Tx w)(hk:k<s.size):
  Calls prog 128 #[.string s,.int .i64 k] w λe w'=>e=.returned (.tuple #[.int .i64 (yS s k:Nat),.int .i64 ((txt (yS s k)).size:Nat)])/\yO w w':=by
 have hd:decide ((k:Int)<0)=false:=decide_eq_false_iff_not.2 (by omega);have hd2:decide ((s.size:Int)<=k)=false:=decide_eq_false_iff_not.2 (by omega);have hd3:decide (s.size<=k)=false:=decide_eq_false_iff_not.2 (by omega);have hi:(k:Int)<=s.size:=by omega
 obtain⟨x,hx⟩:∃x,s.extract k s.size=x:=⟨_,rfl⟩;obtain⟨z,hz⟩:∃z,x.size=z:=⟨_,rfl⟩;have hz2:z=s.size-k:=by rw[←hz,←hx];simp
 obtain⟨m,hm⟩:∃m:Nat,(if(z:Int)<3 then(z:Int)else 3)=(m:Int):=⟨min 3 z,by split<;>omega⟩;have qH:m<=3/\m<=z/\(m=3\/m=z):=by split at hm<;>omega
 obtain⟨qH,hmz,hmo⟩:=qH;have HM:=hid hm;have HZ2:=hid hz2;have HX:=hid hx;clear hz2;go_enter func128,ntmps128;go_wp2
 go_step3
 go_wp2
 go_step3
 go_wp2
 go_loopw [4,5] (λv4 v5 wr=>iy s k z w v4 v5 wr) (λ_ v _=>(intOf v).toNat)
 case atStart=>
  refine⟨m,rfl,qH,hmz,rfl,λi hi hlt hf=>?_,yO.refl _⟩;have h1:=Lc i;have h2:=hf.1;have h3:=HZ2.out;omega
 case round=>
  obtain⟨n,rfl,hn3,hnz,rfl,hno,hdr⟩:=hrel;have Zu:=hid hno;clear hno;rcases Nat.eq_zero_or_pos n with rfl|hpos
  ·go_wp2
   rw[Exit.noGoto_ret];go_ret2;have h0:yS s k=0:=pX Zu.out;refine⟨?_,hdr⟩;rw[h0];rfl
  ·have hp:decide ((0:Int)<n)=true:=decide_eq_true_iff.2 (by omega)
   have hp2:decide (0<n)=true:=decide_eq_true_iff.2 (by omega);have hkn:k+n<=s.size:=by have:=HZ2.out;omega
   go_wp2
   go_loopw [4,26] (λv4 v wq=>iC (x.extract 0 n) w v4 v wq) (λ_ v _=>18-(intOf v).toNat)
   case atStart=>exact⟨0,rfl,by omega,rfl,λi hi=>absurd hi (by omega),hdr⟩
   case round=>
    obtain⟨j,rfl,hj,rfl,hne,GR⟩:=hrel;have jF:=hid hne;clear hne;by_cases hlt:j<18
    ·have hc:=(hT.d GR).2 j hlt
     by_cases e:txt j=x.extract 0 n
     ·have t1:((txt j).toList==(x.extract 0 n).toList)=true:=by rw[Zv];exact decide_eq_true_iff.2 e
      have HE:=hid e;clear e;go_wp2
      go_quiet (fail)
      go_wp2;rw[Exit.noGoto_ret];go_ret2;have hj0:1<=j:=by
       refine Nat.pos_of_ne_zero λg=>?_;have h1:=((dJ (d:=txt j) hkn).1 (by rw[HX.out];exact HE.out.symm)).1;rw[g]at h1;have:(txt 0).size=0:=rfl;omega
      have hm:j∈ops:=Xa.2 ⟨hj0,by omega⟩;have hf:=(dJ (d:=txt j) hkn).1 (by rw[HX.out];exact HE.out.symm);have h0:yS s k=j:=UX hm hf.1 hf.2 Zu.out;refine⟨?_,GR.drewN _⟩;rw[h0,hf.1];rfl
     ·have t1:((txt j).toList==(x.extract 0 n).toList)=false:=by rw[Zv];exact decide_eq_false_iff_not.2 e
      have HE:=hid e;clear e;go_wp2
      go_quiet (fail)
      go_wp2
      go_roundw
      case rel=>
       refine⟨j+1,rfl,by omega,by go_num,λi hi=>?_,GR.drewN _⟩;by_cases g:i=j
       ·rw[g];exact λh=>HE.out h.symm
       ·exact jF.out i (by omega)
      case measure=>simp[intOf];omega
    ·obtain rfl:j=18:=by omega
     go_wp2
     go_roundw
     case rel=>
      refine⟨n-1,rfl,by omega,by omega,by first|rfl|(congr 1;omega)|(simp;omega),λi hi hlt hf=>?_,GR⟩;by_cases g:n<(txt i).size
      ·exact Zu.out i hi g hf
      ·refine jF.out i (by have:=(Xa.1 hi).2;omega) ?_
       rw[←HX.out];exact(dJ hkn).2 ⟨by omega,hf⟩
     case measure=>simp[intOf];omega
def Z5(s:ByteArray)(a:Int):Nat:=if 0<=a/\a<s.size then yS s a.toNat else 0
theorem DR{s:ByteArray}{k:Nat}(h:k<s.size):Z5 s k=yS s k:=by
 unfold Z5;rw[if_pos ⟨by omega,by omega⟩,Int.toNat_natCast]
theorem zcI(s:ByteArray)(a:Int)(w:World)(hs:s.size<=1000000)(hT:Tx w):
  Calls prog 128 #[.string s,.int .i64 a] w λe w'=>e=.returned (.tuple #[.int .i64 (Z5 s a:Nat),.int .i64 ((txt (Z5 s a)).size:Nat)])/\yO w w':=by
 by_cases h:0<=a/\a<s.size
 ·obtain⟨k,rfl⟩:=Int.eq_ofNat_of_zero_le h.1
  rw[DR (by omega)];exact zmi s k w hs hT (by omega)
 ·have h0:Z5 s a=0:=by unfold Z5;rw[if_neg h]
  rw[h0];clear h0;by_cases g:a<0
  ·have hd:decide (a<0)=true:=by simpa using g
   clear h;go_enter func128,ntmps128;go_wp2
   go_step3
   go_wp2;rw[Exit.noGoto_ret];go_ret2;exact⟨rfl,yO.refl _⟩
  ·have h2:(s.size:Int)<=a:=by omega
   have hd:decide (a<0)=false:=by simpa using g
   have hd2:decide ((s.size:Int)<=a)=true:=by simpa using h2
   clear h;go_enter func128,ntmps128;go_wp2
   go_step3
   go_wp2;rw[Exit.noGoto_ret];go_ret2;exact⟨rfl,yO.refl _⟩
theorem iD{s:ByteArray}{a:Nat}(h:s.size<=a):yS s a=0:=
 pX λk hk h0 hf=>by have:=hf.1;omega
theorem iE(s:ByteArray):Z5 s 0=yS s 0:=by
 by_cases h:0<s.size
 ·exact DR h
 ·rw[iD (by omega)]
  unfold Z5;rw[if_neg (by omega)]
theorem iF(s:ByteArray)(w:World)(hs:s.size<=1000000)(hT:Tx w):
  Calls prog 105 #[.string s] w λe w'=>e=.returned (.int .i64 (vI s:Nat))/\yO w w':=by
 obtain⟨o,ho⟩:∃o,Z5 s 0=o:=⟨_,rfl⟩;obtain⟨z,hz⟩:∃z,(txt o).size=z:=⟨_,rfl⟩;have hat:=zcI s 0 w hs hT;rw[ho,hz]at hat
 have hN:vI s=if z=s.size then o else 0:=by unfold vI;rw[←iE,ho,hz]
 rw[hN];have hz3:z<=3:=by rw[←hz];exact Lc o
 have HAT:=hid hat
 clear hat hN hz ho;by_cases c:z=s.size
 ·rw[if_pos c]
  have d1:((z:Int)==(s.size:Int))=true:=beq_iff_eq.2 (by omega);have d1':(z==s.size)=true:=beq_iff_eq.2 c;clear c;go_enter func105,ntmps105
  go_wp2_with fail
  refine HAT.out.mono ?_;rintro e w' ⟨rfl,hd⟩;go_wp2;go_ret;exact⟨rfl,hd⟩
 ·rw[if_neg c]
  have d1:((z:Int)==(s.size:Int))=false:=beq_eq_false_iff_ne.2 (by omega);have d1':(z==s.size)=false:=beq_eq_false_iff_ne.2 c;clear c;go_enter func105,ntmps105
  go_wp2_with fail
  refine HAT.out.mono ?_;rintro e w' ⟨rfl,hd⟩;go_wp2;go_ret;exact⟨rfl,hd⟩
end Go.Proofs.YtkolpaonccmgiaaGreatDoor

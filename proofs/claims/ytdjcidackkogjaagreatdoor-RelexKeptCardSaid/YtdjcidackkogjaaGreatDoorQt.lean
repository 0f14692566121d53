/- What Name and Param of layer 4 (class) and the doc -/
import Derived.Test.YtdjcidackkogjaaGreatDoorMdM
namespace Go.Proofs.YtdjcidackkogjaaGreatDoor
set_option linter.unusedVariables false
open Lib(hid)
set_option maxHeartbeats 8000000
set_option maxRecDepth 100000
open Go.RowKit
theorem zf5(c:Nat)(hc:c<256)(w:World):
  Calls Tryz.prog 183 #[.int .u8 c] w λe w'=>e=.returned (.bool (XT c))∧w'=w:=by
 have H1:=hid (Em c);go_enter Tryz.func183,Tryz.ntmps183
 go_wp2_with (go_at_call 118;refine(QF _ _ hc _).mono ?_;rintro e w' ⟨⟨x,rfl,hx⟩,rfl⟩;have HX:=hid hx;clear hx)
 go_ret;exact⟨Zk (by rw[HX.out,H1.out]),rfl⟩
theorem zf6(c i:Nat)(w:World):
  Calls Tryz.prog 187 #[.int .i64 c,.int .i64 i] w λe w'=>e=.returned (.bool (qG c i))∧w'=w:=by
 by_cases h5:c=5
 ·subst h5
  go_enter Tryz.func187,Tryz.ntmps187;go_wp2;go_ret;exact⟨Zk (by simp[qG]),rfl⟩
 ·by_cases h6:c=6
  ·subst h6
   by_cases h0:i=0
   ·subst h0
    go_enter Tryz.func187,Tryz.ntmps187;go_wp2;go_ret;exact⟨Zk (by simp[qG]),rfl⟩
   ·have h1:decide (0<i)=true:=by simp;omega
    have h2:decide ((0:Int)<i)=true:=by simp;omega
    go_enter Tryz.func187,Tryz.ntmps187;go_wp2;go_ret;exact⟨Zk (by unfold qG;symm;rw[decide_eq_true_iff];omega),rfl⟩
  ·have h1:((c:Int)==5)=false:=by simp;omega
   have h2:((c:Int)==6)=false:=by simp;omega
   go_enter Tryz.func187,Tryz.ntmps187;go_wp2;go_ret;refine⟨Zk ?_,rfl⟩;unfold qG;symm;rw[decide_eq_false_iff_not];omega
theorem zf7(c i:Nat)(b:Bool)(h:qG c i=b)(w:World):
  Calls Tryz.prog 187 #[.int .i64 c,.int .i64 i] w λe w'=>e=.returned (.bool b)∧w'=w:=by
 rw[←h];exact zf6 c i w
def iL(q:Nat→Bool)(z:Nat)(w:World)(v:Value)(wr:World):Prop:=∃k:Nat,k≤z∧v=.int .i64 k∧(∀i,i<k→q i=true)∧wr=w
theorem iM(s:ByteArray)(a:Int)(fv:Value)(w:World)(hs:s.size≤1000000)(h:a<0∨(s.size:Int)≤a):
  Calls Tryz.prog 159 #[.string s,.int .i64 a,fv] w λe w'=>e=.returned (.int .i64 0)∧w'=w:=by
 by_cases g:a<0
 ·have hd:decide (a<0)=true:=by simpa using g
  clear h;go_enter Tryz.func159,Tryz.ntmps159;go_wp2
  go_step3
  go_wp2;rw[Exit.noGoto_ret];go_ret;exact⟨rfl,rfl⟩
 ·have h2:(s.size:Int)≤a:=by omega
  have hd:decide (a<0)=false:=by simpa using g
  have hd2:decide ((s.size:Int)≤a)=true:=by simpa using h2
  clear h;go_enter Tryz.func159,Tryz.ntmps159;go_wp2
  go_step3
  go_wp2;rw[Exit.noGoto_ret];go_ret;exact⟨rfl,rfl⟩
theorem zf9(s:ByteArray)(a:Nat)(w:World)(hs:s.size≤1000000)(h:a<s.size):
  Calls Tryz.prog 159 #[.string s,.int .i64 a,.func (.func 187) #[] #[]] w λe w'=>e=.returned (.int .i64 (Zl s a:Nat))∧w'=w:=by
 have hi:(a:Int)<s.size:=by omega
 have hi2:(a:Int)≤s.size:=by omega
 have hd:decide ((a:Int)<0)=false:=by simp
 have hd2:decide (s.size≤a)=false:=by simp;omega
 go_enter Tryz.func159,Tryz.ntmps159;go_wp2
 go_step3
 go_wp2
 go_step3
 go_wp2
 go_loopw [8] (λv wr=>iL (λi=>qG (cl s (a+i)) i) (s.size-a) w v wr) (λv _=>s.size-a-(intOf v).toNat)
 case atStart=>exact⟨0,Nat.zero_le _,rfl,λi h=>by omega,rfl⟩
 case round=>
  obtain⟨k,hk,rfl,hq,rfl⟩:=hrel;have HQ:=hid hq;clear hq;by_cases hlt:a+k<s.size
  ·have hx:(k:Int)<(s.size:Int)-a:=by omega
   have hx1:k<s.size-a:=by omega
   have hx2:(k:Int)<(s.extract a s.size).size:=by simp;omega
   have hx3:k<(s.extract a s.size).size:=by simp;omega
   have e1:(bt (s.extract a s.size) k)=bt s (a+k):=ZU s a s.size k (Nat.le_refl _) (by omega);rw[yx hx3]at e1;have e2:cls (s.extract a s.size)[k].toNat=cl s (a+k):=by rw[e1];rfl
   have E2:=hid e2;clear e1 e2;obtain⟨y,hy⟩:∃y,(qG (cl s (a+k)) k)=y:=⟨_,rfl⟩;have HY:=hid hy;clear hy;cases y
   all_goals
    go_wp2_with fail
    refine(Yy _ _).mono ?_;rintro e w' ⟨rfl,rfl⟩;rw[E2.out]
    go_wp2_with fail
    refine(zf7 _ _ _ HY.out _).mono ?_;rintro e w' ⟨rfl,rfl⟩;go_wp2
   ·rw[Exit.noGoto_ret]
    go_ret;refine⟨uf ?_,rfl⟩;rw[show Zl s a=k from ZT _ hk HQ.out (λ_=>HY.out)]
   ·go_roundw
    case rel=>
     refine⟨k+1,by omega,by go_num,λi hi=>?_,rfl⟩;by_cases g:i=k
     ·rw[g];exact HY.out
     ·exact HQ.out i (by omega)
    case measure=>simp[intOf];omega
  ·have hz:k=s.size-a:=by omega
   have HZ:=hid hz;clear hz;go_wp2;go_ret;refine⟨uf ?_,rfl⟩;rw[show Zl s a=k from ZT _ hk HQ.out (λg=>absurd HZ.out (Nat.ne_of_lt g))]
def qp(s:ByteArray)(a:Int)(f:Nat→Nat):Int:=if 0≤a∧a<s.size then(f a.toNat:Nat)else 0
theorem L8(s:ByteArray)(a:Int)(w:World)(hs:s.size≤1000000):
  Calls Tryz.prog 182 #[.string s,.int .i64 a] w λe w'=>e=.returned (.int .i64 (qp s a (Zl s)))∧w'=w:=by
 unfold qp;by_cases h:0≤a∧a<s.size
 ·rw[if_pos h]
  obtain⟨k,rfl⟩:=Int.eq_ofNat_of_zero_le h.1;have hk:k<s.size:=by omega
  clear h;go_enter Tryz.func182,Tryz.ntmps182
  go_wp2_with fail
  refine(zf9 s k _ hs hk).mono ?_;rintro e w' ⟨rfl,rfl⟩;go_wp2;go_ret;exact⟨rfl,rfl⟩
 ·rw[if_neg h]
  have h':a<0∨(s.size:Int)≤a:=by omega
  have H:=hid h';clear h h';go_enter Tryz.func182,Tryz.ntmps182
  go_wp2_with fail
  refine(iM s a _ _ hs H.out).mono ?_;rintro e w' ⟨rfl,rfl⟩;go_wp2;go_ret;exact⟨rfl,rfl⟩
theorem iO{s:ByteArray}{k:Nat}(h:k<s.size):cls s[k].toNat=cl s k:=by unfold cl;rw[yx h]
theorem zga(s:ByteArray)(k:Nat)(h:k<s.size):s[k].toNat<256:=s[k].toNat_lt
theorem iP(s:ByteArray)(k:Nat)(h:k<s.size)(c:Nat)(e:cl s k=c)(w:World):
  Calls Tryz.prog 164 #[.int .u8 s[k].toNat] w λe w'=>e=.returned (.int .i64 c)∧w'=w:=by
 rw[←e,←iO h];exact Yy _ _
theorem Ja(s:ByteArray)(k:Nat)(h:k<s.size)(c:Nat)(e:cl s k=c)(w:World):
  Calls Tryz.prog 56 #[.int .u8 s[k].toNat] w λe w'=>e=.returned (.int .i64 c)∧w'=w:=by
 rw[←e,←iO h];exact Lu _ _
def zgb(s:ByteArray)(w:World)(v:Value)(wr:World):Prop:=∃k:Nat,1≤k∧k≤s.size∧v=.int .i64 k∧(∀i,i<k→qG (cl s i) i=true)∧wr=w
theorem zgc(s:ByteArray)(w:World)(hs:s.size≤1000000):
  Calls Tryz.prog 102 #[.string s] w λe w'=>e=.returned (.bool (Y1 s))∧w'=w:=by
 by_cases h0:s.size=0
 ·have hz:((s.size:Int)==0)=true:=beq_iff_eq.2 (by omega)
  have hz2:(s.size==0)=true:=beq_iff_eq.2 h0;have H0:=hid h0;clear h0;go_enter Tryz.func102,Tryz.ntmps102;go_wp2;go_ret;exact⟨Zk (by unfold Y1;symm;rw[decide_eq_false_iff_not];exact λh=>h.1 H0.out),rfl⟩
 ·have hp:0<s.size:=by omega
  have hp2:(0:Int)<s.size:=by omega
  have hz:((s.size:Int)==0)=false:=beq_eq_false_iff_ne.2 (by omega);have hz2:(s.size==0)=false:=beq_eq_false_iff_ne.2 h0;obtain⟨c,hc⟩:∃c,cl s 0=c:=⟨_,rfl⟩;have HC:=hid hc;by_cases h5:c=5
  ·subst h5
   clear hc h0;go_enter Tryz.func102,Tryz.ntmps102
   go_wp2_with fail
   refine(Ja s 0 hp 5 HC.out _).mono ?_;rintro e w' ⟨rfl,rfl⟩;go_wp2
   go_loopw [3] (λv wr=>zgb s w' v wr) (λv _=>s.size-(intOf v).toNat)
   case atStart=>exact⟨1,Nat.le_refl _,hp,rfl,λi h=>by obtain rfl:i=0:=(by omega);rw[HC.out];rfl,rfl⟩
   case round=>
    obtain⟨k,hk1,hk,rfl,hn,rfl⟩:=hrel;have HN:=hid hn;clear hn;by_cases hlt:(k:Int)<s.size
    ·have hlt':k<s.size:=by omega
     obtain⟨d,hd⟩:∃d,cl s k=d:=⟨_,rfl⟩;have HD:=hid hd;clear hd;by_cases g:d=5∨d=6
     ·rcases g with rfl|rfl
      ·go_wp2_with fail
       refine(Ja s k hlt' 5 HD.out _).mono ?_;rintro e w2 ⟨rfl,rfl⟩;go_wp2
       go_roundw
       case rel=>
        refine⟨k+1,by omega,by omega,by go_num,λi hi=>?_,rfl⟩;by_cases g:i=k
        ·rw[g,HD.out];rfl
        ·exact HN.out i (by omega)
       case measure=>simp[intOf];omega
      ·go_wp2_with fail
       refine(Ja s k hlt' 6 HD.out _).mono ?_;rintro e w2 ⟨rfl,rfl⟩
       go_wp2_with fail
       refine(Ja s k hlt' 6 HD.out _).mono ?_;rintro e w2 ⟨rfl,rfl⟩;go_wp2
       go_roundw
       case rel=>
        refine⟨k+1,by omega,by omega,by go_num,λi hi=>?_,rfl⟩;by_cases g:i=k
        ·rw[g,HD.out];unfold qG;rw[decide_eq_true_iff];omega
        ·exact HN.out i (by omega)
       case measure=>simp[intOf];omega
     ·have g5:((d:Int)==5)=false:=by simp;omega
      have g6:((d:Int)==6)=false:=by simp;omega
      have n5:((d:Int)!=5)=true:=by simp;omega
      have n6:((d:Int)!=6)=true:=by simp;omega
      go_wp2_with fail
      refine(Ja s k hlt' d HD.out _).mono ?_;rintro e w2 ⟨rfl,rfl⟩
      go_wp2_with fail
      refine(Ja s k hlt' d HD.out _).mono ?_;rintro e w2 ⟨rfl,rfl⟩;go_wp2;go_ret;refine⟨Zk ?_,rfl⟩;unfold Y1;symm;rw[decide_eq_false_iff_not];rintro⟨_,h2⟩;have:=h2 k hlt';rw[HD.out]at this;unfold qG at this;rw[decide_eq_true_iff]at this;omega
    ·obtain rfl:k=s.size:=by omega
     go_wp2;go_ret;refine⟨Zk ?_,rfl⟩;unfold Y1;symm;rw[decide_eq_true_iff];exact⟨by omega,HN.out⟩
  ·have g5:((c:Int)==5)=false:=by simp;omega
   have n5:((c:Int)!=5)=true:=by simp;omega
   clear hc h0;go_enter Tryz.func102,Tryz.ntmps102
   go_wp2_with fail
   refine(Ja s 0 hp c HC.out _).mono ?_;rintro e w' ⟨rfl,rfl⟩;go_wp2;go_ret;refine⟨Zk ?_,rfl⟩;unfold Y1;symm;rw[decide_eq_false_iff_not];rintro⟨_,h2⟩;have:=h2 0 hp;rw[HC.out]at this;unfold qG at this;rw[decide_eq_true_iff]at this;omega
theorem zgd(s:ByteArray)(w:World)(hs:s.size≤1000000)(b:Bool)(h:Y1 s=b):
  Calls Tryz.prog 102 #[.string s] w λe w'=>e=.returned (.bool b)∧w'=w:=by
 rw[←h];exact zgc s w hs
def zge(f:Nat→Nat)(z:Nat)(w:World)(v5 v6:Value)(wr:World):Prop:=∃k m:Nat,1≤k∧k≤z+1∧v6=.int .i64 k∧v5=.int .i64 m∧m=f (k-1)∧wr=w
theorem iQ(s:ByteArray)(a:Nat)(w:World)(hs:s.size≤1000000)(ha:a≤s.size):
  Calls Tryz.prog 95 #[.string s,.int .i64 a] w λe w'=>e=.returned (.int .i64 (Zl s a:Nat))∧w'=w:=by
 have ha2:(a:Int)≤s.size:=by omega
 go_enter Tryz.func95,Tryz.ntmps95;go_wp2
 go_loopw [5,6] (λv5 v6 wr=>zge (WW s a) (s.size-a) w v5 v6 wr) (λ_ v6 _=>s.size+1-a-(intOf v6).toNat)
 case atStart=>exact⟨1,0,by omega,by omega,rfl,rfl,rfl,rfl⟩
 case round=>
  obtain⟨k,m,hk1,hk,rfl,rfl,hm,rfl⟩:=hrel;have hm2:m≤k:=by have:=zb6 s a (k-1);omega
  have HM:=hid hm;clear hm;by_cases hlt:a+k≤s.size
  ·have h1:(k:Int)≤(s.size:Int)-a:=by omega
   have h2:(a:Int)+k≤s.size:=by omega
   have hz:(s.extract a (a+k)).size≤1000000:=by simp;omega
   obtain⟨b,hb⟩:∃b,Y1 (s.extract a (a+k))=b:=⟨_,rfl⟩;have HB:=hid hb;clear hb;cases b
   all_goals
    go_wp2_with fail
    refine(zgd _ _ hz _ HB.out).mono ?_;rintro e w2 ⟨rfl,rfl⟩;go_wp2
    go_roundw
    case measure=>simp[intOf];omega
   ·refine⟨k+1,m,by omega,by omega,by go_num,rfl,?_,rfl⟩
    obtain⟨j,rfl⟩:∃j,k=j+1:=⟨k-1,by omega⟩;rw[HM.out];exact(zb5 (by omega) HB.out).symm
   ·refine⟨k+1,k,by omega,by omega,by go_num,rfl,?_,rfl⟩
    obtain⟨j,rfl⟩:∃j,k=j+1:=⟨k-1,by omega⟩;exact(zb4 (by omega) HB.out).symm
  ·have h1:¬(k:Int)≤(s.size:Int)-a:=by omega
   have hz:k=s.size-a+1:=by omega
   have HZ:=hid hz;clear hz;go_wp2;go_ret;exact⟨uf (by rw[HM.out,HZ.out];rfl),rfl⟩
theorem zgf(s:ByteArray)(k:Nat)(h:k<s.size)(b:Bool)(e:XT (bt s k).toNat=b)(w:World):
  Calls Tryz.prog 183 #[.int .u8 s[k].toNat] w λe w'=>e=.returned (.bool b)∧w'=w:=by
 rw[←e,yx h];exact zf5 _ (zga s k h) _
theorem zgg(s:ByteArray)(k:Nat)(h:k<s.size)(b:Bool)(e:XT (bt s k).toNat=b)(w:World):
  Calls Tryz.prog 70 #[.int .u8 s[k].toNat,.string ⟨#[64,42,35,63,45,36,33]⟩] w λe w'=>e=.returned (.bool b)∧w'=w:=by
 rw[←e,yx h,←Em];exact Ej _ _ _ (by decide)
theorem zgh(s:ByteArray)(a:Int)(w:World)(hs:s.size≤1000000):
  Calls Tryz.prog 173 #[.string s,.int .i64 a] w λe w'=>e=.returned (.int .i64 (qp s a (xX s)))∧w'=w:=by
 by_cases h:0≤a∧a<s.size
 ·obtain⟨k,rfl⟩:=Int.eq_ofNat_of_zero_le h.1
  have hk:k<s.size:=by omega
  have hk2:(k:Int)<s.size:=h.2;have hv:qp s k (Zl s)=(Zl s k:Nat):=by unfold qp;rw[if_pos h];rfl
  have hp:qp s k (xX s)=(xX s k:Nat):=by unfold qp;rw[if_pos h];rfl
  rw[hp];have hd:decide ((k:Int)<0)=false:=by simp
  have hd2:decide (s.size≤k)=false:=by simp;omega
  obtain⟨m,hm⟩:∃m,Zl s k=m:=⟨_,rfl⟩;rw[hm]at hv;unfold xX;rw[hm];have HV:=hid hv;have HM:=hid hm;clear h hv hp hm;by_cases h0:0<m
  ·rw[if_pos h0]
   have h0':(0:Int)<m:=by omega
   go_enter Tryz.func173,Tryz.ntmps173
   go_wp2_with fail
   refine(L8 s k _ hs).mono ?_;rintro e w' ⟨rfl,rfl⟩;rw[HV.out];go_wp2;go_ret;exact⟨rfl,rfl⟩
  ·obtain rfl:m=0:=by omega
   rw[if_neg h0];clear h0;obtain⟨x,hx⟩:∃x,cl s k=x:=⟨_,rfl⟩;obtain⟨b,hb⟩:∃b,XT (bt s k).toNat=b:=⟨_,rfl⟩;rw[hx,hb];obtain⟨r,hr⟩:∃r,(if k<s.size∧(x=6∨b=true)then 1 else 0)=r:=⟨_,rfl⟩;rw[hr];have HX:=hid hx;have HB:=hid hb;have HR:=hid hr;clear hx hb hr;by_cases h6:x=6
   ·subst h6
    go_enter Tryz.func173,Tryz.ntmps173
    go_wp2_with fail
    refine(L8 s k _ hs).mono ?_;rintro e w' ⟨rfl,rfl⟩;rw[HV.out]
    go_wp2_with fail
    refine(iP s k hk 6 HX.out _).mono ?_;rintro e w' ⟨rfl,rfl⟩;go_wp2;go_ret;exact⟨uf (by have:=HR.out;rw[if_pos ⟨hk,by simp⟩]at this;omega),rfl⟩
   ·have g6:((x:Int)==6)=false:=beq_eq_false_iff_ne.2 (by omega)
    cases b
    all_goals
     go_enter Tryz.func173,Tryz.ntmps173
     go_wp2_with fail
     refine(L8 s k _ hs).mono ?_;rintro e w' ⟨rfl,rfl⟩;rw[HV.out]
     go_wp2_with fail
     refine(iP s k hk x HX.out _).mono ?_;rintro e w' ⟨rfl,rfl⟩
     go_wp2_with fail
     refine(zgf s k hk _ HB.out _).mono ?_;rintro e w' ⟨rfl,rfl⟩;go_wp2;go_ret
    ·exact⟨uf (by have:=HR.out;rw[if_neg (λh=>by rcases h.2 with h|h;exact h6 h;cases h)]at this;omega),rfl⟩
    ·exact⟨uf (by have:=HR.out;rw[if_pos ⟨hk,by simp⟩]at this;omega),rfl⟩
 ·have hv:qp s a (Zl s)=0:=by unfold qp;rw[if_neg h]
  have hp:qp s a (xX s)=0:=by unfold qp;rw[if_neg h]
  rw[hp];have HV:=hid hv;clear hv hp;by_cases g:a<0
  ·have hd:decide (a<0)=true:=by simpa using g
   clear h;go_enter Tryz.func173,Tryz.ntmps173
   go_wp2_with fail
   refine(L8 s a _ hs).mono ?_;rintro e w' ⟨rfl,rfl⟩;rw[HV.out];go_wp2;go_ret;exact⟨rfl,rfl⟩
  ·have h2:(s.size:Int)≤a:=by omega
   have hd:decide (a<0)=false:=by simpa using g
   have hd2:decide ((s.size:Int)≤a)=true:=by simpa using h2
   clear h;go_enter Tryz.func173,Tryz.ntmps173
   go_wp2_with fail
   refine(L8 s a _ hs).mono ?_;rintro e w' ⟨rfl,rfl⟩;rw[HV.out];go_wp2;go_ret;exact⟨rfl,rfl⟩
theorem zgi(s:ByteArray)(k:Nat)(w:World)(hs:s.size≤1000000)(hk:k<s.size):
  Calls Tryz.prog 92 #[.string s,.int .i64 k] w λe w'=>e=.returned (.int .i64 (xX s k:Nat))∧w'=w:=by
 have hk2:(k:Int)<s.size:=by omega
 have hd2:decide (k<s.size)=true:=by simpa using hk
 have hn:=λw=>iQ s k w hs (by omega);obtain⟨m,hm⟩:∃m,Zl s k=m:=⟨_,rfl⟩;rw[hm]at hn;unfold xX;rw[hm];have HN:=hid hn;have HM:=hid hm;clear hn hm;by_cases h0:0<m
 ·rw[if_pos h0]
  have g0:((m:Int)==0)=false:=beq_eq_false_iff_ne.2 (by omega);go_enter Tryz.func92,Tryz.ntmps92
  go_wp2_with fail
  refine(HN.out _).mono ?_;rintro e w' ⟨rfl,rfl⟩;go_wp2;go_ret;exact⟨rfl,rfl⟩
 ·obtain rfl:m=0:=by omega
  rw[if_neg h0];clear h0;obtain⟨x,hx⟩:∃x,cl s k=x:=⟨_,rfl⟩;obtain⟨b,hb⟩:∃b,XT (bt s k).toNat=b:=⟨_,rfl⟩;rw[hx,hb];obtain⟨r,hr⟩:∃r,(if k<s.size∧(x=6∨b=true)then 1 else 0)=r:=⟨_,rfl⟩;rw[hr];have HX:=hid hx;have HB:=hid hb;have HR:=hid hr;clear hx hb hr;by_cases h6:x=6
  ·subst h6
   go_enter Tryz.func92,Tryz.ntmps92
   go_wp2_with fail
   refine(HN.out _).mono ?_;rintro e w' ⟨rfl,rfl⟩
   go_wp2_with fail
   refine(Ja s k hk 6 HX.out _).mono ?_;rintro e w' ⟨rfl,rfl⟩;go_wp2;go_ret;exact⟨uf (by have:=HR.out;rw[if_pos ⟨hk,by simp⟩]at this;omega),rfl⟩
  ·have g6:((x:Int)==6)=false:=beq_eq_false_iff_ne.2 (by omega)
   cases b
   all_goals
    go_enter Tryz.func92,Tryz.ntmps92
    go_wp2_with fail
    refine(HN.out _).mono ?_;rintro e w' ⟨rfl,rfl⟩
    go_wp2_with fail
    refine(Ja s k hk x HX.out _).mono ?_;rintro e w' ⟨rfl,rfl⟩
    go_wp2_with fail
    refine(zgg s k hk _ HB.out _).mono ?_;rintro e w' ⟨rfl,rfl⟩;go_wp2;go_ret
   ·exact⟨uf (by have:=HR.out;rw[if_neg (λh=>by rcases h.2 with h|h;exact h6 h;cases h)]at this;omega),rfl⟩
   ·exact⟨uf (by have:=HR.out;rw[if_pos ⟨hk,by simp⟩]at this;omega),rfl⟩
theorem af:∀{st:List Fr},good st→∀x∈st,x.1≤14
 | [],h,x,hx=>by simp at hx
 | [(m,f)],h,x,hx=>by
  simp at hx;subst hx;exact Vb h
 |(m,f)::(m2,f2)::r,h,x,hx=>by
  rcases List.mem_cons.1 hx with rfl|hx
  ·exact Vb h
  ·exact af (JQ h).2 x hx
def jG:Nat→List Fr→Prop
 |_,[]=>False
 |_,[(m,f)]=>m=0∧f=0
 |k,(m,f)::y::r=>f<k∧jG f (y::r)
theorem ag:∀{st:List Fr} {k l:Nat},jG k st→k≤l→jG l st
 | [],_,_,h,_=>h
 | [(m,f)],_,_,h,_=>h
 |(m,f)::y::r,_,_,h,hl=>⟨Nat.lt_of_lt_of_le h.1 hl,h.2⟩
theorem zhf{k m f:Nat}{r:List Fr}(h:jG k ((m,f)::r))(hr:r≠ []):jG k r:=by
 cases r with
 |nil=>exact absurd rfl hr
 |cons y r=>exact ag h.2 (Nat.le_of_lt h.1)
theorem zhg{k m f:Nat}{r:List Fr}(h:jG k ((m,f)::r))(hr:r≠ [])(n:Nat):jG k ((n,f)::r):=by
 cases r with
 |nil=>exact absurd rfl hr
 |cons y r=>exact h
theorem zhh{k:Nat}{st:List Fr}(h:jG k st)(n:Nat):jG (k+1) ((n,k)::st):=by
 cases st with
 |nil=>exact absurd h (by simp[jG])
 |cons y r=>exact⟨Nat.lt_succ_self _,h⟩
theorem TV(m b:Nat)(fresh:Bool):(mv m b fresh).1=.keep∨(∃n,(mv m b fresh).1=.push n∧(n=13∨n=4∨n=5∨n=6∨n=12∨n=14∨n=2∨n=10))∨(m≠0∧(mv m b fresh).1=.pop)∨(m=9∧(mv m b fresh).1=.turn 11):=by
 have ho:=TW b;obtain⟨v,hv⟩:∃v,mv m b fresh=v:=⟨_,rfl⟩;rw[hv];unfold mv at hv;by_cases hP:xI m=true
 ·rw[if_pos hP]at hv
  repeat' split at hv
  all_goals subst hv
  all_goals first
   |exact .inl rfl
   |exact .inr (.inl ⟨_,rfl,by omega⟩)
   |(refine .inr (.inl ⟨_,rfl,?_⟩);rename_i h;unfold opn;rcases h with rfl|rfl<;>simp)
   |exact .inr (.inr (.inl ⟨by assumption,rfl⟩))
 ·rw[if_neg hP]at hv
  have h0:m≠0:=by rintro rfl;exact hP rfl
  repeat' split at hv
  all_goals subst hv
  all_goals first
   |exact .inl rfl
   |exact .inr (.inr (.inl ⟨h0,rfl⟩))
   |exact .inr (.inl ⟨_,rfl,by omega⟩)
   |exact .inr (.inr (.inr ⟨by omega,rfl⟩))
theorem TR(m f:Nat)(r:List Fr)(fresh:Bool)(b p:Nat):
  (zu ((m,f)::r) fresh b p).st=(m,f)::r∨(∃n,(zu ((m,f)::r) fresh b p).st=(n,p)::(m,f)::r∧(n=13∨n=4∨n=5∨n=6∨n=12∨n=14∨n=2∨n=10))∨(m≠0∧(zu ((m,f)::r) fresh b p).st=r)∨(m=9∧(zu ((m,f)::r) fresh b p).st=(11,f)::r):=by
 show(fin (mv m b fresh) ((m,f)::r) p).st=_∨_;unfold zu fin;simp only;rcases TV m b fresh with h|⟨n,h,hn⟩|⟨h0,h⟩|⟨h0,h⟩
 ·rw[h];exact .inl rfl
 ·rw[h];exact .inr (.inl ⟨n,rfl,hn⟩)
 ·rw[h];exact .inr (.inr (.inl ⟨h0,rfl⟩))
 ·rw[h];exact .inr (.inr (.inr ⟨h0,rfl⟩))
def qZ(m n:Nat):Prop:=(m=12∧(n=3∨n=7∨n=8))∨(m=3∧(n=9∨n=1))∨(m=9∧n=11)∨(m=11∧n=9)
def Kw(n:Nat):Prop:=n=13∨n=4∨n=5∨n=6∨n=12∨n=14∨n=2∨n=10
def uy(T D:List Fr):Prop:=T=D∨∃m n f r,D=(m,f)::r∧T=(n,f)::r∧qZ m n
def Tr(p:Nat)(D N:List Fr):Prop:=
 ∃j T,j≤D.length∧uy T (D.drop j)∧(N=T∨∃n,N=(n,p)::T∧Kw n∧(j=0∨(j=1∧top D=12)))
theorem ah(x:Ms)(hI:Inv x)(b p:Nat):∃j T m f r,x.st.drop j=(m,f)::r∧(T=(m,f)::r∨∃n,T=(n,f)::r∧qZ m n)∧((yE x b p).st=T∨∃n,(yE x b p).st=(n,p)::T∧Kw n∧(j=0∨(j=1∧top x.st=12)))∧(x.st=[(0,0)]→True):=by
 obtain⟨st,fresh⟩:=x;have hg:=hI.good
 cases st with
 |nil=>exact absurd hg (by simp[good])
 |cons a r=>
  obtain⟨m,f⟩:=a;simp only at hg;have pl:∀(j m1 f1:Nat) (r1:List Fr) (m0:Nat),((m,f)::r).drop j=(m0,f1)::r1→(m0=m1∨qZ m0 m1)→(m1=9→m0=9∨m0=11)→(j=0∨(j=1∧m=12))→good ((m1,f1)::r1)→m1≤14→
    ∃j T m' f' r',((m,f)::r).drop j=(m',f')::r'∧(T=(m',f')::r'∨∃n,T=(n,f')::r'∧qZ m' n)∧((zu ((m1,f1)::r1) fresh b p).st=T∨∃n,(zu ((m1,f1)::r1) fresh b p).st=(n,p)::T∧Kw n∧(j=0∨(j=1∧m=12)))∧(((m,f)::r)=[(0,0)]→True):=by
   intro j m1 f1 r1 m0 hd ht h9 hj hg1 hle;rcases TR m1 f1 r1 fresh b p with h|⟨n,h,hn⟩|⟨h0,h⟩|⟨h0,h⟩
   ·refine⟨j,(m1,f1)::r1,m0,f1,r1,hd,?_,.inl h,λ_=>trivial⟩
    rcases ht with rfl|ht
    ·exact .inl rfl
    ·exact .inr ⟨m1,rfl,ht⟩
   ·refine⟨j,(m1,f1)::r1,m0,f1,r1,hd,?_,.inr ⟨n,h,hn,hj⟩,λ_=>trivial⟩
    rcases ht with rfl|ht
    ·exact .inl rfl
    ·exact .inr ⟨m1,rfl,ht⟩
   ·obtain⟨m2,f2,r2,rfl,h1,h2⟩:=ZV hg1 h0
    refine⟨j+1,(m2,f2)::r2,m2,f2,r2,?_,.inl rfl,.inl h,λ_=>trivial⟩;rw[←List.drop_drop,hd];rfl
   ·subst h0
    refine⟨j,(11,f1)::r1,m0,f1,r1,hd,?_,.inl h,λ_=>trivial⟩;rcases h9 rfl with rfl|rfl
    ·exact .inr ⟨11,rfl,.inr (.inr (.inl ⟨rfl,rfl⟩))⟩
    ·exact .inl rfl
  have hle:=Vb hg;unfold yE;simp only;by_cases h12:m=12
  ·rw[if_pos h12]
   split
   ·exact⟨0,(3,f)::r,m,f,r,rfl,.inr ⟨3,rfl,.inl ⟨h12,.inl rfl⟩⟩,.inl rfl,λ_=>trivial⟩
   split
   ·refine⟨0,(qh (top r),f)::r,m,f,r,rfl,.inr ⟨_,rfl,.inl ⟨h12,?_⟩⟩,.inl rfl,λ_=>trivial⟩
    unfold qh;split
    ·exact .inr (.inr rfl)
    ·exact .inr (.inl rfl)
   obtain⟨m2,f2,r2,rfl,h1,h2⟩:=ZV hg (by omega);split
   ·exact⟨1,(m2,f2)::r2,m2,f2,r2,rfl,.inl rfl,.inl rfl,λ_=>trivial⟩
   ·exact pl 1 m2 f2 r2 m2 rfl (.inl rfl) (λh=> .inl h) (.inr ⟨rfl,h12⟩) h2 (Vb h2)
  rw[if_neg h12];by_cases h3:m=3
  ·rw[if_pos h3]
   split
   ·exact⟨0,(9,f)::r,m,f,r,rfl,.inr ⟨9,rfl,.inr (.inl ⟨h3,.inl rfl⟩)⟩,.inl rfl,λ_=>trivial⟩
   ·exact pl 0 1 f r m rfl (.inr (.inr (.inl ⟨h3,.inr rfl⟩))) (λh=>by omega) (.inl rfl) (Vf hg (by omega) 1 (by decide) f) (by omega)
  rw[if_neg h3];by_cases h11:m=11
  ·rw[if_pos h11]
   split
   ·obtain⟨m2,f2,r2,rfl,h1,h2⟩:=ZV hg (by omega)
    exact⟨1,(m2,f2)::r2,m2,f2,r2,rfl,.inl rfl,.inl rfl,λ_=>trivial⟩
   ·exact pl 0 9 f r m rfl (.inr (.inr (.inr (.inr ⟨h11,rfl⟩)))) (λh=> .inr h11) (.inl rfl) (Vf hg (by omega) 9 (by decide) f) (by omega)
  rw[if_neg h11];exact pl 0 m f r m rfl (.inl rfl) (λh=> .inl h) (.inl rfl) hg hle
theorem TU{m n:Nat}(h:qZ m n):m≠0:=by unfold qZ at h;omega
theorem zhi(x:Ms)(hI:Inv x)(b p:Nat)(h:jG p x.st):jG (p+1) (yE x b p).st:=by
 obtain⟨j,T,m,f,r,hd,hT,hN,_⟩:=ah x hI b p;have drp:∀(j:Nat) (st:List Fr),jG p st→st.drop j≠ []→jG p (st.drop j):=by
  intro j
  induction j with
  |zero=>intro st h _;exact h
  |succ j ih=>
   intro st h hn
   cases st with
   |nil=>exact absurd rfl hn
   |cons a st=>
    rw[List.drop_succ_cons]at hn ⊢;refine ih st (zhf h ?_) hn;rintro rfl;simp at hn
 have hD:jG p ((m,f)::r):=by
  have:=drp j x.st h (by rw[hd];simp)
  rwa [hd]at this
 have ai:jG p T:=by
  rcases hT with rfl|⟨n,rfl,ht⟩
  ·exact hD
  ·refine zhg hD ?_ n
   rintro rfl;have:=TU ht;exact this hD.1
 rcases hN with hN|⟨n,hN,_⟩
 ·rw[hN];exact ag ai (Nat.le_succ _)
 ·rw[hN];exact zhh ai n
theorem lV(s:ByteArray):∀k,jG k (zL s k).st
 |0=>⟨rfl,rfl⟩
 |k+1=>by
  rw[Y7];exact zhi _ (ku s k) _ _ (lV s k)
def nt(s:ByteArray)(k:Nat):List Fr:=(zL s k).st.dropLast
theorem aj:∀{st:List Fr} {k:Nat},jG k st→st=st.dropLast++ [(0,0)]
 | [],_,h=>absurd h (by simp[jG])
 | [(m,f)],_,h=>by obtain⟨rfl,rfl⟩:=h;rfl
 |(m,f)::y::r,k,h=>by
  have:=aj h.2;rw[List.dropLast_cons_of_ne_nil (by simp),List.cons_append,←this]
theorem jy(s:ByteArray)(k:Nat):(zL s k).st=nt s k++ [(0,0)]:=aj (lV s k)
theorem oD:∀{D:List Fr} {k:Nat},jG k (D++ [(0,0)])→(∀x∈D,x.2<k)∧D.Pairwise (λa b=>b.2<a.2)
 | [],_,_=>⟨by simp,List.Pairwise.nil⟩
 |(m,f)::D,k,h=>by
  have h2:f<k∧jG f (D++ [(0,0)]):=by
   cases D with
   |nil=>exact h
   |cons y D=>exact h
  obtain⟨h3,h4⟩:=oD h2.2;refine⟨λx hx=>?_,List.Pairwise.cons (λx hx=>h3 x hx) h4⟩;rcases List.mem_cons.1 hx with rfl|hx
  ·exact h2.1
  ·exact Nat.lt_trans (h3 x hx) h2.1
theorem lY(s:ByteArray)(k:Nat){x:Fr}(h:x∈nt s k):x.2<k:=(oD (by rw[←jy];exact lV s k)).1 x h
theorem Zr(s:ByteArray)(k:Nat):(nt s k).Pairwise (λa b=>b.2<a.2):=(oD (by rw[←jy];exact lV s k)).2
theorem zhj(s:ByteArray)(k:Nat){x:Fr}(h:x∈nt s k):x.1≤14:=af (ku s k).good x (by rw[jy];exact List.mem_append_left _ h)
theorem MI(s:ByteArray)(k:Nat):(nt s k).length≤k:=by
 have:=V6 s k;rw[jy]at this;simp at this;exact this
theorem MH(s:ByteArray)(k:Nat):Tr k (nt s k) (nt s (k+1)):=by
 obtain⟨j,T,m,f,r,hd,hT,hN,_⟩:=ah (zL s k) (ku s k) (by8 s k) k;rw[←Y7,jy s (k+1)]at hN;have htop:top (nt s k++ [(0,0)])=top (nt s k):=by
  cases nt s k with
  |nil=>rfl
  |cons a D=>rfl
 rw[jy s k]at hd hN;rw[htop]at hN;have hj:j≤(nt s k).length:=by
  have:j<(nt s k++ [(0,0)]).length:=by
   apply Classical.byContradiction;intro g;rw[List.drop_eq_nil_of_le (by omega)]at hd;cases hd
  simp at this;omega
 rw[List.drop_append_of_le_length hj]at hd;have hT2:∃T2,T=T2++ [(0,0)]∧uy T2 ((nt s k).drop j):=by
  rcases hT with rfl|⟨n,rfl,ht⟩
  ·exact⟨_,hd.symm,.inl rfl⟩
  ·cases hD:(nt s k).drop j with
   |nil=>
    rw[hD]at hd;simp at hd;exact absurd hd.1.1.symm (TU ht)
   |cons a D=>
    rw[hD]at hd;simp at hd;obtain⟨rfl,rfl⟩:=hd;exact⟨(n,f)::D,rfl,.inr ⟨m,n,f,D,rfl,rfl,ht⟩⟩
 obtain⟨T2,rfl,hS⟩:=hT2;refine⟨j,T2,hj,hS,?_⟩;rcases hN with hN|⟨n,hN,ho,hj2⟩
 ·exact .inl (List.append_cancel_right hN)
 ·refine .inr ⟨n,?_,ho,hj2⟩
  rw[←List.cons_append]at hN;exact List.append_cancel_right hN
def zI(s:ByteArray)(k f:Nat):Bool:=(nt s k).any λx=>x.2==f
theorem jR{s:ByteArray}{k f:Nat}:zI s k f=true↔∃m,(m,f)∈nt s k:=by
 unfold zI;rw[List.any_eq_true];constructor
 ·rintro⟨⟨m,g⟩,hx,h⟩
  obtain rfl:g=f:=by simpa using h
  exact⟨m,hx⟩
 ·rintro⟨m,hx⟩
  exact⟨_,hx,by simp⟩
theorem jv{s:ByteArray}{k f:Nat}(h:zI s k f=true):f<k:=by
 obtain⟨m,hm⟩:=jR.1 h;exact lY s k hm
def md(s:ByteArray)(k f:Nat):Nat:=(((nt s k).find? λx=>x.2==f).map Prod.fst).getD 0
theorem wJ:∀{D A R:List Fr} {m f:Nat},D.Pairwise (λa b=>b.2<a.2)→D=A++(m,f)::R→D.find? (λx=>x.2==f)=some (m,f)
 |_,[],R,m,f,hp,rfl=>by simp
 |_,a::A,R,m,f,hp,rfl=>by
  have hp':=hp;rw[List.cons_append,List.pairwise_cons]at hp';have hlt:f<a.2:=hp'.1 (m,f) (by simp);rw[List.cons_append,List.find?_cons_of_neg (by simp;omega)];exact wJ hp'.2 rfl
theorem Zq{s:ByteArray}{k m f:Nat}{A R:List Fr}(h:nt s k=A++(m,f)::R):md s k f=m:=by
 unfold md;rw[wJ (Zr s k) h];rfl
theorem GH{s:ByteArray}{k f:Nat}(h:zI s k f=true):∃A R,nt s k=A++(md s k f,f)::R:=by
 obtain⟨m,hm⟩:=jR.1 h;obtain⟨A,R,hA⟩:=List.append_of_mem hm;exact⟨A,R,by rw[Zq hA];exact hA⟩
theorem lW{s:ByteArray}{k m f:Nat}{A R:List Fr}(h:nt s k=A++(m,f)::R):zI s k f=true:=jR.2 ⟨m,by rw[h];simp⟩
theorem MR(s:ByteArray)(k f:Nat):md s k f≤14:=by
 by_cases h:zI s k f=true
 ·obtain⟨A,R,hA⟩:=GH h
  exact zhj s k (x:=(md s k f,f)) (by rw[hA];simp)
 ·unfold md
  rw[List.find?_eq_none.2 (λx hx e=>h (jR.2 ⟨x.1,by
   obtain rfl:x.2=f:=by simpa using e
   exact hx⟩))]
  simp
def xg(s:ByteArray)(f:Nat):List Fr:=(nt s (f+1)).tail
theorem Y5{s:ByteArray}{f:Nat}(h:zI s (f+1) f=true):nt s (f+1)=(md s (f+1) f,f)::xg s f:=by
 obtain⟨A,R,hA⟩:=GH h
 cases A with
 |nil=>unfold xg;rw[hA];rfl
 |cons a A=>
  have h1:=lY s (f+1) (x:=a) (by rw[hA];simp);have h2:=Zr s (f+1);rw[hA,List.cons_append,List.pairwise_cons]at h2;have h3:f<a.2:=h2.1 (md s (f+1) f,f) (by simp);omega
theorem rC{T D:List Fr}(h:uy T D):T.map Prod.snd=D.map Prod.snd∧T.tail=D.tail:=by
 rcases h with rfl|⟨m,n,f,r,rfl,rfl,_⟩
 ·exact⟨rfl,rfl⟩
 ·exact⟨rfl,rfl⟩
theorem ak{T D:List Fr}(h:uy T D){f:Nat}(hm:∃m,(m,f)∈T):∃m,(m,f)∈D:=by
 have:=(rC h).1;obtain⟨m,hm⟩:=hm;have h2:f∈T.map Prod.snd:=List.mem_map.2 ⟨_,hm,rfl⟩;rw[this]at h2;obtain⟨x,hx,rfl⟩:=List.mem_map.1 h2;exact⟨x.1,hx⟩
theorem zhk{T D:List Fr}(h:uy T D){f:Nat}(hm:∃m,(m,f)∈D):∃m,(m,f)∈T:=by
 have:=(rC h).1;obtain⟨m,hm⟩:=hm;have h2:f∈D.map Prod.snd:=List.mem_map.2 ⟨_,hm,rfl⟩;rw[←this]at h2;obtain⟨x,hx,rfl⟩:=List.mem_map.1 h2;exact⟨x.1,hx⟩
theorem J6{s:ByteArray}{k f:Nat}{j:Nat}{T:List Fr}(hS:uy T ((nt s k).drop j))(hN:nt s (k+1)=T∨∃n,nt s (k+1)=(n,k)::T)(hf:f<k):zI s (k+1) f=true↔∃m,(m,f)∈(nt s k).drop j:=by
 constructor
 ·intro h
  obtain⟨m,hm⟩:=jR.1 h;refine ak hS ⟨m,?_⟩;rcases hN with hN|⟨n,hN⟩
  ·rwa [hN]at hm
  ·rw[hN]at hm
   rcases List.mem_cons.1 hm with h|h
   ·simp at h;omega
   ·exact h
 ·intro h
  obtain⟨m,hm⟩:=zhk hS h;refine jR.2 ⟨m,?_⟩;rcases hN with hN|⟨n,hN⟩
  ·rwa [hN]
  ·rw[hN];exact List.mem_cons_of_mem _ hm
theorem ru{s:ByteArray}{k:Nat}{T:List Fr}{j:Nat}(h:nt s (k+1)=T∨∃n,nt s (k+1)=(n,k)::T∧Kw n∧(j=0∨(j=1∧top (nt s k)=12))):nt s (k+1)=T∨∃n,nt s (k+1)=(n,k)::T:=
 h.imp id fun⟨n,h,_⟩=>⟨n,h⟩
theorem QL{s:ByteArray}{k f:Nat}(h:zI s (k+1) f=true)(hf:f<k):zI s k f=true:=by
 obtain⟨j,T,hj,hS,hN⟩:=MH s k;obtain⟨m,hm⟩:=(J6 hS (ru hN) hf).1 h;exact jR.2 ⟨m,List.mem_of_mem_drop hm⟩
theorem au{D A R:List Fr}{m f j:Nat}(hp:D.Pairwise (λa b=>b.2<a.2))(h:D=A++(m,f)::R)(hm:∃n,(n,f)∈D.drop j):∃A2,D.drop j=A2++(m,f)::R:=by
 by_cases hj:j≤A.length
 ·exact⟨A.drop j,by rw[h,List.drop_append_of_le_length hj]⟩
 ·exfalso
  obtain⟨n,hn⟩:=hm;rw[h]at hp;have e:D.drop j=R.drop (j-(A.length+1)):=by
   rw[h,show j=A.length+((j-(A.length+1))+1) by omega,←List.drop_drop,List.drop_left,List.drop_succ_cons];congr 1;omega
  rw[e]at hn;have:=(List.pairwise_cons.1 (List.pairwise_append.1 hp).2.1).1 _ (List.mem_of_mem_drop hn);simp at this
theorem zhl{s:ByteArray}{k m f:Nat}{A R:List Fr}(h:nt s k=A++(m,f)::R)(hp:zI s (k+1) f=true)(hf:f<k):∃A2 n,nt s (k+1)=A2++(n,f)::R:=by
 obtain⟨j,T,hj,hS,hN⟩:=MH s k;obtain⟨A2,hA2⟩:=au (Zr s k) h ((J6 hS (ru hN) hf).1 hp);have hT:∃A3 n,T=A3++(n,f)::R:=by
  rcases hS with rfl|⟨m1,n1,f1,r1,hD,rfl,_⟩
  ·exact⟨A2,m,hA2⟩
  ·rw[hD]at hA2
   cases A2 with
   |nil=>
    simp at hA2;obtain⟨⟨rfl,rfl⟩,rfl⟩:=hA2;exact⟨[],n1,rfl⟩
   |cons a A2=>
    simp at hA2;obtain⟨rfl,rfl⟩:=hA2;exact⟨(n1,f1)::A2,m,rfl⟩
 obtain⟨A3,n,rfl⟩:=hT;rcases ru hN with hN|⟨n2,hN⟩
 ·exact⟨A3,n,hN⟩
 ·exact⟨(n2,k)::A3,n,hN⟩
theorem VS{s:ByteArray}{f:Nat}:∀{k:Nat},zI s k f=true→(∃A,nt s k=A++(md s k f,f)::xg s f)∧∀j,f<j→j≤k→zI s j f=true
 |0,h=>absurd (jv h) (by omega)
 |k+1,h=>by
  have hf:=jv h;by_cases e:f=k
  ·subst e
   refine⟨⟨[],Y5 h⟩,λj h1 h2=>?_⟩;obtain rfl:j=f+1:=by omega
   exact h
  ·obtain⟨⟨A,hA⟩,ha⟩:=VS (QL h (by omega))
   obtain⟨A2,n,hA2⟩:=zhl hA h (by omega);refine⟨⟨A2,by rw[Zq hA2];exact hA2⟩,λj h1 h2=>?_⟩;by_cases e2:j=k+1
   ·rw[e2];exact h
   ·exact ha j h1 (by omega)
def eK(s:ByteArray)(f k:Nat):Nat:=f+xB (λi=>zI s (f+1+i) f) (k-f)
theorem Gz(s:ByteArray){f k:Nat}(h:f≤k):eK s f k≤k:=by
 have:=Yf (λi=>zI s (f+1+i) f) (k-f);unfold eK;omega
theorem JP{s:ByteArray}{f k j:Nat}(h1:f<j)(h2:j≤eK s f k):zI s j f=true:=by
 unfold eK at h2;have:=Yz (λi=>zI s (f+1+i) f) (z:=k-f) (i:=j-(f+1)) (by omega)
 rwa [show f+1+(j-(f+1))=j by omega]at this
theorem rJ{s:ByteArray}{f k e:Nat}(h0:f≤e)(h1:e≤k)(hp:∀j,f<j→j≤e→zI s j f=true)(hs:e<k→zI s (e+1) f=false):eK s f k=e:=by
 unfold eK;rw[ZT (n:=e-f) _ (by omega) (λi hi=>hp _ (by omega) (by omega)) (λh=>by
  have:=hs (by omega)
  rwa [show f+1+(e-f)=e+1 by omega])]
 omega
theorem Iy{s:ByteArray}{f k:Nat}(h:zI s k f=true):eK s f k=k:=
 rJ (Nat.le_of_lt (jv h)) (Nat.le_refl _) (VS h).2 (λg=>absurd g (Nat.lt_irrefl _))
theorem l7{s:ByteArray}{f k:Nat}(hf:f≤k)(h:eK s f k<k):zI s (eK s f k+1) f=false:=by
 unfold eK at h ⊢;have:=YA (λi=>zI s (f+1+i) f) (z:=k-f) (by omega)
 rwa [show f+xB (λi=>zI s (f+1+i) f) (k-f)+1=f+1+xB (λi=>zI s (f+1+i) f) (k-f) by omega]
theorem PM{s:ByteArray}{f k:Nat}(hf:f<k)(h:zI s k f=false):eK s f k<k:=by
 have h1:=Gz s (Nat.le_of_lt hf);have h2:=JP (s:=s) (f:=f) (k:=k) (j:=k) hf;rcases Nat.lt_or_ge (eK s f k) k with g|g
 ·exact g
 ·rw[h2 g]at h;cases h
theorem zhm{s:ByteArray}{f k:Nat}(hf:f<k)(h:zI s k f=false):eK s f (k+1)=eK s f k:=by
 have h1:=PM hf h;exact rJ (by unfold eK;omega) (by omega) (λj a b=>JP a b) (λ_=>l7 (Nat.le_of_lt hf) h1)
theorem zhn{s:ByteArray}{f k:Nat}(h:zI s k f=true)(h':zI s (k+1) f=false):eK s f (k+1)=k:=
 rJ (Nat.le_of_lt (jv h)) (Nat.le_succ _) (VS h).2 (λ_=>h')
structure zJ where
 mode:Nat
 zf:Nat
 to:Nat
 up:Int
 op:Bool
def cnt(m:Nat):Nat:=if m=3 then 1 else if m=11 then 9 else m
theorem oC{m:Nat}(h:m≤14):cnt m≤14:=by unfold cnt;(repeat' split)<;>omega
theorem zho{m:Nat}:cnt m=12↔m=12:=by unfold cnt;(repeat' split)<;>omega
theorem zhp{m:Nat}(h:Kw m):cnt m=m:=by unfold Kw at h;unfold cnt;(repeat' split)<;>omega
def born(s:ByteArray)(f:Nat):Bool:=zI s (f+1) f
def xY(s:ByteArray)(k:Nat):List Nat:=(List.range k).filter (born s)
theorem PX(s:ByteArray)(k:Nat):xY s (k+1)=xY s k++if born s k=true then [k]else []:=by
 unfold xY;rw[List.range_succ,List.filter_append];congr 1;simp[List.filter_cons]
theorem MM{s:ByteArray}{k f:Nat}:f∈xY s k↔f<k∧born s f=true:=by
 unfold xY;rw[List.mem_filter,List.mem_range]
theorem zhq(s:ByteArray)(k:Nat):(xY s k).Pairwise (· < ·):=List.Pairwise.filter _ List.pairwise_lt_range
theorem ML(s:ByteArray)(k:Nat):(xY s k).length≤k:=by
 have:=List.length_filter_le (born s) (List.range k);rw[List.length_range]at this;exact this
def idx(s:ByteArray)(f:Nat):Nat:=(xY s f).length
theorem JS(s:ByteArray)(f:Nat)(hb:born s f=true):∀{k:Nat},f<k→(xY s k)[idx s f]?=some f
 |0,h=>by omega
 |k+1,h=>by
  rw[PX];by_cases e:f=k
  ·subst e
   rw[if_pos hb];unfold idx;simp
  ·have h1:=JS s f hb (k:=k) (by omega)
   have hl:idx s f<(xY s k).length:=(List.getElem?_eq_some_iff.1 h1).1;rw[List.getElem?_append_left hl];exact h1
theorem TP{s:ByteArray}{f k:Nat}(hb:born s f=true)(h:f<k):idx s f<(xY s k).length:=(List.getElem?_eq_some_iff.1 (JS s f hb h)).1
theorem TN{s:ByteArray}{f g:Nat}(hb:born s f=true)(h:f<g):idx s f<idx s g:=TP hb h
theorem DY{s:ByteArray}{k i f:Nat}(h:(xY s k)[i]?=some f):idx s f=i∧f<k∧born s f=true:=by
 obtain⟨hk,hb⟩:=MM.1 (List.mem_of_getElem? h);refine⟨?_,hk,hb⟩;have h2:=JS s f hb hk;have hn:=List.pairwise_iff_getElem.1 (zhq s k);obtain⟨hi,h3⟩:=List.getElem?_eq_some_iff.1 h;obtain⟨hj,h4⟩:=List.getElem?_eq_some_iff.1 h2;apply Classical.byContradiction;intro g;rcases Nat.lt_or_ge (idx s f) i with g2|g2
 ·have:=hn _ _ hj hi g2
  omega
 ·have:=hn _ _ hi hj (by omega)
  omega
def Zh(s:ByteArray)(f:Nat):Int:=match xg s f with
 | []=> -1
 |x::_=>(idx s x.2:Nat)
def Zg(s:ByteArray)(to:Nat)(op:Bool)(p:zJ):zJ:=if p.mode=12 then {p with to:=p.zf+1+xX s (p.zf+1),op:=false} else {p with to:=to,op:=op}
def xE(s:ByteArray)(k f:Nat):zJ:=
 if eK s f k=k then⟨cnt (md s k f),f,0,Zh s f,false⟩else Zg s (eK s f k+1) false ⟨cnt (md s (eK s f k) f),f,0,Zh s f,false⟩
def prt(s:ByteArray)(f:Nat):zJ:=
 if eK s f s.size=s.size then Zg s s.size true (xE s s.size f)else xE s s.size f
def LK(s:ByteArray)(k:Nat):List zJ:=(xY s k).map (xE s k)
def PL(s:ByteArray):List zJ:=(xY s s.size).map (prt s)
theorem IK(s:ByteArray)(to:Nat)(op:Bool)(p:zJ):(Zg s to op p).zf=p.zf∧(Zg s to op p).mode=p.mode∧(Zg s to op p).up=p.up:=by
 unfold Zg;split<;>exact⟨rfl,rfl,rfl⟩
theorem wI{s:ByteArray}{k f:Nat}(h:zI s k f=true):xE s k f=⟨cnt (md s k f),f,0,Zh s f,false⟩:=by
 unfold xE;rw[if_pos (Iy h)]
theorem rD(s:ByteArray)(k f:Nat):(xE s k f).zf=f∧(xE s k f).up=Zh s f∧(xE s k f).mode≤14:=by
 unfold xE;split
 ·exact⟨rfl,rfl,oC (MR _ _ _)⟩
 ·have h:=IK s (eK s f k+1) false ⟨cnt (md s (eK s f k) f),f,0,Zh s f,false⟩
  exact⟨h.1,h.2.2,by rw[h.2.1];exact oC (MR _ _ _)⟩
theorem ax{s:ByteArray}{k f:Nat}(h:zI s k f=true)(h':zI s (k+1) f=false):xE s (k+1) f=Zg s (k+1) false (xE s k f):=by
 rw[wI h];unfold xE;rw[zhn h h',if_neg (by omega)]
theorem ay{s:ByteArray}{k f:Nat}(hf:f<k)(h:zI s k f=false):xE s (k+1) f=xE s k f:=by
 have h1:=PM hf h;unfold xE;rw[zhm hf h,if_neg (by omega),if_neg (by omega)]
theorem PK{g:Nat→zJ}{s:ByteArray}{k f:Nat}(hb:born s f=true)(hf:f<k)(v:zJ):((xY s k).map g).set (idx s f) v=(xY s k).map λx=>if x=f then v else g x:=by
 apply List.ext_getElem?;intro i;rw[List.getElem?_set];by_cases h:idx s f=i
 ·subst h
  rw[if_pos rfl,List.getElem?_map,JS s f hb hf];have:=TP hb hf;simp[this]
 ·rw[if_neg h,List.getElem?_map,List.getElem?_map]
  cases hx:(xY s k)[i]? with
  |none=>rfl
  |some x=>
   have hne:x≠f:=by
    rintro rfl;exact h (DY hx).1
   simp[hne]
theorem wE{s:ByteArray}{k f:Nat}(h:zI s k f=true):born s f=true:=(VS h).2 (f+1) (Nat.lt_succ_self _) (jv h)
def Gi(s:ByteArray)(k i:Nat)(x:Nat):zJ:=if((nt s k).take i).any (λy=>y.2==x)=true then Zg s (k+1) false (xE s k x)else xE s k x
def Z4(s:ByteArray)(k i:Nat):List zJ:=(xY s k).map (Gi s k i)
def vG(s:ByteArray)(k i:Nat):List Nat:=(((nt s k).drop i).map λx=>idx s x.2).reverse
theorem zgy(s:ByteArray)(k:Nat):Z4 s k 0=LK s k:=by
 unfold Z4 LK;congr 1
theorem ry(s:ByteArray)(k i:Nat):(vG s k i).length=(nt s k).length-i:=by unfold vG;simp
theorem Iw{s:ByteArray}{k i m f:Nat}{R:List Fr}(h:(nt s k).drop i=(m,f)::R):((nt s k).take i).any (λy=>y.2==f)=false:=by
 have hp:=Zr s k;rw[←List.take_append_drop i (nt s k),h]at hp;rw[Bool.eq_false_iff];intro g;obtain⟨y,hy,e⟩:=List.any_eq_true.1 g;have:=(List.pairwise_append.1 hp).2.2 y hy (m,f) (by simp);simp at e;simp at this;omega
theorem Vj{s:ByteArray}{k i m f:Nat}{R:List Fr}(h:(nt s k).drop i=(m,f)::R):zI s k f=true∧md s k f=m∧i<(nt s k).length:=by
 have e:nt s k=(nt s k).take i++(m,f)::R:=by rw[←h,List.take_append_drop]
 refine⟨lW e,Zq e,?_⟩;apply Classical.byContradiction;intro g;rw[List.drop_eq_nil_of_le (by omega)]at h;cases h
theorem Il{s:ByteArray}{k i m f:Nat}{R:List Fr}(h:(nt s k).drop i=(m,f)::R):(Z4 s k i)[idx s f]?=some (xE s k f):=by
 obtain⟨hp,_,_⟩:=Vj h;unfold Z4;rw[List.getElem?_map,JS s f (wE hp) (jv hp),Option.map_some];unfold Gi;rw[if_neg (by rw[Iw h];simp)]
theorem zgE{s:ByteArray}{k i m f:Nat}{R:List Fr}(h:(nt s k).drop i=(m,f)::R):(Z4 s k i).set (idx s f) (Zg s (k+1) false (xE s k f))=Z4 s k (i+1):=by
 obtain⟨hp,_,hi⟩:=Vj h;unfold Z4;rw[PK (wE hp) (jv hp)];apply List.map_congr_left;intro x _;have e:(nt s k).take (i+1)=(nt s k).take i++ [(m,f)]:=by
  rw[List.take_add_one];have:(nt s k)[i]?=some (m,f):=by
   have h2:=congrArg (λl=>l[0]?) h;simpa using h2
  rw[this];rfl
 unfold Gi;rw[e,List.any_append];by_cases g:x=f
 ·subst g
  simp
 ·rw[if_neg g]
  have:([(m,f)].any λy=>y.2==x)=false:=by simp;omega
  rw[this,Bool.or_false]
theorem Pz{s:ByteArray}{k i m f:Nat}{R:List Fr}(h:(nt s k).drop i=(m,f)::R):vG s k i=vG s k (i+1)++ [idx s f]:=by
 unfold vG;rw[h,List.map_cons,List.reverse_cons];congr 2;have:(nt s k).drop (i+1)=R:=by rw[←List.drop_drop,h];rfl
 rw[this]
theorem aA{s:ByteArray}{k f:Nat}(h:zI s (k+1) f=true)(hf:f<k):xE s (k+1) f={xE s k f with mode:=cnt (md s (k+1) f)}:=by
 rw[wI h,wI (QL h hf)]
theorem zgz{s:ByteArray}{k j:Nat}{T:List Fr}(hS:uy T ((nt s k).drop j))(hN:nt s (k+1)=T∨∃n,nt s (k+1)=(n,k)::T)(hD:(nt s k).drop j=[]):Z4 s k j=(xY s k).map (xE s (k+1)):=by
 unfold Z4;apply List.map_congr_left;intro x hx;obtain⟨hlt,_⟩:=MM.1 hx;have h':zI s (k+1) x=false:=by
  rw[Bool.eq_false_iff];intro g;obtain⟨m,hm⟩:=(J6 hS hN hlt).1 g;rw[hD]at hm;cases hm
 unfold Gi;by_cases h:zI s k x=true
 ·have:(nt s k).take j=nt s k:=List.take_of_length_le (by
   apply Classical.byContradiction;intro g;have:=congrArg List.length hD;simp at this;omega)
  have h3:(nt s k).any (λy=>y.2==x)=true:=h;rw[this,if_pos h3,ax h h']
 ·have h2:zI s k x=false:=by simpa using h
  rw[if_neg,ay hlt h2];intro g;obtain⟨y,hy,e⟩:=List.any_eq_true.1 g;exact h (List.any_eq_true.2 ⟨y,List.mem_of_mem_take hy,e⟩)
theorem zgA{s:ByteArray}{k j m f:Nat}{R T:List Fr}(hS:uy T ((nt s k).drop j))(hN:nt s (k+1)=T∨∃n,nt s (k+1)=(n,k)::T)(hD:(nt s k).drop j=(m,f)::R):
  (Z4 s k j).set (idx s f) {xE s k f with mode:=cnt (md s (k+1) f)}=(xY s k).map (xE s (k+1)):=by
 obtain⟨hp,hm,hj⟩:=Vj hD;unfold Z4;rw[PK (wE hp) (jv hp)];apply List.map_congr_left;intro x hx;obtain⟨hlt,_⟩:=MM.1 hx;by_cases g:x=f
 ·subst g
  rw[if_pos rfl,aA ((J6 hS hN hlt).2 ⟨m,by rw[hD];simp⟩) hlt]
 rw[if_neg g];unfold Gi;by_cases ht:((nt s k).take j).any (λy=>y.2==x)=true
 ·rw[if_pos ht]
  obtain⟨y,hy,e⟩:=List.any_eq_true.1 ht;have h:zI s k x=true:=List.any_eq_true.2 ⟨y,List.mem_of_mem_take hy,e⟩;have h':zI s (k+1) x=false:=by
   rw[Bool.eq_false_iff];intro g2;obtain⟨n,hn⟩:=(J6 hS hN hlt).1 g2;have hpw:=Zr s k;rw[←List.take_append_drop j (nt s k)]at hpw;have:=(List.pairwise_append.1 hpw).2.2 y hy _ hn;simp at e this;omega
  rw[ax h h']
 ·rw[if_neg ht]
  by_cases h:zI s k x=true
  ·
   have hR:∃n,(n,x)∈R:=by
    obtain⟨n,hn⟩:=jR.1 h;rw[←List.take_append_drop j (nt s k),hD]at hn;rcases List.mem_append.1 hn with hn|hn
    ·exact absurd (List.any_eq_true.2 ⟨_,hn,by simp⟩) ht
    ·rcases List.mem_cons.1 hn with hn|hn
     ·simp at hn;exact absurd hn.2 g
     ·exact⟨n,hn⟩
   obtain⟨n,hn⟩:=hR;obtain⟨A,B,rfl⟩:=List.append_of_mem hn;have h1:md s k x=n:=Zq (A:=(nt s k).take j++(m,f)::A) (R:=B) (by rw[List.append_assoc,List.cons_append,←hD,List.take_append_drop]);have hT:T.tail=A++(n,x)::B:=by rw[(rC hS).2,hD];rfl
   have hT2:∃a,T=a::(A++(n,x)::B):=by
    cases T with
    |nil=>simp at hT
    |cons a T=>exact⟨a,by rw[←hT];rfl⟩
   obtain⟨a,rfl⟩:=hT2;have h2:md s (k+1) x=n:=by
    rcases hN with hN|⟨n2,hN⟩
    ·exact Zq (A:=a::A) (R:=B) hN
    ·exact Zq (A:=(n2,k)::a::A) (R:=B) hN
   rw[aA ((J6 hS hN hlt).2 ⟨n,by rw[hD];simp⟩) hlt,h2,←h1,wI h]
  ·have h2:zI s k x=false:=by simpa using h
   rw[ay hlt h2]
theorem MK(s:ByteArray)(k:Nat):LK s (k+1)=(xY s k).map (xE s (k+1))++if born s k=true then [xE s (k+1) k]else []:=by
 unfold LK;rw[PX,List.map_append];congr 1;split<;>rfl
theorem Ij{s:ByteArray}{k:Nat}{T:List Fr}{j:Nat}(hS:uy T ((nt s k).drop j))(hN:nt s (k+1)=T):born s k=false:=by
 unfold born;rw[Bool.eq_false_iff];intro g;obtain⟨m,hm⟩:=jR.1 g;rw[hN]at hm;obtain⟨m2,hm2⟩:=ak hS ⟨m,hm⟩;have:=lY s k (List.mem_of_mem_drop hm2);simp at this
theorem Ik{s:ByteArray}{k n:Nat}{T:List Fr}(hN:nt s (k+1)=(n,k)::T)(ho:Kw n):born s k=true∧xE s (k+1) k=⟨n,k,0,Zh s k,false⟩∧xg s k=T:=by
 have hp:zI s (k+1) k=true:=lW (A:=[]) hN;have hm:md s (k+1) k=n:=Zq (A:=[]) hN;refine⟨hp,?_,?_⟩
 ·rw[wI hp,hm,zhp ho]
 ·unfold xg
  rw[hN];rfl
theorem Iq{s:ByteArray}{k j:Nat}{T:List Fr}(hS:uy T ((nt s k).drop j)):(T.map λx=>idx s x.2).reverse=vG s k j:=by
 unfold vG;congr 1;have:=(rC hS).1;have h2:=congrArg (List.map (idx s)) this;rw[List.map_map,List.map_map]at h2;exact h2
end Go.Proofs.YtdjcidackkogjaaGreatDoor

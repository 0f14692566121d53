/- What Name and Param of layer 4 (class) and the doc -/
import Derived.Test.YtkolpaonccmgiaaGreatDoorMdM
namespace Go.Proofs.YtkolpaonccmgiaaGreatDoor
set_option linter.unusedVariables false
open Go.Proofs.Tryz
open Lib(hid)
set_option maxHeartbeats 8000000
set_option maxRecDepth 100000
open Go.RowKit
theorem zku(c:Nat)(hc:c<256)(w:World):
  Calls prog 257 #[.int .u8 c] w λe w'=>e=.returned (.bool (QF c))/\w'=w:=by
 have H1:=hid (IX c);go_enter func257,ntmps257
 go_wp2_with (go_at_call 78;refine(lg _ _ hc _).mono ?_;rintro e w' ⟨⟨x,rfl,hx⟩,rfl⟩;have HX:=hid hx;clear hx)
 go_ret;exact⟨uV (by rw[HX.out,H1.out]),rfl⟩
theorem Fh(c i:Nat)(w:World):
  Calls prog 209 #[.int .i64 c,.int .i64 i] w λe w'=>e=.returned (.bool (uo c i))/\w'=w:=by
 by_cases h5:c=5
 ·subst h5
  go_enter func209,ntmps209;go_wp2;go_ret;exact⟨uV (by simp[uo]),rfl⟩
 ·by_cases h6:c=6
  ·subst h6
   by_cases h0:i=0
   ·subst h0
    go_enter func209,ntmps209;go_wp2;go_ret;exact⟨uV (by simp[uo]),rfl⟩
   ·have h1:decide (0<i)=true:=by simp;omega
    have h2:decide ((0:Int)<i)=true:=by simp;omega
    go_enter func209,ntmps209;go_wp2;go_ret;exact⟨uV (by unfold uo;symm;rw[decide_eq_true_iff];omega),rfl⟩
  ·have h1:((c:Int)==5)=false:=by simp;omega
   have h2:((c:Int)==6)=false:=by simp;omega
   go_enter func209,ntmps209;go_wp2;go_ret;refine⟨uV ?_,rfl⟩;unfold uo;symm;rw[decide_eq_false_iff_not];omega
theorem Fj(c i:Nat)(b:Bool)(h:uo c i=b)(w:World):
  Calls prog 209 #[.int .i64 c,.int .i64 i] w λe w'=>e=.returned (.bool b)/\w'=w:=by
 rw[←h];exact Fh c i w
def og(q:Nat->Bool)(z:Nat)(w:World)(v:Value)(wr:World):Prop:=∃k:Nat,k<=z/\v=.int .i64 k/\(∀i,i<k->q i=true)/\wr=w
theorem oh(s:ByteArray)(a:Int)(fv:Value)(w:World)(hs:s.size<=1000000)(h:a<0\/(s.size:Int)<=a):
  Calls prog 208 #[.string s,.int .i64 a,fv] w λe w'=>e=.returned (.int .i64 0)/\w'=w:=by
 by_cases g:a<0
 ·have hd:decide (a<0)=true:=by simpa using g
  clear h;go_enter func208,ntmps208;go_wp2
  go_step3
  go_wp2;rw[Exit.noGoto_ret];go_ret;exact⟨rfl,rfl⟩
 ·have h2:(s.size:Int)<=a:=by omega
  have hd:decide (a<0)=false:=by simpa using g
  have hd2:decide ((s.size:Int)<=a)=true:=by simpa using h2
  clear h;go_enter func208,ntmps208;go_wp2
  go_step3
  go_wp2;rw[Exit.noGoto_ret];go_ret;exact⟨rfl,rfl⟩
theorem Fp(s:ByteArray)(a:Nat)(w:World)(hs:s.size<=1000000)(h:a<s.size):
  Calls prog 208 #[.string s,.int .i64 a,.func (.func 209) #[] #[]] w λe w'=>e=.returned (.int .i64 (uq s a:Nat))/\w'=w:=by
 have hi:(a:Int)<s.size:=by omega
 have hi2:(a:Int)<=s.size:=by omega
 have hd:decide ((a:Int)<0)=false:=by simp
 have hd2:decide (s.size<=a)=false:=by simp;omega
 go_enter func208,ntmps208;go_wp2
 go_step3
 go_wp2
 go_step3
 go_wp2
 go_loopw [8] (λv wr=>og (λi=>uo (cl s (a+i)) i) (s.size-a) w v wr) (λv _=>s.size-a-(intOf v).toNat)
 case atStart=>exact⟨0,Nat.zero_le _,rfl,λi h=>by omega,rfl⟩
 case round=>
  obtain⟨k,hk,rfl,hq,rfl⟩:=hrel;have HQ:=hid hq;clear hq;by_cases hlt:a+k<s.size
  ·have hx:(k:Int)<(s.size:Int)-a:=by omega
   have hx1:k<s.size-a:=by omega
   have hx2:(k:Int)<(s.extract a s.size).size:=by simp;omega
   have hx3:k<(s.extract a s.size).size:=by simp;omega
   have e1:(bt (s.extract a s.size) k)=bt s (a+k):=VC s a s.size k (Nat.le_refl _) (by omega);rw[zT hx3]at e1;have e2:cls (s.extract a s.size)[k].toNat=cl s (a+k):=by rw[e1];rfl
   have E2:=hid e2;clear e1 e2;obtain⟨y,hy⟩:∃y,(uo (cl s (a+k)) k)=y:=⟨_,rfl⟩;have HY:=hid hy;clear hy;cases y
   all_goals
    go_wp2_with fail
    refine(Xp _ _).mono ?_;rintro e w' ⟨rfl,rfl⟩;rw[E2.out]
    go_wp2_with fail
    refine(Fj _ _ _ HY.out _).mono ?_;rintro e w' ⟨rfl,rfl⟩;go_wp2
   ·rw[Exit.noGoto_ret]
    go_ret;refine⟨qc ?_,rfl⟩;rw[show uq s a=k from Xq _ hk HQ.out (λ_=>HY.out)]
   ·go_roundw
    case rel=>
     refine⟨k+1,by omega,by go_num,λi hi=>?_,rfl⟩;by_cases g:i=k
     ·rw[g];exact HY.out
     ·exact HQ.out i (by omega)
    case measure=>simp[intOf];omega
  ·have hz:k=s.size-a:=by omega
   have HZ:=hid hz;clear hz;go_wp2;go_ret;refine⟨qc ?_,rfl⟩;rw[show uq s a=k from Xq _ hk HQ.out (λg=>absurd HZ.out (Nat.ne_of_lt g))]
def ql(s:ByteArray)(a:Int)(f:Nat->Nat):Int:=if 0<=a/\a<s.size then(f a.toNat:Nat)else 0
theorem WI(s:ByteArray)(a:Int)(w:World)(hs:s.size<=1000000):
  Calls prog 182 #[.string s,.int .i64 a] w λe w'=>e=.returned (.int .i64 (ql s a (uq s)))/\w'=w:=by
 unfold ql;by_cases h:0<=a/\a<s.size
 ·rw[if_pos h]
  obtain⟨k,rfl⟩:=Int.eq_ofNat_of_zero_le h.1;have hk:k<s.size:=by omega
  clear h;go_enter func182,ntmps182
  go_wp2_with fail
  refine(Fp s k _ hs hk).mono ?_;rintro e w' ⟨rfl,rfl⟩;go_wp2;go_ret;exact⟨rfl,rfl⟩
 ·rw[if_neg h]
  have h':a<0\/(s.size:Int)<=a:=by omega
  have H:=hid h';clear h h';go_enter func182,ntmps182
  go_wp2_with fail
  refine(oh s a _ _ hs H.out).mono ?_;rintro e w' ⟨rfl,rfl⟩;go_wp2;go_ret;exact⟨rfl,rfl⟩
theorem Tn{s:ByteArray}{k:Nat}(h:k<s.size):cls s[k].toNat=cl s k:=by unfold cl;rw[zT h]
theorem zbQ(s:ByteArray)(k:Nat)(h:k<s.size):s[k].toNat<256:=s[k].toNat_lt
theorem Fq(s:ByteArray)(k:Nat)(h:k<s.size)(c:Nat)(e:cl s k=c)(w:World):
  Calls prog 231 #[.int .u8 s[k].toNat] w λe w'=>e=.returned (.int .i64 c)/\w'=w:=by
 rw[←e,←Tn h];exact Xp _ _
theorem YU(s:ByteArray)(k:Nat)(h:k<s.size)(c:Nat)(e:cl s k=c)(w:World):
  Calls prog 89 #[.int .u8 s[k].toNat] w λe w'=>e=.returned (.int .i64 c)/\w'=w:=by
 rw[←e,←Tn h];exact lS _ _
def Fv(s:ByteArray)(w:World)(v:Value)(wr:World):Prop:=∃k:Nat,1<=k/\k<=s.size/\v=.int .i64 k/\(∀i,i<k->uo (cl s i) i=true)/\wr=w
theorem NK(s:ByteArray)(w:World)(hs:s.size<=1000000):
  Calls prog 62 #[.string s] w λe w'=>e=.returned (.bool (ui s))/\w'=w:=by
 by_cases h0:s.size=0
 ·have hz:((s.size:Int)==0)=true:=beq_iff_eq.2 (by omega)
  have hz2:(s.size==0)=true:=beq_iff_eq.2 h0;have H0:=hid h0;clear h0;go_enter func62,ntmps62;go_wp2;go_ret;exact⟨uV (by unfold ui;symm;rw[decide_eq_false_iff_not];exact λh=>h.1 H0.out),rfl⟩
 ·have hp:0<s.size:=by omega
  have hp2:(0:Int)<s.size:=by omega
  have hz:((s.size:Int)==0)=false:=beq_eq_false_iff_ne.2 (by omega);have hz2:(s.size==0)=false:=beq_eq_false_iff_ne.2 h0;obtain⟨c,hc⟩:∃c,cl s 0=c:=⟨_,rfl⟩;have HC:=hid hc;by_cases h5:c=5
  ·subst h5
   clear hc h0;go_enter func62,ntmps62
   go_wp2_with fail
   refine(YU s 0 hp 5 HC.out _).mono ?_;rintro e w' ⟨rfl,rfl⟩;go_wp2
   go_loopw [3] (λv wr=>Fv s w' v wr) (λv _=>s.size-(intOf v).toNat)
   case atStart=>exact⟨1,Nat.le_refl _,hp,rfl,λi h=>by obtain rfl:i=0:=(by omega);rw[HC.out];rfl,rfl⟩
   case round=>
    obtain⟨k,hk1,hk,rfl,hn,rfl⟩:=hrel;have HN:=hid hn;clear hn;by_cases hlt:(k:Int)<s.size
    ·have hlt':k<s.size:=by omega
     obtain⟨d,hd⟩:∃d,cl s k=d:=⟨_,rfl⟩;have HD:=hid hd;clear hd;by_cases g:d=5\/d=6
     ·rcases g with rfl|rfl
      ·go_wp2_with fail
       refine(YU s k hlt' 5 HD.out _).mono ?_;rintro e w2 ⟨rfl,rfl⟩;go_wp2
       go_roundw
       case rel=>
        refine⟨k+1,by omega,by omega,by go_num,λi hi=>?_,rfl⟩;by_cases g:i=k
        ·rw[g,HD.out];rfl
        ·exact HN.out i (by omega)
       case measure=>simp[intOf];omega
      ·go_wp2_with fail
       refine(YU s k hlt' 6 HD.out _).mono ?_;rintro e w2 ⟨rfl,rfl⟩
       go_wp2_with fail
       refine(YU s k hlt' 6 HD.out _).mono ?_;rintro e w2 ⟨rfl,rfl⟩;go_wp2
       go_roundw
       case rel=>
        refine⟨k+1,by omega,by omega,by go_num,λi hi=>?_,rfl⟩;by_cases g:i=k
        ·rw[g,HD.out];unfold uo;rw[decide_eq_true_iff];omega
        ·exact HN.out i (by omega)
       case measure=>simp[intOf];omega
     ·have g5:((d:Int)==5)=false:=by simp;omega
      have g6:((d:Int)==6)=false:=by simp;omega
      have n5:((d:Int)!=5)=true:=by simp;omega
      have n6:((d:Int)!=6)=true:=by simp;omega
      go_wp2_with fail
      refine(YU s k hlt' d HD.out _).mono ?_;rintro e w2 ⟨rfl,rfl⟩
      go_wp2_with fail
      refine(YU s k hlt' d HD.out _).mono ?_;rintro e w2 ⟨rfl,rfl⟩;go_wp2;go_ret;refine⟨uV ?_,rfl⟩;unfold ui;symm;rw[decide_eq_false_iff_not];rintro⟨_,h2⟩;have:=h2 k hlt';rw[HD.out]at this;unfold uo at this;rw[decide_eq_true_iff]at this;omega
    ·obtain rfl:k=s.size:=by omega
     go_wp2;go_ret;refine⟨uV ?_,rfl⟩;unfold ui;symm;rw[decide_eq_true_iff];exact⟨by omega,HN.out⟩
  ·have g5:((c:Int)==5)=false:=by simp;omega
   have n5:((c:Int)!=5)=true:=by simp;omega
   clear hc h0;go_enter func62,ntmps62
   go_wp2_with fail
   refine(YU s 0 hp c HC.out _).mono ?_;rintro e w' ⟨rfl,rfl⟩;go_wp2;go_ret;refine⟨uV ?_,rfl⟩;unfold ui;symm;rw[decide_eq_false_iff_not];rintro⟨_,h2⟩;have:=h2 0 hp;rw[HC.out]at this;unfold uo at this;rw[decide_eq_true_iff]at this;omega
theorem oq(s:ByteArray)(w:World)(hs:s.size<=1000000)(b:Bool)(h:ui s=b):
  Calls prog 62 #[.string s] w λe w'=>e=.returned (.bool b)/\w'=w:=by
 rw[←h];exact NK s w hs
def zkv(f:Nat->Nat)(z:Nat)(w:World)(v5 v6:Value)(wr:World):Prop:=∃k m:Nat,1<=k/\k<=z+1/\v6=.int .i64 k/\v5=.int .i64 m/\m=f (k-1)/\wr=w
theorem zbR(s:ByteArray)(a:Nat)(w:World)(hs:s.size<=1000000)(ha:a<=s.size):
  Calls prog 200 #[.string s,.int .i64 a] w λe w'=>e=.returned (.int .i64 (uq s a:Nat))/\w'=w:=by
 have ha2:(a:Int)<=s.size:=by omega
 go_enter func200,ntmps200;go_wp2
 go_loopw [5,6] (λv5 v6 wr=>zkv (mi s a) (s.size-a) w v5 v6 wr) (λ_ v6 _=>s.size+1-a-(intOf v6).toNat)
 case atStart=>exact⟨1,0,by omega,by omega,rfl,rfl,rfl,rfl⟩
 case round=>
  obtain⟨k,m,hk1,hk,rfl,rfl,hm,rfl⟩:=hrel;have hm2:m<=k:=by have:=zdR s a (k-1);omega
  have HM:=hid hm;clear hm;by_cases hlt:a+k<=s.size
  ·have h1:(k:Int)<=(s.size:Int)-a:=by omega
   have h2:(a:Int)+k<=s.size:=by omega
   have hz:(s.extract a (a+k)).size<=1000000:=by simp;omega
   obtain⟨b,hb⟩:∃b,ui (s.extract a (a+k))=b:=⟨_,rfl⟩;have HB:=hid hb;clear hb;cases b
   all_goals
    go_wp2_with fail
    refine(oq _ _ hz _ HB.out).mono ?_;rintro e w2 ⟨rfl,rfl⟩;go_wp2
    go_roundw
    case measure=>simp[intOf];omega
   ·refine⟨k+1,m,by omega,by omega,by go_num,rfl,?_,rfl⟩
    obtain⟨j,rfl⟩:∃j,k=j+1:=⟨k-1,by omega⟩;rw[HM.out];exact(zdQ (by omega) HB.out).symm
   ·refine⟨k+1,k,by omega,by omega,by go_num,rfl,?_,rfl⟩
    obtain⟨j,rfl⟩:∃j,k=j+1:=⟨k-1,by omega⟩;exact(zdP (by omega) HB.out).symm
  ·have h1:¬(k:Int)<=(s.size:Int)-a:=by omega
   have hz:k=s.size-a+1:=by omega
   have HZ:=hid hz;clear hz;go_wp2;go_ret;exact⟨qc (by rw[HM.out,HZ.out];rfl),rfl⟩
theorem zkw(s:ByteArray)(k:Nat)(h:k<s.size)(b:Bool)(e:QF (bt s k).toNat=b)(w:World):
  Calls prog 257 #[.int .u8 s[k].toNat] w λe w'=>e=.returned (.bool b)/\w'=w:=by
 rw[←e,zT h];exact zku _ (zbQ s k h) _
theorem zkx(s:ByteArray)(k:Nat)(h:k<s.size)(b:Bool)(e:QF (bt s k).toNat=b)(w:World):
  Calls prog 54 #[.int .u8 s[k].toNat,.string ⟨#[64,42,35,63,45,36,33]⟩] w λe w'=>e=.returned (.bool b)/\w'=w:=by
 rw[←e,zT h,←IX];exact Rx _ _ _ (by decide)
theorem zky(s:ByteArray)(a:Int)(w:World)(hs:s.size<=1000000):
  Calls prog 248 #[.string s,.int .i64 a] w λe w'=>e=.returned (.int .i64 (ql s a (uF s)))/\w'=w:=by
 by_cases h:0<=a/\a<s.size
 ·obtain⟨k,rfl⟩:=Int.eq_ofNat_of_zero_le h.1
  have hk:k<s.size:=by omega
  have hk2:(k:Int)<s.size:=h.2;have hv:ql s k (uq s)=(uq s k:Nat):=by unfold ql;rw[if_pos h];rfl
  have hp:ql s k (uF s)=(uF s k:Nat):=by unfold ql;rw[if_pos h];rfl
  rw[hp];have hd:decide ((k:Int)<0)=false:=by simp
  have hd2:decide (s.size<=k)=false:=by simp;omega
  obtain⟨m,hm⟩:∃m,uq s k=m:=⟨_,rfl⟩;rw[hm]at hv;unfold uF;rw[hm];have HV:=hid hv;have HM:=hid hm;clear h hv hp hm;by_cases h0:0<m
  ·rw[if_pos h0]
   have h0':(0:Int)<m:=by omega
   go_enter func248,ntmps248
   go_wp2_with fail
   refine(WI s k _ hs).mono ?_;rintro e w' ⟨rfl,rfl⟩;rw[HV.out];go_wp2;go_ret;exact⟨rfl,rfl⟩
  ·obtain rfl:m=0:=by omega
   rw[if_neg h0];clear h0;obtain⟨x,hx⟩:∃x,cl s k=x:=⟨_,rfl⟩;obtain⟨b,hb⟩:∃b,QF (bt s k).toNat=b:=⟨_,rfl⟩;rw[hx,hb];obtain⟨r,hr⟩:∃r,(if k<s.size/\(x=6\/b=true)then 1 else 0)=r:=⟨_,rfl⟩;rw[hr];have HX:=hid hx;have HB:=hid hb;have HR:=hid hr;clear hx hb hr;by_cases h6:x=6
   ·subst h6
    go_enter func248,ntmps248
    go_wp2_with fail
    refine(WI s k _ hs).mono ?_;rintro e w' ⟨rfl,rfl⟩;rw[HV.out]
    go_wp2_with fail
    refine(Fq s k hk 6 HX.out _).mono ?_;rintro e w' ⟨rfl,rfl⟩;go_wp2;go_ret;exact⟨qc (by have:=HR.out;rw[if_pos ⟨hk,by simp⟩]at this;omega),rfl⟩
   ·have g6:((x:Int)==6)=false:=beq_eq_false_iff_ne.2 (by omega)
    cases b
    all_goals
     go_enter func248,ntmps248
     go_wp2_with fail
     refine(WI s k _ hs).mono ?_;rintro e w' ⟨rfl,rfl⟩;rw[HV.out]
     go_wp2_with fail
     refine(Fq s k hk x HX.out _).mono ?_;rintro e w' ⟨rfl,rfl⟩
     go_wp2_with fail
     refine(zkw s k hk _ HB.out _).mono ?_;rintro e w' ⟨rfl,rfl⟩;go_wp2;go_ret
    ·exact⟨qc (by have:=HR.out;rw[if_neg (λh=>by rcases h.2 with h|h;exact h6 h;cases h)]at this;omega),rfl⟩
    ·exact⟨qc (by have:=HR.out;rw[if_pos ⟨hk,by simp⟩]at this;omega),rfl⟩
 ·have hv:ql s a (uq s)=0:=by unfold ql;rw[if_neg h]
  have hp:ql s a (uF s)=0:=by unfold ql;rw[if_neg h]
  rw[hp];have HV:=hid hv;clear hv hp;by_cases g:a<0
  ·have hd:decide (a<0)=true:=by simpa using g
   clear h;go_enter func248,ntmps248
   go_wp2_with fail
   refine(WI s a _ hs).mono ?_;rintro e w' ⟨rfl,rfl⟩;rw[HV.out];go_wp2;go_ret;exact⟨rfl,rfl⟩
  ·have h2:(s.size:Int)<=a:=by omega
   have hd:decide (a<0)=false:=by simpa using g
   have hd2:decide ((s.size:Int)<=a)=true:=by simpa using h2
   clear h;go_enter func248,ntmps248
   go_wp2_with fail
   refine(WI s a _ hs).mono ?_;rintro e w' ⟨rfl,rfl⟩;rw[HV.out];go_wp2;go_ret;exact⟨rfl,rfl⟩
theorem zkz(s:ByteArray)(k:Nat)(w:World)(hs:s.size<=1000000)(hk:k<s.size):
  Calls prog 174 #[.string s,.int .i64 k] w λe w'=>e=.returned (.int .i64 (uF s k:Nat))/\w'=w:=by
 have hk2:(k:Int)<s.size:=by omega
 have hd2:decide (k<s.size)=true:=by simpa using hk
 have hn:=λw=>zbR s k w hs (by omega);obtain⟨m,hm⟩:∃m,uq s k=m:=⟨_,rfl⟩;rw[hm]at hn;unfold uF;rw[hm];have HN:=hid hn;have HM:=hid hm;clear hn hm;by_cases h0:0<m
 ·rw[if_pos h0]
  have g0:((m:Int)==0)=false:=beq_eq_false_iff_ne.2 (by omega);go_enter func174,ntmps174
  go_wp2_with fail
  refine(HN.out _).mono ?_;rintro e w' ⟨rfl,rfl⟩;go_wp2;go_ret;exact⟨rfl,rfl⟩
 ·obtain rfl:m=0:=by omega
  rw[if_neg h0];clear h0;obtain⟨x,hx⟩:∃x,cl s k=x:=⟨_,rfl⟩;obtain⟨b,hb⟩:∃b,QF (bt s k).toNat=b:=⟨_,rfl⟩;rw[hx,hb];obtain⟨r,hr⟩:∃r,(if k<s.size/\(x=6\/b=true)then 1 else 0)=r:=⟨_,rfl⟩;rw[hr];have HX:=hid hx;have HB:=hid hb;have HR:=hid hr;clear hx hb hr;by_cases h6:x=6
  ·subst h6
   go_enter func174,ntmps174
   go_wp2_with fail
   refine(HN.out _).mono ?_;rintro e w' ⟨rfl,rfl⟩
   go_wp2_with fail
   refine(YU s k hk 6 HX.out _).mono ?_;rintro e w' ⟨rfl,rfl⟩;go_wp2;go_ret;exact⟨qc (by have:=HR.out;rw[if_pos ⟨hk,by simp⟩]at this;omega),rfl⟩
  ·have g6:((x:Int)==6)=false:=beq_eq_false_iff_ne.2 (by omega)
   cases b
   all_goals
    go_enter func174,ntmps174
    go_wp2_with fail
    refine(HN.out _).mono ?_;rintro e w' ⟨rfl,rfl⟩
    go_wp2_with fail
    refine(YU s k hk x HX.out _).mono ?_;rintro e w' ⟨rfl,rfl⟩
    go_wp2_with fail
    refine(zkx s k hk _ HB.out _).mono ?_;rintro e w' ⟨rfl,rfl⟩;go_wp2;go_ret
   ·exact⟨qc (by have:=HR.out;rw[if_neg (λh=>by rcases h.2 with h|h;exact h6 h;cases h)]at this;omega),rfl⟩
   ·exact⟨qc (by have:=HR.out;rw[if_pos ⟨hk,by simp⟩]at this;omega),rfl⟩
open _root_.List renaming getElem?_eq_some_iff->wak
theorem zcr:∀{st:List Fr},good st->∀x∈st,x.1<=14
 | [],h,x,hx=>by simp at hx
 | [(m,f)],h,x,hx=>by
  simp at hx;subst hx;exact QT h
 |(m,f)::(m2,f2)::r,h,x,hx=>by
  rcases List.mem_cons.1 hx with rfl|hx
  ·exact QT h
  ·exact zcr (G8 h).2 x hx
def Zm:Nat->List Fr->Prop
 |_,[]=>False
 |_,[(m,f)]=>m=0/\f=0
 |k,(m,f)::y::r=>f<k/\Zm f (y::r)
theorem zcs:∀{st:List Fr} {k l:Nat},Zm k st->k<=l->Zm l st
 | [],_,_,h,_=>h
 | [(m,f)],_,_,h,_=>h
 |(m,f)::y::r,_,_,h,hl=>⟨Nat.lt_of_lt_of_le h.1 hl,h.2⟩
theorem zlw{k m f:Nat}{r:List Fr}(h:Zm k ((m,f)::r))(hr:r≠ []):Zm k r:=by
 cases r with
 |nil=>exact absurd rfl hr
 |cons y r=>exact zcs h.2 (Nat.le_of_lt h.1)
theorem zlx{k m f:Nat}{r:List Fr}(h:Zm k ((m,f)::r))(hr:r≠ [])(n:Nat):Zm k ((n,f)::r):=by
 cases r with
 |nil=>exact absurd rfl hr
 |cons y r=>exact h
theorem zly{k:Nat}{st:List Fr}(h:Zm k st)(n:Nat):Zm (k+1) ((n,k)::st):=by
 cases st with
 |nil=>exact absurd h (by simp[Zm])
 |cons y r=>exact⟨Nat.lt_succ_self _,h⟩
theorem bn(m b:Nat)(fresh:Bool):(mv m b fresh).1=.keep\/(∃n,(mv m b fresh).1=.push n/\(n=13\/n=4\/n=5\/n=6\/n=12\/n=14\/n=2\/n=10))\/(m≠0/\(mv m b fresh).1=.pop)\/(m=9/\(mv m b fresh).1=.turn 11):=by
 have ho:=bu b;obtain⟨v,hv⟩:∃v,mv m b fresh=v:=⟨_,rfl⟩;rw[hv];unfold mv at hv;by_cases hP:vV m=true
 ·rw[if_pos hP]at hv
  repeat' split at hv
  all_goals subst hv
  all_goals first
   |exact .inl rfl
   |exact .inr (.inl ⟨_,rfl,by omega⟩)
   |(refine .inr (.inl ⟨_,rfl,?_⟩);rename_i h;unfold opn;rcases h with rfl|rfl<;>simp)
   |exact .inr (.inr (.inl ⟨by assumption,rfl⟩))
 ·rw[if_neg hP]at hv
  have h0:m≠0:=by rintro rfl;exact hP rfl
  repeat' split at hv
  all_goals subst hv
  all_goals first
   |exact .inl rfl
   |exact .inr (.inr (.inl ⟨h0,rfl⟩))
   |exact .inr (.inl ⟨_,rfl,by omega⟩)
   |exact .inr (.inr (.inr ⟨by omega,rfl⟩))
theorem O9(m f:Nat)(r:List Fr)(fresh:Bool)(b p:Nat):
  (zF ((m,f)::r) fresh b p).st=(m,f)::r\/(∃n,(zF ((m,f)::r) fresh b p).st=(n,p)::(m,f)::r/\(n=13\/n=4\/n=5\/n=6\/n=12\/n=14\/n=2\/n=10))\/(m≠0/\(zF ((m,f)::r) fresh b p).st=r)\/(m=9/\(zF ((m,f)::r) fresh b p).st=(11,f)::r):=by
 show(fin (mv m b fresh) ((m,f)::r) p).st=_\/_;unfold zF fin;simp only;rcases bn m b fresh with h|⟨n,h,hn⟩|⟨h0,h⟩|⟨h0,h⟩
 ·rw[h];exact .inl rfl
 ·rw[h];exact .inr (.inl ⟨n,rfl,hn⟩)
 ·rw[h];exact .inr (.inr (.inl ⟨h0,rfl⟩))
 ·rw[h];exact .inr (.inr (.inr ⟨h0,rfl⟩))
def Yy(m n:Nat):Prop:=(m=12/\(n=3\/n=7\/n=8))\/(m=3/\(n=9\/n=1))\/(m=9/\n=11)\/(m=11/\n=9)
def rU(n:Nat):Prop:=n=13\/n=4\/n=5\/n=6\/n=12\/n=14\/n=2\/n=10
def jR(T D:List Fr):Prop:=T=D\/∃m n f r,D=(m,f)::r/\T=(n,f)::r/\Yy m n
def Tr(p:Nat)(D N:List Fr):Prop:=
 ∃j T,j<=D.length/\jR T (D.drop j)/\(N=T\/∃n,N=(n,p)::T/\rU n/\(j=0\/(j=1/\top D=12)))
theorem zct(x:Ms)(hI:Inv x)(b p:Nat):∃j T m f r,x.st.drop j=(m,f)::r/\(T=(m,f)::r\/∃n,T=(n,f)::r/\Yy m n)/\((y7 x b p).st=T\/∃n,(y7 x b p).st=(n,p)::T/\rU n/\(j=0\/(j=1/\top x.st=12)))/\(x.st=[(0,0)]->True):=by
 obtain⟨st,fresh⟩:=x;have hg:=hI.good
 cases st with
 |nil=>exact absurd hg (by simp[good])
 |cons a r=>
  obtain⟨m,f⟩:=a;simp only at hg;have pl:∀(j m1 f1:Nat) (r1:List Fr) (m0:Nat),((m,f)::r).drop j=(m0,f1)::r1->(m0=m1\/Yy m0 m1)->(m1=9->m0=9\/m0=11)->(j=0\/(j=1/\m=12))->good ((m1,f1)::r1)->m1<=14->
    ∃j T m' f' r',((m,f)::r).drop j=(m',f')::r'/\(T=(m',f')::r'\/∃n,T=(n,f')::r'/\Yy m' n)/\((zF ((m1,f1)::r1) fresh b p).st=T\/∃n,(zF ((m1,f1)::r1) fresh b p).st=(n,p)::T/\rU n/\(j=0\/(j=1/\m=12)))/\(((m,f)::r)=[(0,0)]->True):=by
   intro j m1 f1 r1 m0 hd ht h9 hj hg1 hle;rcases O9 m1 f1 r1 fresh b p with h|⟨n,h,hn⟩|⟨h0,h⟩|⟨h0,h⟩
   ·refine⟨j,(m1,f1)::r1,m0,f1,r1,hd,?_,.inl h,λ_=>trivial⟩
    rcases ht with rfl|ht
    ·exact .inl rfl
    ·exact .inr ⟨m1,rfl,ht⟩
   ·refine⟨j,(m1,f1)::r1,m0,f1,r1,hd,?_,.inr ⟨n,h,hn,hj⟩,λ_=>trivial⟩
    rcases ht with rfl|ht
    ·exact .inl rfl
    ·exact .inr ⟨m1,rfl,ht⟩
   ·obtain⟨m2,f2,r2,rfl,h1,h2⟩:=Ve hg1 h0
    refine⟨j+1,(m2,f2)::r2,m2,f2,r2,?_,.inl rfl,.inl h,λ_=>trivial⟩;rw[←List.drop_drop,hd];rfl
   ·subst h0
    refine⟨j,(11,f1)::r1,m0,f1,r1,hd,?_,.inl h,λ_=>trivial⟩;rcases h9 rfl with rfl|rfl
    ·exact .inr ⟨11,rfl,.inr (.inr (.inl ⟨rfl,rfl⟩))⟩
    ·exact .inl rfl
  have hle:=QT hg;unfold y7;simp only;by_cases h12:m=12
  ·rw[if_pos h12]
   split
   ·exact⟨0,(3,f)::r,m,f,r,rfl,.inr ⟨3,rfl,.inl ⟨h12,.inl rfl⟩⟩,.inl rfl,λ_=>trivial⟩
   split
   ·refine⟨0,(ZK (top r),f)::r,m,f,r,rfl,.inr ⟨_,rfl,.inl ⟨h12,?_⟩⟩,.inl rfl,λ_=>trivial⟩
    unfold ZK;split
    ·exact .inr (.inr rfl)
    ·exact .inr (.inl rfl)
   obtain⟨m2,f2,r2,rfl,h1,h2⟩:=Ve hg (by omega);split
   ·exact⟨1,(m2,f2)::r2,m2,f2,r2,rfl,.inl rfl,.inl rfl,λ_=>trivial⟩
   ·exact pl 1 m2 f2 r2 m2 rfl (.inl rfl) (λh=> .inl h) (.inr ⟨rfl,h12⟩) h2 (QT h2)
  rw[if_neg h12];by_cases h3:m=3
  ·rw[if_pos h3]
   split
   ·exact⟨0,(9,f)::r,m,f,r,rfl,.inr ⟨9,rfl,.inr (.inl ⟨h3,.inl rfl⟩)⟩,.inl rfl,λ_=>trivial⟩
   ·exact pl 0 1 f r m rfl (.inr (.inr (.inl ⟨h3,.inr rfl⟩))) (λh=>by omega) (.inl rfl) (QW hg (by omega) 1 (by decide) f) (by omega)
  rw[if_neg h3];by_cases h11:m=11
  ·rw[if_pos h11]
   split
   ·obtain⟨m2,f2,r2,rfl,h1,h2⟩:=Ve hg (by omega)
    exact⟨1,(m2,f2)::r2,m2,f2,r2,rfl,.inl rfl,.inl rfl,λ_=>trivial⟩
   ·exact pl 0 9 f r m rfl (.inr (.inr (.inr (.inr ⟨h11,rfl⟩)))) (λh=> .inr h11) (.inl rfl) (QW hg (by omega) 9 (by decide) f) (by omega)
  rw[if_neg h11];exact pl 0 m f r m rfl (.inl rfl) (λh=> .inl h) (.inl rfl) hg hle
theorem bg{m n:Nat}(h:Yy m n):m≠0:=by unfold Yy at h;omega
theorem zlz(x:Ms)(hI:Inv x)(b p:Nat)(h:Zm p x.st):Zm (p+1) (y7 x b p).st:=by
 obtain⟨j,T,m,f,r,hd,hT,hN,_⟩:=zct x hI b p;have drp:∀(j:Nat) (st:List Fr),Zm p st->st.drop j≠ []->Zm p (st.drop j):=by
  intro j
  induction j with
  |zero=>intro st h _;exact h
  |succ j ih=>
   intro st h hn
   cases st with
   |nil=>exact absurd rfl hn
   |cons a st=>
    rw[List.drop_succ_cons]at hn ⊢;refine ih st (zlw h ?_) hn;rintro rfl;simp at hn
 have hD:Zm p ((m,f)::r):=by
  have:=drp j x.st h (by rw[hd];simp)
  rwa [hd]at this
 have hDT:Zm p T:=by
  rcases hT with rfl|⟨n,rfl,ht⟩
  ·exact hD
  ·refine zlx hD ?_ n
   rintro rfl;have:=bg ht;exact this hD.1
 rcases hN with hN|⟨n,hN,_⟩
 ·rw[hN];exact zcs hDT (Nat.le_succ _)
 ·rw[hN];exact zly hDT n
theorem MF(s:ByteArray):∀k,Zm k (zU s k).st
 |0=>⟨rfl,rfl⟩
 |k+1=>by
  rw[Jv];exact zlz _ (Yz s k) _ _ (MF s k)
def nt(s:ByteArray)(k:Nat):List Fr:=(zU s k).st.dropLast
theorem zcu:∀{st:List Fr} {k:Nat},Zm k st->st=st.dropLast++ [(0,0)]
 | [],_,h=>absurd h (by simp[Zm])
 | [(m,f)],_,h=>by obtain⟨rfl,rfl⟩:=h;rfl
 |(m,f)::y::r,k,h=>by
  have:=zcu h.2;rw[List.dropLast_cons_of_ne_nil (by simp),List.cons_append,←this]
theorem kU(s:ByteArray)(k:Nat):(zU s k).st=nt s k++ [(0,0)]:=zcu (MF s k)
theorem H7:∀{D:List Fr} {k:Nat},Zm k (D++ [(0,0)])->(∀x∈D,x.2<k)/\D.Pairwise (λa b=>b.2<a.2)
 | [],_,_=>⟨by simp,List.Pairwise.nil⟩
 |(m,f)::D,k,h=>by
  have h2:f<k/\Zm f (D++ [(0,0)]):=by
   cases D with
   |nil=>exact h
   |cons y D=>exact h
  obtain⟨h3,h4⟩:=H7 h2.2;refine⟨λx hx=>?_,List.Pairwise.cons (λx hx=>h3 x hx) h4⟩;rcases List.mem_cons.1 hx with rfl|hx
  ·exact h2.1
  ·exact Nat.lt_trans (h3 x hx) h2.1
theorem MI(s:ByteArray)(k:Nat){x:Fr}(h:x∈nt s k):x.2<k:=(H7 (by rw[←kU];exact MF s k)).1 x h
theorem Xv(s:ByteArray)(k:Nat):(nt s k).Pairwise (λa b=>b.2<a.2):=(H7 (by rw[←kU];exact MF s k)).2
theorem zlA(s:ByteArray)(k:Nat){x:Fr}(h:x∈nt s k):x.1<=14:=zcr (Yz s k).good x (by rw[kU];exact List.mem_append_left _ h)
theorem oI(s:ByteArray)(k:Nat):(nt s k).length<=k:=by
 have:=gQ s k;rw[kU]at this;simp at this;exact this
theorem oH(s:ByteArray)(k:Nat):Tr k (nt s k) (nt s (k+1)):=by
 obtain⟨j,T,m,f,r,hd,hT,hN,_⟩:=zct (zU s k) (Yz s k) (by8 s k) k;rw[←Jv,kU s (k+1)]at hN;have htop:top (nt s k++ [(0,0)])=top (nt s k):=by
  cases nt s k with
  |nil=>rfl
  |cons a D=>rfl
 rw[kU s k]at hd hN;rw[htop]at hN;have hj:j<=(nt s k).length:=by
  have:j<(nt s k++ [(0,0)]).length:=by
   apply Classical.byContradiction;intro g;rw[List.drop_eq_nil_of_le (by omega)]at hd;cases hd
  simp at this;omega
 rw[List.drop_append_of_le_length hj]at hd;have hT2:∃T2,T=T2++ [(0,0)]/\jR T2 ((nt s k).drop j):=by
  rcases hT with rfl|⟨n,rfl,ht⟩
  ·exact⟨_,hd.symm,.inl rfl⟩
  ·cases hD:(nt s k).drop j with
   |nil=>
    rw[hD]at hd;simp at hd;exact absurd hd.1.1.symm (bg ht)
   |cons a D=>
    rw[hD]at hd;simp at hd;obtain⟨rfl,rfl⟩:=hd;exact⟨(n,f)::D,rfl,.inr ⟨m,n,f,D,rfl,rfl,ht⟩⟩
 obtain⟨T2,rfl,hS⟩:=hT2;refine⟨j,T2,hj,hS,?_⟩;rcases hN with hN|⟨n,hN,ho,hj2⟩
 ·exact .inl (List.append_cancel_right hN)
 ·refine .inr ⟨n,?_,ho,hj2⟩
  rw[←List.cons_append]at hN;exact List.append_cancel_right hN
def zN(s:ByteArray)(k f:Nat):Bool:=(nt s k).any λx=>x.2==f
theorem Zr{s:ByteArray}{k f:Nat}:zN s k f=true↔∃m,(m,f)∈nt s k:=by
 unfold zN;rw[List.any_eq_true];constructor
 ·rintro⟨⟨m,g⟩,hx,h⟩
  obtain rfl:g=f:=by simpa using h
  exact⟨m,hx⟩
 ·rintro⟨m,hx⟩
  exact⟨_,hx,by simp⟩
theorem kQ{s:ByteArray}{k f:Nat}(h:zN s k f=true):f<k:=by
 obtain⟨m,hm⟩:=Zr.1 h;exact MI s k hm
def md(s:ByteArray)(k f:Nat):Nat:=(((nt s k).find? λx=>x.2==f).map Prod.fst).getD 0
theorem DL:∀{D A R:List Fr} {m f:Nat},D.Pairwise (λa b=>b.2<a.2)->D=A++(m,f)::R->D.find? (λx=>x.2==f)=some (m,f)
 |_,[],R,m,f,hp,rfl=>by simp
 |_,a::A,R,m,f,hp,rfl=>by
  have hp':=hp;rw[List.cons_append,List.pairwise_cons]at hp';have hlt:f<a.2:=hp'.1 (m,f) (by simp);rw[List.cons_append,List.find?_cons_of_neg (by simp;omega)];exact DL hp'.2 rfl
theorem Xu{s:ByteArray}{k m f:Nat}{A R:List Fr}(h:nt s k=A++(m,f)::R):md s k f=m:=by
 unfold md;rw[DL (Xv s k) h];rfl
theorem RS{s:ByteArray}{k f:Nat}(h:zN s k f=true):∃A R,nt s k=A++(md s k f,f)::R:=by
 obtain⟨m,hm⟩:=Zr.1 h;obtain⟨A,R,hA⟩:=List.append_of_mem hm;exact⟨A,R,by rw[Xu hA];exact hA⟩
theorem MG{s:ByteArray}{k m f:Nat}{A R:List Fr}(h:nt s k=A++(m,f)::R):zN s k f=true:=Zr.2 ⟨m,by rw[h];simp⟩
theorem oV(s:ByteArray)(k f:Nat):md s k f<=14:=by
 by_cases h:zN s k f=true
 ·obtain⟨A,R,hA⟩:=RS h
  exact zlA s k (x:=(md s k f,f)) (by rw[hA];simp)
 ·unfold md
  rw[List.find?_eq_none.2 (λx hx e=>h (Zr.2 ⟨x.1,by
   obtain rfl:x.2=f:=by simpa using e
   exact hx⟩))]
  simp
def xR(s:ByteArray)(f:Nat):List Fr:=(nt s (f+1)).tail
theorem Jt{s:ByteArray}{f:Nat}(h:zN s (f+1) f=true):nt s (f+1)=(md s (f+1) f,f)::xR s f:=by
 obtain⟨A,R,hA⟩:=RS h
 cases A with
 |nil=>unfold xR;rw[hA];rfl
 |cons a A=>
  have h1:=MI s (f+1) (x:=a) (by rw[hA];simp);have h2:=Xv s (f+1);rw[hA,List.cons_append,List.pairwise_cons]at h2;have h3:f<a.2:=h2.1 (md s (f+1) f,f) (by simp);omega
theorem Tv{T D:List Fr}(h:jR T D):T.map Prod.snd=D.map Prod.snd/\T.tail=D.tail:=by
 rcases h with rfl|⟨m,n,f,r,rfl,rfl,_⟩
 ·exact⟨rfl,rfl⟩
 ·exact⟨rfl,rfl⟩
theorem zcv{T D:List Fr}(h:jR T D){f:Nat}(hm:∃m,(m,f)∈T):∃m,(m,f)∈D:=by
 have:=(Tv h).1;obtain⟨m,hm⟩:=hm;have h2:f∈T.map Prod.snd:=List.mem_map.2 ⟨_,hm,rfl⟩;rw[this]at h2;obtain⟨x,hx,rfl⟩:=List.mem_map.1 h2;exact⟨x.1,hx⟩
theorem zlB{T D:List Fr}(h:jR T D){f:Nat}(hm:∃m,(m,f)∈D):∃m,(m,f)∈T:=by
 have:=(Tv h).1;obtain⟨m,hm⟩:=hm;have h2:f∈D.map Prod.snd:=List.mem_map.2 ⟨_,hm,rfl⟩;rw[←this]at h2;obtain⟨x,hx,rfl⟩:=List.mem_map.1 h2;exact⟨x.1,hx⟩
theorem WL{s:ByteArray}{k f:Nat}{j:Nat}{T:List Fr}(hS:jR T ((nt s k).drop j))(hN:nt s (k+1)=T\/∃n,nt s (k+1)=(n,k)::T)(hf:f<k):zN s (k+1) f=true↔∃m,(m,f)∈(nt s k).drop j:=by
 constructor
 ·intro h
  obtain⟨m,hm⟩:=Zr.1 h;refine zcv hS ⟨m,?_⟩;rcases hN with hN|⟨n,hN⟩
  ·rwa [hN]at hm
  ·rw[hN]at hm
   rcases List.mem_cons.1 hm with h|h
   ·simp at h;omega
   ·exact h
 ·intro h
  obtain⟨m,hm⟩:=zlB hS h;refine Zr.2 ⟨m,?_⟩;rcases hN with hN|⟨n,hN⟩
  ·rwa [hN]
  ·rw[hN];exact List.mem_cons_of_mem _ hm
theorem Tt{s:ByteArray}{k:Nat}{T:List Fr}{j:Nat}(h:nt s (k+1)=T\/∃n,nt s (k+1)=(n,k)::T/\rU n/\(j=0\/(j=1/\top (nt s k)=12))):nt s (k+1)=T\/∃n,nt s (k+1)=(n,k)::T:=
 h.imp id fun⟨n,h,_⟩=>⟨n,h⟩
theorem lF{s:ByteArray}{k f:Nat}(h:zN s (k+1) f=true)(hf:f<k):zN s k f=true:=by
 obtain⟨j,T,hj,hS,hN⟩:=oH s k;obtain⟨m,hm⟩:=(WL hS (Tt hN) hf).1 h;exact Zr.2 ⟨m,List.mem_of_mem_drop hm⟩
theorem zcw{D A R:List Fr}{m f j:Nat}(hp:D.Pairwise (λa b=>b.2<a.2))(h:D=A++(m,f)::R)(hm:∃n,(n,f)∈D.drop j):∃A2,D.drop j=A2++(m,f)::R:=by
 by_cases hj:j<=A.length
 ·exact⟨A.drop j,by rw[h,List.drop_append_of_le_length hj]⟩
 ·exfalso
  obtain⟨n,hn⟩:=hm;rw[h]at hp;have e:D.drop j=R.drop (j-(A.length+1)):=by
   rw[h,show j=A.length+((j-(A.length+1))+1) by omega,←List.drop_drop,List.drop_left,List.drop_succ_cons];congr 1;omega
  rw[e]at hn;have:=(List.pairwise_cons.1 (List.pairwise_append.1 hp).2.1).1 _ (List.mem_of_mem_drop hn);simp at this
theorem zlC{s:ByteArray}{k m f:Nat}{A R:List Fr}(h:nt s k=A++(m,f)::R)(hp:zN s (k+1) f=true)(hf:f<k):∃A2 n,nt s (k+1)=A2++(n,f)::R:=by
 obtain⟨j,T,hj,hS,hN⟩:=oH s k;obtain⟨A2,hA2⟩:=zcw (Xv s k) h ((WL hS (Tt hN) hf).1 hp);have hT:∃A3 n,T=A3++(n,f)::R:=by
  rcases hS with rfl|⟨m1,n1,f1,r1,hD,rfl,_⟩
  ·exact⟨A2,m,hA2⟩
  ·rw[hD]at hA2
   cases A2 with
   |nil=>
    simp at hA2;obtain⟨⟨rfl,rfl⟩,rfl⟩:=hA2;exact⟨[],n1,rfl⟩
   |cons a A2=>
    simp at hA2;obtain⟨rfl,rfl⟩:=hA2;exact⟨(n1,f1)::A2,m,rfl⟩
 obtain⟨A3,n,rfl⟩:=hT;rcases Tt hN with hN|⟨n2,hN⟩
 ·exact⟨A3,n,hN⟩
 ·exact⟨(n2,k)::A3,n,hN⟩
theorem gp{s:ByteArray}{f:Nat}:∀{k:Nat},zN s k f=true->(∃A,nt s k=A++(md s k f,f)::xR s f)/\∀j,f<j->j<=k->zN s j f=true
 |0,h=>absurd (kQ h) (by omega)
 |k+1,h=>by
  have hf:=kQ h;by_cases e:f=k
  ·subst e
   refine⟨⟨[],Jt h⟩,λj h1 h2=>?_⟩;obtain rfl:j=f+1:=by omega
   exact h
  ·obtain⟨⟨A,hA⟩,ha⟩:=gp (lF h (by omega))
   obtain⟨A2,n,hA2⟩:=zlC hA h (by omega);refine⟨⟨A2,by rw[Xu hA2];exact hA2⟩,λj h1 h2=>?_⟩;by_cases e2:j=k+1
   ·rw[e2];exact h
   ·exact ha j h1 (by omega)
def eK(s:ByteArray)(f k:Nat):Nat:=f+vU (λi=>zN s (f+1+i) f) (k-f)
theorem RP(s:ByteArray){f k:Nat}(h:f<=k):eK s f k<=k:=by
 have:=V5 (λi=>zN s (f+1+i) f) (k-f);unfold eK;omega
theorem G7{s:ByteArray}{f k j:Nat}(h1:f<j)(h2:j<=eK s f k):zN s j f=true:=by
 unfold eK at h2;have:=Jn (λi=>zN s (f+1+i) f) (z:=k-f) (i:=j-(f+1)) (by omega)
 rwa [show f+1+(j-(f+1))=j by omega]at this
theorem TE{s:ByteArray}{f k e:Nat}(h0:f<=e)(h1:e<=k)(hp:∀j,f<j->j<=e->zN s j f=true)(hs:e<k->zN s (e+1) f=false):eK s f k=e:=by
 unfold eK;rw[Xq (n:=e-f) _ (by omega) (λi hi=>hp _ (by omega) (by omega)) (λh=>by
  have:=hs (by omega)
  rwa [show f+1+(e-f)=e+1 by omega])]
 omega
theorem zcc{s:ByteArray}{f k:Nat}(h:zN s k f=true):eK s f k=k:=
 TE (Nat.le_of_lt (kQ h)) (Nat.le_refl _) (gp h).2 (λg=>absurd g (Nat.lt_irrefl _))
theorem ML{s:ByteArray}{f k:Nat}(hf:f<=k)(h:eK s f k<k):zN s (eK s f k+1) f=false:=by
 unfold eK at h ⊢;have:=QG (λi=>zN s (f+1+i) f) (z:=k-f) (by omega)
 rwa [show f+vU (λi=>zN s (f+1+i) f) (k-f)+1=f+1+vU (λi=>zN s (f+1+i) f) (k-f) by omega]
theorem FY{s:ByteArray}{f k:Nat}(hf:f<k)(h:zN s k f=false):eK s f k<k:=by
 have h1:=RP s (Nat.le_of_lt hf);have h2:=G7 (s:=s) (f:=f) (k:=k) (j:=k) hf;rcases Nat.lt_or_ge (eK s f k) k with g|g
 ·exact g
 ·rw[h2 g]at h;cases h
theorem zlD{s:ByteArray}{f k:Nat}(hf:f<k)(h:zN s k f=false):eK s f (k+1)=eK s f k:=by
 have h1:=FY hf h;exact TE (by unfold eK;omega) (by omega) (λj a b=>G7 a b) (λ_=>ML (Nat.le_of_lt hf) h1)
theorem zlE{s:ByteArray}{f k:Nat}(h:zN s k f=true)(h':zN s (k+1) f=false):eK s f (k+1)=k:=
 TE (Nat.le_of_lt (kQ h)) (Nat.le_succ _) (gp h).2 (λ_=>h')
structure zQ where
 mode:Nat
 zh:Nat
 to:Nat
 up:Int
 op:Bool
def cnt(m:Nat):Nat:=if m=3 then 1 else if m=11 then 9 else m
theorem Hz{m:Nat}(h:m<=14):cnt m<=14:=by unfold cnt;(repeat' split)<;>omega
theorem zlF{m:Nat}:cnt m=12↔m=12:=by unfold cnt;(repeat' split)<;>omega
theorem zlG{m:Nat}(h:rU m):cnt m=m:=by unfold rU at h;unfold cnt;(repeat' split)<;>omega
def born(s:ByteArray)(f:Nat):Bool:=zN s (f+1) f
def uG(s:ByteArray)(k:Nat):List Nat:=(List.range k).filter (born s)
theorem Hf(s:ByteArray)(k:Nat):uG s (k+1)=uG s k++if born s k=true then [k]else []:=by
 unfold uG;rw[List.range_succ,List.filter_append];congr 1;simp[List.filter_cons]
theorem oN{s:ByteArray}{k f:Nat}:f∈uG s k↔f<k/\born s f=true:=by
 unfold uG;rw[List.mem_filter,List.mem_range]
theorem zlH(s:ByteArray)(k:Nat):(uG s k).Pairwise (· < ·):=List.Pairwise.filter _ List.pairwise_lt_range
theorem oL(s:ByteArray)(k:Nat):(uG s k).length<=k:=by
 have:=List.length_filter_le (born s) (List.range k);rw[List.length_range]at this;exact this
def idx(s:ByteArray)(f:Nat):Nat:=(uG s f).length
theorem G9(s:ByteArray)(f:Nat)(hb:born s f=true):∀{k:Nat},f<k->(uG s k)[idx s f]?=some f
 |0,h=>by omega
 |k+1,h=>by
  rw[Hf];by_cases e:f=k
  ·subst e
   rw[if_pos hb];unfold idx;simp
  ·have h1:=G9 s f hb (k:=k) (by omega)
   have hl:idx s f<(uG s k).length:=(wak.1 h1).1;rw[List.getElem?_append_left hl];exact h1
theorem O7{s:ByteArray}{f k:Nat}(hb:born s f=true)(h:f<k):idx s f<(uG s k).length:=(wak.1 (G9 s f hb h)).1
theorem O6{s:ByteArray}{f g:Nat}(hb:born s f=true)(h:f<g):idx s f<idx s g:=O7 hb h
theorem SH{s:ByteArray}{k i f:Nat}(h:(uG s k)[i]?=some f):idx s f=i/\f<k/\born s f=true:=by
 obtain⟨hk,hb⟩:=oN.1 (List.mem_of_getElem? h);refine⟨?_,hk,hb⟩;have h2:=G9 s f hb hk;have hn:=List.pairwise_iff_getElem.1 (zlH s k);obtain⟨hi,h3⟩:=wak.1 h;obtain⟨hj,h4⟩:=wak.1 h2;apply Classical.byContradiction;intro g;rcases Nat.lt_or_ge (idx s f) i with g2|g2
 ·have:=hn _ _ hj hi g2
  omega
 ·have:=hn _ _ hi hj (by omega)
  omega
def Xk(s:ByteArray)(f:Nat):Int:=match xR s f with
 | []=> -1
 |x::_=>(idx s x.2:Nat)
def Xj(s:ByteArray)(to:Nat)(op:Bool)(p:zQ):zQ:=if p.mode=12 then {p with to:=p.zh+1+uF s (p.zh+1),op:=false} else {p with to:=to,op:=op}
def vN(s:ByteArray)(k f:Nat):zQ:=
 if eK s f k=k then⟨cnt (md s k f),f,0,Xk s f,false⟩else Xj s (eK s f k+1) false ⟨cnt (md s (eK s f k) f),f,0,Xk s f,false⟩
def prt(s:ByteArray)(f:Nat):zQ:=
 if eK s f s.size=s.size then Xj s s.size true (vN s s.size f)else vN s s.size f
def LK(s:ByteArray)(k:Nat):List zQ:=(uG s k).map (vN s k)
def PL(s:ByteArray):List zQ:=(uG s s.size).map (prt s)
theorem zci(s:ByteArray)(to:Nat)(op:Bool)(p:zQ):(Xj s to op p).zh=p.zh/\(Xj s to op p).mode=p.mode/\(Xj s to op p).up=p.up:=by
 unfold Xj;split<;>exact⟨rfl,rfl,rfl⟩
theorem DK{s:ByteArray}{k f:Nat}(h:zN s k f=true):vN s k f=⟨cnt (md s k f),f,0,Xk s f,false⟩:=by
 unfold vN;rw[if_pos (zcc h)]
theorem TA(s:ByteArray)(k f:Nat):(vN s k f).zh=f/\(vN s k f).up=Xk s f/\(vN s k f).mode<=14:=by
 unfold vN;split
 ·exact⟨rfl,rfl,Hz (oV _ _ _)⟩
 ·have h:=zci s (eK s f k+1) false ⟨cnt (md s (eK s f k) f),f,0,Xk s f,false⟩
  exact⟨h.1,h.2.2,by rw[h.2.1];exact Hz (oV _ _ _)⟩
theorem zcx{s:ByteArray}{k f:Nat}(h:zN s k f=true)(h':zN s (k+1) f=false):vN s (k+1) f=Xj s (k+1) false (vN s k f):=by
 rw[DK h];unfold vN;rw[zlE h h',if_neg (by omega)]
theorem zcy{s:ByteArray}{k f:Nat}(hf:f<k)(h:zN s k f=false):vN s (k+1) f=vN s k f:=by
 have h1:=FY hf h;unfold vN;rw[zlD hf h,if_neg (by omega),if_neg (by omega)]
theorem FX{g:Nat->zQ}{s:ByteArray}{k f:Nat}(hb:born s f=true)(hf:f<k)(v:zQ):((uG s k).map g).set (idx s f) v=(uG s k).map λx=>if x=f then v else g x:=by
 apply List.ext_getElem?;intro i;rw[List.getElem?_set];by_cases h:idx s f=i
 ·subst h
  rw[if_pos rfl,List.getElem?_map,G9 s f hb hf];have:=O7 hb hf;simp[this]
 ·rw[if_neg h,List.getElem?_map,List.getElem?_map]
  cases hx:(uG s k)[i]? with
  |none=>rfl
  |some x=>
   have hne:x≠f:=by
    rintro rfl;exact h (SH hx).1
   simp[hne]
theorem DF{s:ByteArray}{k f:Nat}(h:zN s k f=true):born s f=true:=(gp h).2 (f+1) (Nat.lt_succ_self _) (kQ h)
def Gi(s:ByteArray)(k i:Nat)(x:Nat):zQ:=if((nt s k).take i).any (λy=>y.2==x)=true then Xj s (k+1) false (vN s k x)else vN s k x
def Vt(s:ByteArray)(k i:Nat):List zQ:=(uG s k).map (Gi s k i)
def uU(s:ByteArray)(k i:Nat):List Nat:=(((nt s k).drop i).map λx=>idx s x.2).reverse
theorem zkO(s:ByteArray)(k:Nat):Vt s k 0=LK s k:=by
 unfold Vt LK;congr 1
theorem Tu(s:ByteArray)(k i:Nat):(uU s k i).length=(nt s k).length-i:=by unfold uU;simp
theorem zcb{s:ByteArray}{k i m f:Nat}{R:List Fr}(h:(nt s k).drop i=(m,f)::R):((nt s k).take i).any (λy=>y.2==f)=false:=by
 have hp:=Xv s k;rw[←List.take_append_drop i (nt s k),h]at hp;rw[Bool.eq_false_iff];intro g;obtain⟨y,hy,e⟩:=List.any_eq_true.1 g;have:=(List.pairwise_append.1 hp).2.2 y hy (m,f) (by simp);simp at e;simp at this;omega
theorem KE{s:ByteArray}{k i m f:Nat}{R:List Fr}(h:(nt s k).drop i=(m,f)::R):zN s k f=true/\md s k f=m/\i<(nt s k).length:=by
 have e:nt s k=(nt s k).take i++(m,f)::R:=by rw[←h,List.take_append_drop]
 refine⟨MG e,Xu e,?_⟩;apply Classical.byContradiction;intro g;rw[List.drop_eq_nil_of_le (by omega)]at h;cases h
theorem zb7{s:ByteArray}{k i m f:Nat}{R:List Fr}(h:(nt s k).drop i=(m,f)::R):(Vt s k i)[idx s f]?=some (vN s k f):=by
 obtain⟨hp,_,_⟩:=KE h;unfold Vt;rw[List.getElem?_map,G9 s f (DF hp) (kQ hp),Option.map_some];unfold Gi;rw[if_neg (by rw[zcb h];simp)]
theorem zkU{s:ByteArray}{k i m f:Nat}{R:List Fr}(h:(nt s k).drop i=(m,f)::R):(Vt s k i).set (idx s f) (Xj s (k+1) false (vN s k f))=Vt s k (i+1):=by
 obtain⟨hp,_,hi⟩:=KE h;unfold Vt;rw[FX (DF hp) (kQ hp)];apply List.map_congr_left;intro x _;have e:(nt s k).take (i+1)=(nt s k).take i++ [(m,f)]:=by
  rw[List.take_add_one];have:(nt s k)[i]?=some (m,f):=by
   have h2:=congrArg (λl=>l[0]?) h;simpa using h2
  rw[this];rfl
 unfold Gi;rw[e,List.any_append];by_cases g:x=f
 ·subst g
  simp
 ·rw[if_neg g]
  have:([(m,f)].any λy=>y.2==x)=false:=by simp;omega
  rw[this,Bool.or_false]
theorem FO{s:ByteArray}{k i m f:Nat}{R:List Fr}(h:(nt s k).drop i=(m,f)::R):uU s k i=uU s k (i+1)++ [idx s f]:=by
 unfold uU;rw[h,List.map_cons,List.reverse_cons];congr 2;have:(nt s k).drop (i+1)=R:=by rw[←List.drop_drop,h];rfl
 rw[this]
theorem zcz{s:ByteArray}{k f:Nat}(h:zN s (k+1) f=true)(hf:f<k):vN s (k+1) f={vN s k f with mode:=cnt (md s (k+1) f)}:=by
 rw[DK h,DK (lF h hf)]
theorem zkP{s:ByteArray}{k j:Nat}{T:List Fr}(hS:jR T ((nt s k).drop j))(hN:nt s (k+1)=T\/∃n,nt s (k+1)=(n,k)::T)(hD:(nt s k).drop j=[]):Vt s k j=(uG s k).map (vN s (k+1)):=by
 unfold Vt;apply List.map_congr_left;intro x hx;obtain⟨hlt,_⟩:=oN.1 hx;have h':zN s (k+1) x=false:=by
  rw[Bool.eq_false_iff];intro g;obtain⟨m,hm⟩:=(WL hS hN hlt).1 g;rw[hD]at hm;cases hm
 unfold Gi;by_cases h:zN s k x=true
 ·have:(nt s k).take j=nt s k:=List.take_of_length_le (by
   apply Classical.byContradiction;intro g;have:=congrArg List.length hD;simp at this;omega)
  have h3:(nt s k).any (λy=>y.2==x)=true:=h;rw[this,if_pos h3,zcx h h']
 ·have h2:zN s k x=false:=by simpa using h
  rw[if_neg,zcy hlt h2];intro g;obtain⟨y,hy,e⟩:=List.any_eq_true.1 g;exact h (List.any_eq_true.2 ⟨y,List.mem_of_mem_take hy,e⟩)
theorem zkQ{s:ByteArray}{k j m f:Nat}{R T:List Fr}(hS:jR T ((nt s k).drop j))(hN:nt s (k+1)=T\/∃n,nt s (k+1)=(n,k)::T)(hD:(nt s k).drop j=(m,f)::R):
  (Vt s k j).set (idx s f) {vN s k f with mode:=cnt (md s (k+1) f)}=(uG s k).map (vN s (k+1)):=by
 obtain⟨hp,hm,hj⟩:=KE hD;unfold Vt;rw[FX (DF hp) (kQ hp)];apply List.map_congr_left;intro x hx;obtain⟨hlt,_⟩:=oN.1 hx;by_cases g:x=f
 ·subst g
  rw[if_pos rfl,zcz ((WL hS hN hlt).2 ⟨m,by rw[hD];simp⟩) hlt]
 rw[if_neg g];unfold Gi;by_cases ht:((nt s k).take j).any (λy=>y.2==x)=true
 ·rw[if_pos ht]
  obtain⟨y,hy,e⟩:=List.any_eq_true.1 ht;have h:zN s k x=true:=List.any_eq_true.2 ⟨y,List.mem_of_mem_take hy,e⟩;have h':zN s (k+1) x=false:=by
   rw[Bool.eq_false_iff];intro g2;obtain⟨n,hn⟩:=(WL hS hN hlt).1 g2;have hpw:=Xv s k;rw[←List.take_append_drop j (nt s k)]at hpw;have:=(List.pairwise_append.1 hpw).2.2 y hy _ hn;simp at e this;omega
  rw[zcx h h']
 ·rw[if_neg ht]
  by_cases h:zN s k x=true
  ·
   have hR:∃n,(n,x)∈R:=by
    obtain⟨n,hn⟩:=Zr.1 h;rw[←List.take_append_drop j (nt s k),hD]at hn;rcases List.mem_append.1 hn with hn|hn
    ·exact absurd (List.any_eq_true.2 ⟨_,hn,by simp⟩) ht
    ·rcases List.mem_cons.1 hn with hn|hn
     ·simp at hn;exact absurd hn.2 g
     ·exact⟨n,hn⟩
   obtain⟨n,hn⟩:=hR;obtain⟨A,B,rfl⟩:=List.append_of_mem hn;have h1:md s k x=n:=Xu (A:=(nt s k).take j++(m,f)::A) (R:=B) (by rw[List.append_assoc,List.cons_append,←hD,List.take_append_drop]);have hT:T.tail=A++(n,x)::B:=by rw[(Tv hS).2,hD];rfl
   have hT2:∃a,T=a::(A++(n,x)::B):=by
    cases T with
    |nil=>simp at hT
    |cons a T=>exact⟨a,by rw[←hT];rfl⟩
   obtain⟨a,rfl⟩:=hT2;have h2:md s (k+1) x=n:=by
    rcases hN with hN|⟨n2,hN⟩
    ·exact Xu (A:=a::A) (R:=B) hN
    ·exact Xu (A:=(n2,k)::a::A) (R:=B) hN
   rw[zcz ((WL hS hN hlt).2 ⟨n,by rw[hD];simp⟩) hlt,h2,←h1,DK h]
  ·have h2:zN s k x=false:=by simpa using h
   rw[zcy hlt h2]
theorem oK(s:ByteArray)(k:Nat):LK s (k+1)=(uG s k).map (vN s (k+1))++if born s k=true then [vN s (k+1) k]else []:=by
 unfold LK;rw[Hf,List.map_append];congr 1;split<;>rfl
theorem zb5{s:ByteArray}{k:Nat}{T:List Fr}{j:Nat}(hS:jR T ((nt s k).drop j))(hN:nt s (k+1)=T):born s k=false:=by
 unfold born;rw[Bool.eq_false_iff];intro g;obtain⟨m,hm⟩:=Zr.1 g;rw[hN]at hm;obtain⟨m2,hm2⟩:=zcv hS ⟨m,hm⟩;have:=MI s k (List.mem_of_mem_drop hm2);simp at this
theorem zb6{s:ByteArray}{k n:Nat}{T:List Fr}(hN:nt s (k+1)=(n,k)::T)(ho:rU n):born s k=true/\vN s (k+1) k=⟨n,k,0,Xk s k,false⟩/\xR s k=T:=by
 have hp:zN s (k+1) k=true:=MG (A:=[]) hN;have hm:md s (k+1) k=n:=Xu (A:=[]) hN;refine⟨hp,?_,?_⟩
 ·rw[DK hp,hm,zlG ho]
 ·unfold xR
  rw[hN];rfl
theorem zb8{s:ByteArray}{k j:Nat}{T:List Fr}(hS:jR T ((nt s k).drop j)):(T.map λx=>idx s x.2).reverse=uU s k j:=by
 unfold uU;congr 1;have:=(Tv hS).1;have h2:=congrArg (List.map (idx s)) this;rw[List.map_map,List.map_map]at h2;exact h2
end Go.Proofs.YtkolpaonccmgiaaGreatDoor

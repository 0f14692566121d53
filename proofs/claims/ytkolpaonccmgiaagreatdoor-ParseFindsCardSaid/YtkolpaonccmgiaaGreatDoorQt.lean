/- What Name and Param of layer 4 (class) and the doc -/
import Derived.Test.YtkolpaonccmgiaaGreatDoorMdM
set_option linter.unusedVariables false
namespace Go.Proofs.YtkolpaonccmgiaaGreatDoor
set_option linter.unusedVariables false
open Go.RowKit
set_option maxHeartbeats 1000000 in
theorem special_any (c:Nat) (hc:c<256) (w:World):
  Calls Tryz.prog 257 #[.int .u8 c] w fun e w'=>e=.returned (.bool (specB c))∧w'=w:=by
 have H1:=Lib.hid (inB_spec c)
 go_enter Tryz.func257,Tryz.ntmps257
 go_wp2_with (go_at_call 78;refine(index_inB _ _ hc _).mono ?_;rintro e w' ⟨⟨x,rfl,hx⟩,rfl⟩;have HX:=Lib.hid hx;clear hx)
 go_ret
 exact⟨ret_bool (by rw [HX.out,H1.out]),rfl⟩
theorem may_any (c i:Nat) (w:World):
  Calls Tryz.prog 209 #[.int .i64 c,.int .i64 i] w fun e w'=>e=.returned (.bool (mayN c i))∧w'=w:=by
 by_cases h5:c=5
 ·subst h5
  go_enter Tryz.func209,Tryz.ntmps209
  go_wp2
  go_ret
  exact⟨ret_bool (by simp [mayN]),rfl⟩
 ·by_cases h6:c=6
  ·subst h6
   by_cases h0:i=0
   ·subst h0
    go_enter Tryz.func209,Tryz.ntmps209
    go_wp2
    go_ret
    exact⟨ret_bool (by simp [mayN]),rfl⟩
   ·have h1:decide (0<i)=true:=by simp;omega
    have h2:decide ((0:Int)<i)=true:=by simp;omega
    go_enter Tryz.func209,Tryz.ntmps209
    go_wp2
    go_ret
    exact⟨ret_bool (by unfold mayN;symm;rw [decide_eq_true_iff];omega),rfl⟩
  ·have h1:((c:Int)==5)=false:=by simp;omega
   have h2:((c:Int)==6)=false:=by simp;omega
   go_enter Tryz.func209,Tryz.ntmps209
   go_wp2
   go_ret
   refine⟨ret_bool ?_,rfl⟩
   unfold mayN
   symm
   rw [decide_eq_false_iff_not]
   omega
theorem may_eq (c i:Nat) (b:Bool) (h:mayN c i=b) (w:World):
  Calls Tryz.prog 209 #[.int .i64 c,.int .i64 i] w fun e w'=>e=.returned (.bool b)∧w'=w:=by
 rw [←h];exact may_any c i w
def MeRel (q:Nat→Bool) (z:Nat) (w:World) (v:Value) (wr:World):Prop:=∃k:Nat,k≤z∧v=.int .i64 k∧(∀i,i<k→q i=true)∧wr=w
set_option maxRecDepth 100000 in
set_option maxHeartbeats 1000000 in
theorem measure_out (s:ByteArray) (a:Int) (fv:Value) (w:World) (hs:s.size≤1000000) (h:a<0∨(s.size:Int)≤a):
  Calls Tryz.prog 208 #[.string s,.int .i64 a,fv] w fun e w'=>e=.returned (.int .i64 0)∧w'=w:=by
 by_cases g:a<0
 ·have hd:decide (a<0)=true:=by simpa using g
  clear h
  go_enter Tryz.func208,Tryz.ntmps208
  go_wp2
  go_step3
  go_wp2
  rw [Exit.noGoto_ret]
  go_ret
  exact⟨rfl,rfl⟩
 ·have h2:(s.size:Int)≤a:=by omega
  have hd:decide (a<0)=false:=by simpa using g
  have hd2:decide ((s.size:Int)≤a)=true:=by simpa using h2
  clear h
  go_enter Tryz.func208,Tryz.ntmps208
  go_wp2
  go_step3
  go_wp2
  rw [Exit.noGoto_ret]
  go_ret
  exact⟨rfl,rfl⟩
set_option maxRecDepth 100000 in
set_option maxHeartbeats 2000000 in
theorem measureN_any (s:ByteArray) (a:Nat) (w:World) (hs:s.size≤1000000) (h:a<s.size):
  Calls Tryz.prog 208 #[.string s,.int .i64 a,.func (.func 209) #[] #[]] w fun e w'=>e=.returned (.int .i64 (nameN s a:Nat))∧w'=w:=by
 have hi:(a:Int)<s.size:=by omega
 have hi2:(a:Int)≤s.size:=by omega
 have hd:decide ((a:Int)<0)=false:=by simp
 have hd2:decide (s.size≤a)=false:=by simp;omega
 go_enter Tryz.func208,Tryz.ntmps208
 go_wp2
 go_step3
 go_wp2
 go_step3
 go_wp2
 go_loopw [8] (fun v wr=>MeRel (fun i=>mayN (cl s (a+i)) i) (s.size - a) w v wr) (fun v _=>s.size - a - (intOf v).toNat)
 case atStart=>exact⟨0,Nat.zero_le _,rfl,fun i h=>by omega,rfl⟩
 case round=>
  obtain⟨k,hk,rfl,hq,rfl⟩:=hrel
  have HQ:=Lib.hid hq
  clear hq
  by_cases hlt:a+k<s.size
  ·have hx:(k:Int)<(s.size:Int) - a:=by omega
   have hx1:k<s.size - a:=by omega
   have hx2:(k:Int)<(s.extract a s.size).size:=by simp;omega
   have hx3:k<(s.extract a s.size).size:=by simp;omega
   have e1:(bt (s.extract a s.size) k)=bt s (a+k):=bt_extract s a s.size k (Nat.le_refl _) (by omega)
   rw [bt_eq hx3]at e1
   have e2:cls (s.extract a s.size)[k].toNat=cl s (a+k):=by rw [e1];rfl
   have E2:=Lib.hid e2
   clear e1 e2
   obtain⟨y,hy⟩:∃y,(mayN (cl s (a+k)) k)=y:=⟨_,rfl⟩
   have HY:=Lib.hid hy
   clear hy
   cases y
   all_goals
    go_wp2_with fail
    refine(of_any _ _).mono ?_
    rintro e w' ⟨rfl,rfl⟩
    rw [E2.out]
    go_wp2_with fail
    refine(may_eq _ _ _ HY.out _).mono ?_
    rintro e w' ⟨rfl,rfl⟩
    go_wp2
   ·rw [Exit.noGoto_ret]
    go_ret
    refine⟨ret_int ?_,rfl⟩
    rw [show nameN s a=k from lead_eq _ hk HQ.out (fun _=>HY.out)]
   ·go_roundw
    case rel=>
     refine⟨k+1,by omega,by go_num,fun i hi=>?_,rfl⟩
     by_cases g:i=k
     ·rw [g];exact HY.out
     ·exact HQ.out i (by omega)
    case measure=>simp [intOf];omega
  ·have hz:k=s.size - a:=by omega
   have HZ:=Lib.hid hz
   clear hz
   go_wp2
   go_ret
   refine⟨ret_int ?_,rfl⟩
   rw [show nameN s a=k from lead_eq _ hk HQ.out (fun g=>absurd HZ.out (Nat.ne_of_lt g))]
def atV (s:ByteArray) (a:Int) (f:Nat→Nat):Int:=if 0≤a∧a<s.size then(f a.toNat:Nat)else 0
theorem name_any (s:ByteArray) (a:Int) (w:World) (hs:s.size≤1000000):
  Calls Tryz.prog 182 #[.string s,.int .i64 a] w fun e w'=>e=.returned (.int .i64 (atV s a (nameN s)))∧w'=w:=by
 unfold atV
 by_cases h:0≤a∧a<s.size
 ·rw [if_pos h]
  obtain⟨k,rfl⟩:=Int.eq_ofNat_of_zero_le h.1
  have hk:k<s.size:=by omega
  clear h
  go_enter Tryz.func182,Tryz.ntmps182
  go_wp2_with fail
  refine(measureN_any s k _ hs hk).mono ?_
  rintro e w' ⟨rfl,rfl⟩
  go_wp2
  go_ret
  exact⟨rfl,rfl⟩
 ·rw [if_neg h]
  have h':a<0∨(s.size:Int)≤a:=by omega
  have H:=Lib.hid h'
  clear h h'
  go_enter Tryz.func182,Tryz.ntmps182
  go_wp2_with fail
  refine(measure_out s a _ _ hs H.out).mono ?_
  rintro e w' ⟨rfl,rfl⟩
  go_wp2
  go_ret
  exact⟨rfl,rfl⟩
theorem cl_at {s:ByteArray} {k:Nat} (h:k<s.size):cls s[k].toNat=cl s k:=by unfold cl;rw [bt_eq h]
theorem u8_lt (s:ByteArray) (k:Nat) (h:k<s.size):s[k].toNat<256:=s[k].toNat_lt
theorem of_at (s:ByteArray) (k:Nat) (h:k<s.size) (c:Nat) (e:cl s k=c) (w:World):
  Calls Tryz.prog 231 #[.int .u8 s[k].toNat] w fun e w'=>e=.returned (.int .i64 c)∧w'=w:=by
 rw [←e,←cl_at h];exact of_any _ _
theorem class_at (s:ByteArray) (k:Nat) (h:k<s.size) (c:Nat) (e:cl s k=c) (w:World):
  Calls Tryz.prog 89 #[.int .u8 s[k].toNat] w fun e w'=>e=.returned (.int .i64 c)∧w'=w:=by
 rw [←e,←cl_at h];exact class_any _ _
def NmRel (s:ByteArray) (w:World) (v:Value) (wr:World):Prop:=∃k:Nat,1≤k∧k≤s.size∧v=.int .i64 k∧(∀i,i<k→mayN (cl s i) i=true)∧wr=w
set_option maxHeartbeats 2000000 in
theorem refisname_any (s:ByteArray) (w:World) (hs:s.size≤1000000):
  Calls Tryz.prog 62 #[.string s] w fun e w'=>e=.returned (.bool (isNm s))∧w'=w:=by
 by_cases h0:s.size=0
 ·have hz:((s.size:Int)==0)=true:=beq_iff_eq.2 (by omega)
  have hz2:(s.size==0)=true:=beq_iff_eq.2 h0
  have H0:=Lib.hid h0
  clear h0
  go_enter Tryz.func62,Tryz.ntmps62
  go_wp2
  go_ret
  exact⟨ret_bool (by unfold isNm;symm;rw [decide_eq_false_iff_not];exact fun h=>h.1 H0.out),rfl⟩
 ·have hp:0<s.size:=by omega
  have hp2:(0:Int)<s.size:=by omega
  have hz:((s.size:Int)==0)=false:=beq_eq_false_iff_ne.2 (by omega)
  have hz2:(s.size==0)=false:=beq_eq_false_iff_ne.2 h0
  obtain⟨c,hc⟩:∃c,cl s 0=c:=⟨_,rfl⟩
  have HC:=Lib.hid hc
  by_cases h5:c=5
  ·subst h5
   clear hc h0
   go_enter Tryz.func62,Tryz.ntmps62
   go_wp2_with fail
   refine(class_at s 0 hp 5 HC.out _).mono ?_
   rintro e w' ⟨rfl,rfl⟩
   go_wp2
   go_loopw [3] (fun v wr=>NmRel s w' v wr) (fun v _=>s.size - (intOf v).toNat)
   case atStart=>exact⟨1,Nat.le_refl _,hp,rfl,fun i h=>by obtain rfl:i=0:=(by omega);rw [HC.out];rfl,rfl⟩
   case round=>
    obtain⟨k,hk1,hk,rfl,hn,rfl⟩:=hrel
    have HN:=Lib.hid hn
    clear hn
    by_cases hlt:(k:Int)<s.size
    ·have hlt':k<s.size:=by omega
     obtain⟨d,hd⟩:∃d,cl s k=d:=⟨_,rfl⟩
     have HD:=Lib.hid hd
     clear hd
     by_cases g:d=5∨d=6
     ·rcases g with rfl|rfl
      ·go_wp2_with fail
       refine(class_at s k hlt' 5 HD.out _).mono ?_
       rintro e w2 ⟨rfl,rfl⟩
       go_wp2
       go_roundw
       case rel=>
        refine⟨k+1,by omega,by omega,by go_num,fun i hi=>?_,rfl⟩
        by_cases g:i=k
        ·rw [g,HD.out];rfl
        ·exact HN.out i (by omega)
       case measure=>simp [intOf];omega
      ·go_wp2_with fail
       refine(class_at s k hlt' 6 HD.out _).mono ?_
       rintro e w2 ⟨rfl,rfl⟩
       go_wp2_with fail
       refine(class_at s k hlt' 6 HD.out _).mono ?_
       rintro e w2 ⟨rfl,rfl⟩
       go_wp2
       go_roundw
       case rel=>
        refine⟨k+1,by omega,by omega,by go_num,fun i hi=>?_,rfl⟩
        by_cases g:i=k
        ·rw [g,HD.out];unfold mayN;rw [decide_eq_true_iff];omega
        ·exact HN.out i (by omega)
       case measure=>simp [intOf];omega
     ·have g5:((d:Int)==5)=false:=by simp;omega
      have g6:((d:Int)==6)=false:=by simp;omega
      have n5:((d:Int)!=5)=true:=by simp;omega
      have n6:((d:Int)!=6)=true:=by simp;omega
      go_wp2_with fail
      refine(class_at s k hlt' d HD.out _).mono ?_
      rintro e w2 ⟨rfl,rfl⟩
      go_wp2_with fail
      refine(class_at s k hlt' d HD.out _).mono ?_
      rintro e w2 ⟨rfl,rfl⟩
      go_wp2
      go_ret
      refine⟨ret_bool ?_,rfl⟩
      unfold isNm
      symm
      rw [decide_eq_false_iff_not]
      rintro⟨_,h2⟩
      have:=h2 k hlt'
      rw [HD.out]at this
      unfold mayN at this
      rw [decide_eq_true_iff]at this
      omega
    ·obtain rfl:k=s.size:=by omega
     go_wp2
     go_ret
     refine⟨ret_bool ?_,rfl⟩
     unfold isNm
     symm
     rw [decide_eq_true_iff]
     exact⟨by omega,HN.out⟩
  ·have g5:((c:Int)==5)=false:=by simp;omega
   have n5:((c:Int)!=5)=true:=by simp;omega
   clear hc h0
   go_enter Tryz.func62,Tryz.ntmps62
   go_wp2_with fail
   refine(class_at s 0 hp c HC.out _).mono ?_
   rintro e w' ⟨rfl,rfl⟩
   go_wp2
   go_ret
   refine⟨ret_bool ?_,rfl⟩
   unfold isNm
   symm
   rw [decide_eq_false_iff_not]
   rintro⟨_,h2⟩
   have:=h2 0 hp
   rw [HC.out]at this
   unfold mayN at this
   rw [decide_eq_true_iff]at this
   omega
theorem refisname_eq (s:ByteArray) (w:World) (hs:s.size≤1000000) (b:Bool) (h:isNm s=b):
  Calls Tryz.prog 62 #[.string s] w fun e w'=>e=.returned (.bool b)∧w'=w:=by
 rw [←h];exact refisname_any s w hs
theorem special_at (s:ByteArray) (k:Nat) (h:k<s.size) (b:Bool) (e:specB (bt s k).toNat=b) (w:World):
  Calls Tryz.prog 257 #[.int .u8 s[k].toNat] w fun e w'=>e=.returned (.bool b)∧w'=w:=by
 rw [←e,bt_eq h];exact special_any _ (u8_lt s k h) _
set_option maxHeartbeats 1000000 in
theorem param_any (s:ByteArray) (a:Int) (w:World) (hs:s.size≤1000000):
  Calls Tryz.prog 248 #[.string s,.int .i64 a] w fun e w'=>e=.returned (.int .i64 (atV s a (paramN s)))∧w'=w:=by
 by_cases h:0≤a∧a<s.size
 ·obtain⟨k,rfl⟩:=Int.eq_ofNat_of_zero_le h.1
  have hk:k<s.size:=by omega
  have hk2:(k:Int)<s.size:=h.2
  have hv:atV s k (nameN s)=(nameN s k:Nat):=by unfold atV;rw [if_pos h];rfl
  have hp:atV s k (paramN s)=(paramN s k:Nat):=by unfold atV;rw [if_pos h];rfl
  rw [hp]
  have hd:decide ((k:Int)<0)=false:=by simp
  have hd2:decide (s.size≤k)=false:=by simp;omega
  obtain⟨m,hm⟩:∃m,nameN s k=m:=⟨_,rfl⟩
  rw [hm]at hv
  unfold paramN
  rw [hm]
  have HV:=Lib.hid hv
  have HM:=Lib.hid hm
  clear h hv hp hm
  by_cases h0:0<m
  ·rw [if_pos h0]
   have h0':(0:Int)<m:=by omega
   go_enter Tryz.func248,Tryz.ntmps248
   go_wp2_with fail
   refine(name_any s k _ hs).mono ?_
   rintro e w' ⟨rfl,rfl⟩
   rw [HV.out]
   go_wp2
   go_ret
   exact⟨rfl,rfl⟩
  ·obtain rfl:m=0:=by omega
   rw [if_neg h0]
   clear h0
   obtain⟨x,hx⟩:∃x,cl s k=x:=⟨_,rfl⟩
   obtain⟨b,hb⟩:∃b,specB (bt s k).toNat=b:=⟨_,rfl⟩
   rw [hx,hb]
   obtain⟨r,hr⟩:∃r,(if k<s.size∧(x=6∨b=true)then 1 else 0)=r:=⟨_,rfl⟩
   rw [hr]
   have HX:=Lib.hid hx
   have HB:=Lib.hid hb
   have HR:=Lib.hid hr
   clear hx hb hr
   by_cases h6:x=6
   ·subst h6
    go_enter Tryz.func248,Tryz.ntmps248
    go_wp2_with fail
    refine(name_any s k _ hs).mono ?_
    rintro e w' ⟨rfl,rfl⟩
    rw [HV.out]
    go_wp2_with fail
    refine(of_at s k hk 6 HX.out _).mono ?_
    rintro e w' ⟨rfl,rfl⟩
    go_wp2
    go_ret
    exact⟨ret_int (by have:=HR.out;rw [if_pos ⟨hk,by simp⟩]at this;omega),rfl⟩
   ·have g6:((x:Int)==6)=false:=beq_eq_false_iff_ne.2 (by omega)
    cases b
    all_goals
     go_enter Tryz.func248,Tryz.ntmps248
     go_wp2_with fail
     refine(name_any s k _ hs).mono ?_
     rintro e w' ⟨rfl,rfl⟩
     rw [HV.out]
     go_wp2_with fail
     refine(of_at s k hk x HX.out _).mono ?_
     rintro e w' ⟨rfl,rfl⟩
     go_wp2_with fail
     refine(special_at s k hk _ HB.out _).mono ?_
     rintro e w' ⟨rfl,rfl⟩
     go_wp2
     go_ret
    ·exact⟨ret_int (by have:=HR.out;rw [if_neg (fun h=>by rcases h.2 with h|h;exact h6 h;cases h)]at this;omega),rfl⟩
    ·exact⟨ret_int (by have:=HR.out;rw [if_pos ⟨hk,by simp⟩]at this;omega),rfl⟩
 ·have hv:atV s a (nameN s)=0:=by unfold atV;rw [if_neg h]
  have hp:atV s a (paramN s)=0:=by unfold atV;rw [if_neg h]
  rw [hp]
  have HV:=Lib.hid hv
  clear hv hp
  by_cases g:a<0
  ·have hd:decide (a<0)=true:=by simpa using g
   clear h
   go_enter Tryz.func248,Tryz.ntmps248
   go_wp2_with fail
   refine(name_any s a _ hs).mono ?_
   rintro e w' ⟨rfl,rfl⟩
   rw [HV.out]
   go_wp2
   go_ret
   exact⟨rfl,rfl⟩
  ·have h2:(s.size:Int)≤a:=by omega
   have hd:decide (a<0)=false:=by simpa using g
   have hd2:decide ((s.size:Int)≤a)=true:=by simpa using h2
   clear h
   go_enter Tryz.func248,Tryz.ntmps248
   go_wp2_with fail
   refine(name_any s a _ hs).mono ?_
   rintro e w' ⟨rfl,rfl⟩
   rw [HV.out]
   go_wp2
   go_ret
   exact⟨rfl,rfl⟩
theorem good_allm:∀{st:List Fr},good st→∀x∈st,x.1≤14
 | [],h,x,hx=>by simp at hx
 | [(m,f)],h,x,hx=>by
  simp at hx
  subst hx
  exact good_le h
 |(m,f)::(m2,f2)::r,h,x,hx=>by
  rcases List.mem_cons.1 hx with rfl|hx
  ·exact good_le h
  ·exact good_allm (good_two h).2 x hx
def dsc:Nat→List Fr→Prop
 |_,[]=>False
 |_,[(m,f)]=>m=0∧f=0
 |k,(m,f)::y::r=>f<k∧dsc f (y::r)
theorem dsc_mono:∀{st:List Fr} {k l:Nat},dsc k st→k≤l→dsc l st
 | [],_,_,h,_=>h
 | [(m,f)],_,_,h,_=>h
 |(m,f)::y::r,_,_,h,hl=>⟨Nat.lt_of_lt_of_le h.1 hl,h.2⟩
theorem dsc_tail {k m f:Nat} {r:List Fr} (h:dsc k ((m,f)::r)) (hr:r≠ []):dsc k r:=by
 cases r with
 |nil=>exact absurd rfl hr
 |cons y r=>exact dsc_mono h.2 (Nat.le_of_lt h.1)
theorem dsc_turn {k m f:Nat} {r:List Fr} (h:dsc k ((m,f)::r)) (hr:r≠ []) (n:Nat):dsc k ((n,f)::r):=by
 cases r with
 |nil=>exact absurd rfl hr
 |cons y r=>exact h
theorem dsc_push {k:Nat} {st:List Fr} (h:dsc k st) (n:Nat):dsc (k+1) ((n,k)::st):=by
 cases st with
 |nil=>exact absurd h (by simp [dsc])
 |cons y r=>exact⟨Nat.lt_succ_self _,h⟩
theorem mv_cases (m b:Nat) (fresh:Bool):(mv m b fresh).1=.keep∨(∃n,(mv m b fresh).1=.push n∧(n=13∨n=4∨n=5∨n=6∨n=12∨n=14∨n=2∨n=10))∨(m≠0∧(mv m b fresh).1=.pop)∨(m=9∧(mv m b fresh).1=.turn 11):=by
 have ho:=opn_cases b
 obtain⟨v,hv⟩:∃v,mv m b fresh=v:=⟨_,rfl⟩
 rw [hv]
 unfold mv at hv
 by_cases hP:isProg m=true
 ·rw [if_pos hP]at hv
  repeat' split at hv
  all_goals subst hv
  all_goals first
   |exact .inl rfl
   |exact .inr (.inl ⟨_,rfl,by omega⟩)
   |(refine .inr (.inl ⟨_,rfl,?_⟩);rename_i h;unfold opn;rcases h with rfl|rfl<;>simp)
   |exact .inr (.inr (.inl ⟨by assumption,rfl⟩))
 ·rw [if_neg hP]at hv
  have h0:m≠0:=by rintro rfl;exact hP rfl
  repeat' split at hv
  all_goals subst hv
  all_goals first
   |exact .inl rfl
   |exact .inr (.inr (.inl ⟨h0,rfl⟩))
   |exact .inr (.inl ⟨_,rfl,by omega⟩)
   |exact .inr (.inr (.inr ⟨by omega,rfl⟩))
theorem plain_cases (m f:Nat) (r:List Fr) (fresh:Bool) (b p:Nat):
  (plainF ((m,f)::r) fresh b p).st=(m,f)::r∨(∃n,(plainF ((m,f)::r) fresh b p).st=(n,p)::(m,f)::r∧(n=13∨n=4∨n=5∨n=6∨n=12∨n=14∨n=2∨n=10))∨(m≠0∧(plainF ((m,f)::r) fresh b p).st=r)∨(m=9∧(plainF ((m,f)::r) fresh b p).st=(11,f)::r):=by
 show(fin (mv m b fresh) ((m,f)::r) p).st=_∨_
 unfold plainF fin
 simp only
 rcases mv_cases m b fresh with h|⟨n,h,hn⟩|⟨h0,h⟩|⟨h0,h⟩
 ·rw [h];exact .inl rfl
 ·rw [h];exact .inr (.inl ⟨n,rfl,hn⟩)
 ·rw [h];exact .inr (.inr (.inl ⟨h0,rfl⟩))
 ·rw [h];exact .inr (.inr (.inr ⟨h0,rfl⟩))
def turns (m n:Nat):Prop:=(m=12∧(n=3∨n=7∨n=8))∨(m=3∧(n=9∨n=1))∨(m=9∧n=11)∨(m=11∧n=9)
def opensM (n:Nat):Prop:=n=13∨n=4∨n=5∨n=6∨n=12∨n=14∨n=2∨n=10
def Sim (T D:List Fr):Prop:=T=D∨∃m n f r,D=(m,f)::r∧T=(n,f)::r∧turns m n
def Tr (p:Nat) (D N:List Fr):Prop:=
 ∃j T,j≤D.length∧Sim T (D.drop j)∧(N=T∨∃n,N=(n,p)::T∧opensM n∧(j=0∨(j=1∧top D=12)))
theorem feed_tr (x:Ms) (hI:Inv x) (b p:Nat):∃j T m f r,x.st.drop j=(m,f)::r∧(T=(m,f)::r∨∃n,T=(n,f)::r∧turns m n)∧((feed x b p).st=T∨∃n,(feed x b p).st=(n,p)::T∧opensM n∧(j=0∨(j=1∧top x.st=12)))∧(x.st=[(0,0)]→True):=by
 obtain⟨st,fresh⟩:=x
 have hg:=hI.good
 cases st with
 |nil=>exact absurd hg (by simp [good])
 |cons a r=>
  obtain⟨m,f⟩:=a
  simp only at hg
  have pl:∀(j m1 f1:Nat) (r1:List Fr) (m0:Nat),((m,f)::r).drop j=(m0,f1)::r1→(m0=m1∨turns m0 m1)→(m1=9→m0=9∨m0=11)→(j=0∨(j=1∧m=12))→good ((m1,f1)::r1)→m1≤14→
    ∃j T m' f' r',((m,f)::r).drop j=(m',f')::r'∧(T=(m',f')::r'∨∃n,T=(n,f')::r'∧turns m' n)∧((plainF ((m1,f1)::r1) fresh b p).st=T∨∃n,(plainF ((m1,f1)::r1) fresh b p).st=(n,p)::T∧opensM n∧(j=0∨(j=1∧m=12)))∧(((m,f)::r)=[(0,0)]→True):=by
   intro j m1 f1 r1 m0 hd ht h9 hj hg1 hle
   rcases plain_cases m1 f1 r1 fresh b p with h|⟨n,h,hn⟩|⟨h0,h⟩|⟨h0,h⟩
   ·refine⟨j,(m1,f1)::r1,m0,f1,r1,hd,?_,.inl h,fun _=>trivial⟩
    rcases ht with rfl|ht
    ·exact .inl rfl
    ·exact .inr ⟨m1,rfl,ht⟩
   ·refine⟨j,(m1,f1)::r1,m0,f1,r1,hd,?_,.inr ⟨n,h,hn,hj⟩,fun _=>trivial⟩
    rcases ht with rfl|ht
    ·exact .inl rfl
    ·exact .inr ⟨m1,rfl,ht⟩
   ·obtain⟨m2,f2,r2,rfl,h1,h2⟩:=good_more hg1 h0
    refine⟨j+1,(m2,f2)::r2,m2,f2,r2,?_,.inl rfl,.inl h,fun _=>trivial⟩
    rw [←List.drop_drop,hd]
    rfl
   ·subst h0
    refine⟨j,(11,f1)::r1,m0,f1,r1,hd,?_,.inl h,fun _=>trivial⟩
    rcases h9 rfl with rfl|rfl
    ·exact .inr ⟨11,rfl,.inr (.inr (.inl ⟨rfl,rfl⟩))⟩
    ·exact .inl rfl
  have hle:=good_le hg
  unfold feed
  simp only
  by_cases h12:m=12
  ·rw [if_pos h12]
   split
   ·exact⟨0,(3,f)::r,m,f,r,rfl,.inr ⟨3,rfl,.inl ⟨h12,.inl rfl⟩⟩,.inl rfl,fun _=>trivial⟩
   split
   ·refine⟨0,(brace (top r),f)::r,m,f,r,rfl,.inr ⟨_,rfl,.inl ⟨h12,?_⟩⟩,.inl rfl,fun _=>trivial⟩
    unfold brace
    split
    ·exact .inr (.inr rfl)
    ·exact .inr (.inl rfl)
   obtain⟨m2,f2,r2,rfl,h1,h2⟩:=good_more hg (by omega)
   split
   ·exact⟨1,(m2,f2)::r2,m2,f2,r2,rfl,.inl rfl,.inl rfl,fun _=>trivial⟩
   ·exact pl 1 m2 f2 r2 m2 rfl (.inl rfl) (fun h=> .inl h) (.inr ⟨rfl,h12⟩) h2 (good_le h2)
  rw [if_neg h12]
  by_cases h3:m=3
  ·rw [if_pos h3]
   split
   ·exact⟨0,(9,f)::r,m,f,r,rfl,.inr ⟨9,rfl,.inr (.inl ⟨h3,.inl rfl⟩)⟩,.inl rfl,fun _=>trivial⟩
   ·exact pl 0 1 f r m rfl (.inr (.inr (.inl ⟨h3,.inr rfl⟩))) (fun h=>by omega) (.inl rfl) (good_turn hg (by omega) 1 (by decide) f) (by omega)
  rw [if_neg h3]
  by_cases h11:m=11
  ·rw [if_pos h11]
   split
   ·obtain⟨m2,f2,r2,rfl,h1,h2⟩:=good_more hg (by omega)
    exact⟨1,(m2,f2)::r2,m2,f2,r2,rfl,.inl rfl,.inl rfl,fun _=>trivial⟩
   ·exact pl 0 9 f r m rfl (.inr (.inr (.inr (.inr ⟨h11,rfl⟩)))) (fun h=> .inr h11) (.inl rfl) (good_turn hg (by omega) 9 (by decide) f) (by omega)
  rw [if_neg h11]
  exact pl 0 m f r m rfl (.inl rfl) (fun h=> .inl h) (.inl rfl) hg hle
theorem turns_ne {m n:Nat} (h:turns m n):m≠0:=by unfold turns at h;omega
theorem dsc_feed (x:Ms) (hI:Inv x) (b p:Nat) (h:dsc p x.st):dsc (p+1) (feed x b p).st:=by
 obtain⟨j,T,m,f,r,hd,hT,hN,_⟩:=feed_tr x hI b p
 have drp:∀(j:Nat) (st:List Fr),dsc p st→st.drop j≠ []→dsc p (st.drop j):=by
  intro j
  induction j with
  |zero=>intro st h _;exact h
  |succ j ih=>
   intro st h hn
   cases st with
   |nil=>exact absurd rfl hn
   |cons a st=>
    rw [List.drop_succ_cons]at hn ⊢
    refine ih st (dsc_tail h ?_) hn
    rintro rfl
    simp at hn
 have hD:dsc p ((m,f)::r):=by
  have:=drp j x.st h (by rw [hd];simp)
  rwa [hd]at this
 have hDT:dsc p T:=by
  rcases hT with rfl|⟨n,rfl,ht⟩
  ·exact hD
  ·refine dsc_turn hD ?_ n
   rintro rfl
   have:=turns_ne ht
   exact this hD.1
 rcases hN with hN|⟨n,hN,_⟩
 ·rw [hN];exact dsc_mono hDT (Nat.le_succ _)
 ·rw [hN];exact dsc_push hDT n
theorem dsc_run (s:ByteArray):∀k,dsc k (runK s k).st
 |0=>⟨rfl,rfl⟩
 |k+1=>by
  rw [runK_succ]
  exact dsc_feed _ (runK_inv s k) _ _ (dsc_run s k)
def nt (s:ByteArray) (k:Nat):List Fr:=(runK s k).st.dropLast
theorem dsc_last:∀{st:List Fr} {k:Nat},dsc k st→st=st.dropLast++ [(0,0)]
 | [],_,h=>absurd h (by simp [dsc])
 | [(m,f)],_,h=>by obtain⟨rfl,rfl⟩:=h;rfl
 |(m,f)::y::r,k,h=>by
  have:=dsc_last h.2
  rw [List.dropLast_cons_of_ne_nil (by simp),List.cons_append,←this]
theorem nt_st (s:ByteArray) (k:Nat):(runK s k).st=nt s k++ [(0,0)]:=dsc_last (dsc_run s k)
theorem dsc_pw:∀{D:List Fr} {k:Nat},dsc k (D++ [(0,0)])→(∀x∈D,x.2<k)∧D.Pairwise (fun a b=>b.2<a.2)
 | [],_,_=>⟨by simp,List.Pairwise.nil⟩
 |(m,f)::D,k,h=>by
  have h2:f<k∧dsc f (D++ [(0,0)]):=by
   cases D with
   |nil=>exact h
   |cons y D=>exact h
  obtain⟨h3,h4⟩:=dsc_pw h2.2
  refine⟨fun x hx=>?_,List.Pairwise.cons (fun x hx=>h3 x hx) h4⟩
  rcases List.mem_cons.1 hx with rfl|hx
  ·exact h2.1
  ·exact Nat.lt_trans (h3 x hx) h2.1
theorem nt_lt (s:ByteArray) (k:Nat) {x:Fr} (h:x∈nt s k):x.2<k:=(dsc_pw (by rw [←nt_st];exact dsc_run s k)).1 x h
theorem nt_pw (s:ByteArray) (k:Nat):(nt s k).Pairwise (fun a b=>b.2<a.2):=(dsc_pw (by rw [←nt_st];exact dsc_run s k)).2
theorem nt_le14 (s:ByteArray) (k:Nat) {x:Fr} (h:x∈nt s k):x.1≤14:=good_allm (runK_inv s k).good x (by rw [nt_st];exact List.mem_append_left _ h)
theorem nt_len (s:ByteArray) (k:Nat):(nt s k).length≤k:=by
 have:=runK_len s k
 rw [nt_st]at this
 simp at this
 exact this
theorem nt_tr (s:ByteArray) (k:Nat):Tr k (nt s k) (nt s (k+1)):=by
 obtain⟨j,T,m,f,r,hd,hT,hN,_⟩:=feed_tr (runK s k) (runK_inv s k) (by8 s k) k
 rw [←runK_succ,nt_st s (k+1)]at hN
 have htop:top (nt s k++ [(0,0)])=top (nt s k):=by
  cases nt s k with
  |nil=>rfl
  |cons a D=>rfl
 rw [nt_st s k]at hd hN
 rw [htop]at hN
 have hj:j≤(nt s k).length:=by
  have:j<(nt s k++ [(0,0)]).length:=by
   apply Classical.byContradiction
   intro g
   rw [List.drop_eq_nil_of_le (by omega)]at hd
   cases hd
  simp at this
  omega
 rw [List.drop_append_of_le_length hj]at hd
 have hT2:∃T2,T=T2++ [(0,0)]∧Sim T2 ((nt s k).drop j):=by
  rcases hT with rfl|⟨n,rfl,ht⟩
  ·exact⟨_,hd.symm,.inl rfl⟩
  ·cases hD:(nt s k).drop j with
   |nil=>
    rw [hD]at hd
    simp at hd
    exact absurd hd.1.1.symm (turns_ne ht)
   |cons a D=>
    rw [hD]at hd
    simp at hd
    obtain⟨rfl,rfl⟩:=hd
    exact⟨(n,f)::D,rfl,.inr ⟨m,n,f,D,rfl,rfl,ht⟩⟩
 obtain⟨T2,rfl,hS⟩:=hT2
 refine⟨j,T2,hj,hS,?_⟩
 rcases hN with hN|⟨n,hN,ho,hj2⟩
 ·exact .inl (List.append_cancel_right hN)
 ·refine .inr ⟨n,?_,ho,hj2⟩
  rw [←List.cons_append]at hN
  exact List.append_cancel_right hN
def pres (s:ByteArray) (k f:Nat):Bool:=(nt s k).any fun x=>x.2==f
theorem pres_iff {s:ByteArray} {k f:Nat}:pres s k f=true↔∃m,(m,f)∈nt s k:=by
 unfold pres
 rw [List.any_eq_true]
 constructor
 ·rintro⟨⟨m,g⟩,hx,h⟩
  obtain rfl:g=f:=by simpa using h
  exact⟨m,hx⟩
 ·rintro⟨m,hx⟩
  exact⟨_,hx,by simp⟩
theorem pres_lt {s:ByteArray} {k f:Nat} (h:pres s k f=true):f<k:=by
 obtain⟨m,hm⟩:=pres_iff.1 h
 exact nt_lt s k hm
def md (s:ByteArray) (k f:Nat):Nat:=(((nt s k).find? fun x=>x.2==f).map Prod.fst).getD 0
theorem find_pw:∀{D A R:List Fr} {m f:Nat},D.Pairwise (fun a b=>b.2<a.2)→D=A++(m,f)::R→D.find? (fun x=>x.2==f)=some (m,f)
 |_,[],R,m,f,hp,rfl=>by simp
 |_,a::A,R,m,f,hp,rfl=>by
  have hp':=hp
  rw [List.cons_append,List.pairwise_cons]at hp'
  have hlt:f<a.2:=hp'.1 (m,f) (by simp)
  rw [List.cons_append,List.find?_cons_of_neg (by simp;omega)]
  exact find_pw hp'.2 rfl
theorem md_at {s:ByteArray} {k m f:Nat} {A R:List Fr} (h:nt s k=A++(m,f)::R):md s k f=m:=by
 unfold md
 rw [find_pw (nt_pw s k) h]
 rfl
theorem pres_split {s:ByteArray} {k f:Nat} (h:pres s k f=true):∃A R,nt s k=A++(md s k f,f)::R:=by
 obtain⟨m,hm⟩:=pres_iff.1 h
 obtain⟨A,R,hA⟩:=List.append_of_mem hm
 exact⟨A,R,by rw [md_at hA];exact hA⟩
theorem pres_at {s:ByteArray} {k m f:Nat} {A R:List Fr} (h:nt s k=A++(m,f)::R):pres s k f=true:=pres_iff.2 ⟨m,by rw [h];simp⟩
theorem md_le (s:ByteArray) (k f:Nat):md s k f≤14:=by
 by_cases h:pres s k f=true
 ·obtain⟨A,R,hA⟩:=pres_split h
  exact nt_le14 s k (x:=(md s k f,f)) (by rw [hA];simp)
 ·unfold md
  rw [List.find?_eq_none.2 (fun x hx e=>h (pres_iff.2 ⟨x.1,by
   obtain rfl:x.2=f:=by simpa using e
   exact hx⟩))]
  simp
def blw (s:ByteArray) (f:Nat):List Fr:=(nt s (f+1)).tail
theorem born_split {s:ByteArray} {f:Nat} (h:pres s (f+1) f=true):nt s (f+1)=(md s (f+1) f,f)::blw s f:=by
 obtain⟨A,R,hA⟩:=pres_split h
 cases A with
 |nil=>unfold blw;rw [hA];rfl
 |cons a A=>
  have h1:=nt_lt s (f+1) (x:=a) (by rw [hA];simp)
  have h2:=nt_pw s (f+1)
  rw [hA,List.cons_append,List.pairwise_cons]at h2
  have h3:f<a.2:=h2.1 (md s (f+1) f,f) (by simp)
  omega
theorem sim_places {T D:List Fr} (h:Sim T D):T.map Prod.snd=D.map Prod.snd∧T.tail=D.tail:=by
 rcases h with rfl|⟨m,n,f,r,rfl,rfl,_⟩
 ·exact⟨rfl,rfl⟩
 ·exact⟨rfl,rfl⟩
theorem sim_mem {T D:List Fr} (h:Sim T D) {f:Nat} (hm:∃m,(m,f)∈T):∃m,(m,f)∈D:=by
 have:=(sim_places h).1
 obtain⟨m,hm⟩:=hm
 have h2:f∈T.map Prod.snd:=List.mem_map.2 ⟨_,hm,rfl⟩
 rw [this]at h2
 obtain⟨x,hx,rfl⟩:=List.mem_map.1 h2
 exact⟨x.1,hx⟩
theorem sim_mem' {T D:List Fr} (h:Sim T D) {f:Nat} (hm:∃m,(m,f)∈D):∃m,(m,f)∈T:=by
 have:=(sim_places h).1
 obtain⟨m,hm⟩:=hm
 have h2:f∈D.map Prod.snd:=List.mem_map.2 ⟨_,hm,rfl⟩
 rw [←this]at h2
 obtain⟨x,hx,rfl⟩:=List.mem_map.1 h2
 exact⟨x.1,hx⟩
theorem stay {s:ByteArray} {k f:Nat} {j:Nat} {T:List Fr} (hS:Sim T ((nt s k).drop j)) (hN:nt s (k+1)=T∨∃n,nt s (k+1)=(n,k)::T) (hf:f<k):pres s (k+1) f=true↔∃m,(m,f)∈(nt s k).drop j:=by
 constructor
 ·intro h
  obtain⟨m,hm⟩:=pres_iff.1 h
  refine sim_mem hS ⟨m,?_⟩
  rcases hN with hN|⟨n,hN⟩
  ·rwa [hN]at hm
  ·rw [hN]at hm
   rcases List.mem_cons.1 hm with h|h
   ·simp at h;omega
   ·exact h
 ·intro h
  obtain⟨m,hm⟩:=sim_mem' hS h
  refine pres_iff.2 ⟨m,?_⟩
  rcases hN with hN|⟨n,hN⟩
  ·rwa [hN]
  ·rw [hN];exact List.mem_cons_of_mem _ hm
theorem tr_or {s:ByteArray} {k:Nat} {T:List Fr} {j:Nat} (h:nt s (k+1)=T∨∃n,nt s (k+1)=(n,k)::T∧opensM n∧(j=0∨(j=1∧top (nt s k)=12))):nt s (k+1)=T∨∃n,nt s (k+1)=(n,k)::T:=
 h.imp id fun⟨n,h,_⟩=>⟨n,h⟩
theorem pres_back {s:ByteArray} {k f:Nat} (h:pres s (k+1) f=true) (hf:f<k):pres s k f=true:=by
 obtain⟨j,T,hj,hS,hN⟩:=nt_tr s k
 obtain⟨m,hm⟩:=(stay hS (tr_or hN) hf).1 h
 exact pres_iff.2 ⟨m,List.mem_of_mem_drop hm⟩
theorem drop_split {D A R:List Fr} {m f j:Nat} (hp:D.Pairwise (fun a b=>b.2<a.2)) (h:D=A++(m,f)::R) (hm:∃n,(n,f)∈D.drop j):∃A2,D.drop j=A2++(m,f)::R:=by
 by_cases hj:j≤A.length
 ·exact⟨A.drop j,by rw [h,List.drop_append_of_le_length hj]⟩
 ·exfalso
  obtain⟨n,hn⟩:=hm
  rw [h]at hp
  have e:D.drop j=R.drop (j - (A.length+1)):=by
   rw [h,show j=A.length+((j - (A.length+1))+1) by omega,←List.drop_drop,List.drop_left,List.drop_succ_cons]
   congr 1
   omega
  rw [e]at hn
  have:=(List.pairwise_cons.1 (List.pairwise_append.1 hp).2.1).1 _ (List.mem_of_mem_drop hn)
  simp at this
theorem step_below {s:ByteArray} {k m f:Nat} {A R:List Fr} (h:nt s k=A++(m,f)::R) (hp:pres s (k+1) f=true) (hf:f<k):∃A2 n,nt s (k+1)=A2++(n,f)::R:=by
 obtain⟨j,T,hj,hS,hN⟩:=nt_tr s k
 obtain⟨A2,hA2⟩:=drop_split (nt_pw s k) h ((stay hS (tr_or hN) hf).1 hp)
 have hT:∃A3 n,T=A3++(n,f)::R:=by
  rcases hS with rfl|⟨m1,n1,f1,r1,hD,rfl,_⟩
  ·exact⟨A2,m,hA2⟩
  ·rw [hD]at hA2
   cases A2 with
   |nil=>
    simp at hA2
    obtain⟨⟨rfl,rfl⟩,rfl⟩:=hA2
    exact⟨[],n1,rfl⟩
   |cons a A2=>
    simp at hA2
    obtain⟨rfl,rfl⟩:=hA2
    exact⟨(n1,f1)::A2,m,rfl⟩
 obtain⟨A3,n,rfl⟩:=hT
 rcases tr_or hN with hN|⟨n2,hN⟩
 ·exact⟨A3,n,hN⟩
 ·exact⟨(n2,k)::A3,n,hN⟩
theorem pres_all {s:ByteArray} {f:Nat}:∀{k:Nat},pres s k f=true→(∃A,nt s k=A++(md s k f,f)::blw s f)∧∀j,f<j→j≤k→pres s j f=true
 |0,h=>absurd (pres_lt h) (by omega)
 |k+1,h=>by
  have hf:=pres_lt h
  by_cases e:f=k
  ·subst e
   refine⟨⟨[],born_split h⟩,fun j h1 h2=>?_⟩
   obtain rfl:j=f+1:=by omega
   exact h
  ·obtain⟨⟨A,hA⟩,ha⟩:=pres_all (pres_back h (by omega))
   obtain⟨A2,n,hA2⟩:=step_below hA h (by omega)
   refine⟨⟨A2,by rw [md_at hA2];exact hA2⟩,fun j h1 h2=>?_⟩
   by_cases e2:j=k+1
   ·rw [e2];exact h
   ·exact ha j h1 (by omega)
def eK (s:ByteArray) (f k:Nat):Nat:=f+lead (fun i=>pres s (f+1+i) f) (k - f)
theorem eK_le (s:ByteArray) {f k:Nat} (h:f≤k):eK s f k≤k:=by
 have:=lead_le (fun i=>pres s (f+1+i) f) (k - f)
 unfold eK
 omega
theorem eK_pres {s:ByteArray} {f k j:Nat} (h1:f<j) (h2:j≤eK s f k):pres s j f=true:=by
 unfold eK at h2
 have:=lead_all (fun i=>pres s (f+1+i) f) (z:=k - f) (i:=j - (f+1)) (by omega)
 rwa [show f+1+(j - (f+1))=j by omega]at this
theorem eK_eq {s:ByteArray} {f k e:Nat} (h0:f≤e) (h1:e≤k) (hp:∀j,f<j→j≤e→pres s j f=true) (hs:e<k→pres s (e+1) f=false):eK s f k=e:=by
 unfold eK
 rw [lead_eq (n:=e - f) _ (by omega) (fun i hi=>hp _ (by omega) (by omega)) (fun h=>by
  have:=hs (by omega)
  rwa [show f+1+(e - f)=e+1 by omega])]
 omega
theorem eK_full {s:ByteArray} {f k:Nat} (h:pres s k f=true):eK s f k=k:=
 eK_eq (Nat.le_of_lt (pres_lt h)) (Nat.le_refl _) (pres_all h).2 (fun g=>absurd g (Nat.lt_irrefl _))
theorem eK_stop {s:ByteArray} {f k:Nat} (hf:f≤k) (h:eK s f k<k):pres s (eK s f k+1) f=false:=by
 unfold eK at h ⊢
 have:=lead_stop (fun i=>pres s (f+1+i) f) (z:=k - f) (by omega)
 rwa [show f+lead (fun i=>pres s (f+1+i) f) (k - f)+1=f+1+lead (fun i=>pres s (f+1+i) f) (k - f) by omega]
theorem eK_not {s:ByteArray} {f k:Nat} (hf:f<k) (h:pres s k f=false):eK s f k<k:=by
 have h1:=eK_le s (Nat.le_of_lt hf)
 have h2:=eK_pres (s:=s) (f:=f) (k:=k) (j:=k) hf
 rcases Nat.lt_or_ge (eK s f k) k with g|g
 ·exact g
 ·rw [h2 g]at h;cases h
theorem eK_same {s:ByteArray} {f k:Nat} (hf:f<k) (h:pres s k f=false):eK s f (k+1)=eK s f k:=by
 have h1:=eK_not hf h
 exact eK_eq (by unfold eK;omega) (by omega) (fun j a b=>eK_pres a b) (fun _=>eK_stop (Nat.le_of_lt hf) h1)
theorem eK_shut {s:ByteArray} {f k:Nat} (h:pres s k f=true) (h':pres s (k+1) f=false):eK s f (k+1)=k:=
 eK_eq (Nat.le_of_lt (pres_lt h)) (Nat.le_succ _) (pres_all h).2 (fun _=>h')
structure Prt where
 mode:Nat
 frm:Nat
 to:Nat
 up:Int
 op:Bool
def cnt (m:Nat):Nat:=if m=3 then 1 else if m=11 then 9 else m
theorem cnt_le {m:Nat} (h:m≤14):cnt m≤14:=by unfold cnt;(repeat' split)<;>omega
theorem cnt_12 {m:Nat}:cnt m=12↔m=12:=by unfold cnt;(repeat' split)<;>omega
theorem cnt_opens {m:Nat} (h:opensM m):cnt m=m:=by unfold opensM at h;unfold cnt;(repeat' split)<;>omega
def born (s:ByteArray) (f:Nat):Bool:=pres s (f+1) f
def bornL (s:ByteArray) (k:Nat):List Nat:=(List.range k).filter (born s)
theorem bornL_succ (s:ByteArray) (k:Nat):bornL s (k+1)=bornL s k++if born s k=true then [k]else []:=by
 unfold bornL
 rw [List.range_succ,List.filter_append]
 congr 1
 simp [List.filter_cons]
theorem bornL_mem {s:ByteArray} {k f:Nat}:f∈bornL s k↔f<k∧born s f=true:=by
 unfold bornL
 rw [List.mem_filter,List.mem_range]
theorem bornL_pw (s:ByteArray) (k:Nat):(bornL s k).Pairwise (· < ·):=List.Pairwise.filter _ List.pairwise_lt_range
theorem bornL_len (s:ByteArray) (k:Nat):(bornL s k).length≤k:=by
 have:=List.length_filter_le (born s) (List.range k)
 rw [List.length_range]at this
 exact this
def idx (s:ByteArray) (f:Nat):Nat:=(bornL s f).length
theorem bornL_get (s:ByteArray) (f:Nat) (hb:born s f=true):∀{k:Nat},f<k→(bornL s k)[idx s f]?=some f
 |0,h=>by omega
 |k+1,h=>by
  rw [bornL_succ]
  by_cases e:f=k
  ·subst e
   rw [if_pos hb]
   unfold idx
   simp
  ·have h1:=bornL_get s f hb (k:=k) (by omega)
   have hl:idx s f<(bornL s k).length:=(List.getElem?_eq_some_iff.1 h1).1
   rw [List.getElem?_append_left hl]
   exact h1
theorem idx_lt {s:ByteArray} {f k:Nat} (hb:born s f=true) (h:f<k):idx s f<(bornL s k).length:=(List.getElem?_eq_some_iff.1 (bornL_get s f hb h)).1
theorem idx_mono {s:ByteArray} {f g:Nat} (hb:born s f=true) (h:f<g):idx s f<idx s g:=idx_lt hb h
theorem idx_get {s:ByteArray} {k i f:Nat} (h:(bornL s k)[i]?=some f):idx s f=i∧f<k∧born s f=true:=by
 obtain⟨hk,hb⟩:=bornL_mem.1 (List.mem_of_getElem? h)
 refine⟨?_,hk,hb⟩
 have h2:=bornL_get s f hb hk
 have hn:=List.pairwise_iff_getElem.1 (bornL_pw s k)
 obtain⟨hi,h3⟩:=List.getElem?_eq_some_iff.1 h
 obtain⟨hj,h4⟩:=List.getElem?_eq_some_iff.1 h2
 apply Classical.byContradiction
 intro g
 rcases Nat.lt_or_ge (idx s f) i with g2|g2
 ·have:=hn _ _ hj hi g2
  omega
 ·have:=hn _ _ hi hj (by omega)
  omega
def upI (s:ByteArray) (f:Nat):Int:=match blw s f with
 | []=> -1
 |x::_=>(idx s x.2:Nat)
def closeP (s:ByteArray) (to:Nat) (op:Bool) (p:Prt):Prt:=if p.mode=12 then { p with to:=p.frm+1+paramN s (p.frm+1),op:=false } else { p with to:=to,op:=op }
def prtK (s:ByteArray) (k f:Nat):Prt:=
 if eK s f k=k then⟨cnt (md s k f),f,0,upI s f,false⟩else closeP s (eK s f k+1) false ⟨cnt (md s (eK s f k) f),f,0,upI s f,false⟩
def prt (s:ByteArray) (f:Nat):Prt:=
 if eK s f s.size=s.size then closeP s s.size true (prtK s s.size f)else prtK s s.size f
def LK (s:ByteArray) (k:Nat):List Prt:=(bornL s k).map (prtK s k)
def PL (s:ByteArray):List Prt:=(bornL s s.size).map (prt s)
theorem closeP_frm (s:ByteArray) (to:Nat) (op:Bool) (p:Prt):(closeP s to op p).frm=p.frm∧(closeP s to op p).mode=p.mode∧(closeP s to op p).up=p.up:=by
 unfold closeP
 split<;>exact⟨rfl,rfl,rfl⟩
theorem prtK_in {s:ByteArray} {k f:Nat} (h:pres s k f=true):prtK s k f=⟨cnt (md s k f),f,0,upI s f,false⟩:=by
 unfold prtK
 rw [if_pos (eK_full h)]
theorem prtK_frm (s:ByteArray) (k f:Nat):(prtK s k f).frm=f∧(prtK s k f).up=upI s f∧(prtK s k f).mode≤14:=by
 unfold prtK
 split
 ·exact⟨rfl,rfl,cnt_le (md_le _ _ _)⟩
 ·have h:=closeP_frm s (eK s f k+1) false ⟨cnt (md s (eK s f k) f),f,0,upI s f,false⟩
  exact⟨h.1,h.2.2,by rw [h.2.1];exact cnt_le (md_le _ _ _)⟩
theorem prtK_shut {s:ByteArray} {k f:Nat} (h:pres s k f=true) (h':pres s (k+1) f=false):prtK s (k+1) f=closeP s (k+1) false (prtK s k f):=by
 rw [prtK_in h]
 unfold prtK
 rw [eK_shut h h',if_neg (by omega)]
theorem prtK_same {s:ByteArray} {k f:Nat} (hf:f<k) (h:pres s k f=false):prtK s (k+1) f=prtK s k f:=by
 have h1:=eK_not hf h
 unfold prtK
 rw [eK_same hf h,if_neg (by omega),if_neg (by omega)]
theorem map_set {g:Nat→Prt} {s:ByteArray} {k f:Nat} (hb:born s f=true) (hf:f<k) (v:Prt):((bornL s k).map g).set (idx s f) v=(bornL s k).map fun x=>if x=f then v else g x:=by
 apply List.ext_getElem?
 intro i
 rw [List.getElem?_set]
 by_cases h:idx s f=i
 ·subst h
  rw [if_pos rfl,List.getElem?_map,bornL_get s f hb hf]
  have:=idx_lt hb hf
  simp [this]
 ·rw [if_neg h,List.getElem?_map,List.getElem?_map]
  cases hx:(bornL s k)[i]? with
  |none=>rfl
  |some x=>
   have hne:x≠f:=by
    rintro rfl
    exact h (idx_get hx).1
   simp [hne]
theorem pres_born {s:ByteArray} {k f:Nat} (h:pres s k f=true):born s f=true:=(pres_all h).2 (f+1) (Nat.lt_succ_self _) (pres_lt h)
def Gi (s:ByteArray) (k i:Nat) (x:Nat):Prt:=if((nt s k).take i).any (fun y=>y.2==x)=true then closeP s (k+1) false (prtK s k x)else prtK s k x
def LKi (s:ByteArray) (k i:Nat):List Prt:=(bornL s k).map (Gi s k i)
def OKi (s:ByteArray) (k i:Nat):List Nat:=(((nt s k).drop i).map fun x=>idx s x.2).reverse
theorem LKi_zero (s:ByteArray) (k:Nat):LKi s k 0=LK s k:=by
 unfold LKi LK
 congr 1
theorem OKi_len (s:ByteArray) (k i:Nat):(OKi s k i).length=(nt s k).length - i:=by unfold OKi;simp
theorem not_taken {s:ByteArray} {k i m f:Nat} {R:List Fr} (h:(nt s k).drop i=(m,f)::R):((nt s k).take i).any (fun y=>y.2==f)=false:=by
 have hp:=nt_pw s k
 rw [←List.take_append_drop i (nt s k),h]at hp
 rw [Bool.eq_false_iff]
 intro g
 obtain⟨y,hy,e⟩:=List.any_eq_true.1 g
 have:=(List.pairwise_append.1 hp).2.2 y hy (m,f) (by simp)
 simp at e
 simp at this
 omega
theorem drop_pres {s:ByteArray} {k i m f:Nat} {R:List Fr} (h:(nt s k).drop i=(m,f)::R):pres s k f=true∧md s k f=m∧i<(nt s k).length:=by
 have e:nt s k=(nt s k).take i++(m,f)::R:=by rw [←h,List.take_append_drop]
 refine⟨pres_at e,md_at e,?_⟩
 apply Classical.byContradiction
 intro g
 rw [List.drop_eq_nil_of_le (by omega)]at h
 cases h
theorem LKi_get {s:ByteArray} {k i m f:Nat} {R:List Fr} (h:(nt s k).drop i=(m,f)::R):(LKi s k i)[idx s f]?=some (prtK s k f):=by
 obtain⟨hp,_,_⟩:=drop_pres h
 unfold LKi
 rw [List.getElem?_map,bornL_get s f (pres_born hp) (pres_lt hp),Option.map_some]
 unfold Gi
 rw [if_neg (by rw [not_taken h];simp)]
theorem LKi_succ {s:ByteArray} {k i m f:Nat} {R:List Fr} (h:(nt s k).drop i=(m,f)::R):(LKi s k i).set (idx s f) (closeP s (k+1) false (prtK s k f))=LKi s k (i+1):=by
 obtain⟨hp,_,hi⟩:=drop_pres h
 unfold LKi
 rw [map_set (pres_born hp) (pres_lt hp)]
 apply List.map_congr_left
 intro x _
 have e:(nt s k).take (i+1)=(nt s k).take i++ [(m,f)]:=by
  rw [List.take_add_one]
  have:(nt s k)[i]?=some (m,f):=by
   have h2:=congrArg (fun l=>l[0]?) h
   simpa using h2
  rw [this]
  rfl
 unfold Gi
 rw [e,List.any_append]
 by_cases g:x=f
 ·subst g
  simp
 ·rw [if_neg g]
  have:([(m,f)].any fun y=>y.2==x)=false:=by simp;omega
  rw [this,Bool.or_false]
theorem OKi_last {s:ByteArray} {k i m f:Nat} {R:List Fr} (h:(nt s k).drop i=(m,f)::R):OKi s k i=OKi s k (i+1)++ [idx s f]:=by
 unfold OKi
 rw [h,List.map_cons,List.reverse_cons]
 congr 2
 have:(nt s k).drop (i+1)=R:=by rw [←List.drop_drop,h];rfl
 rw [this]
theorem prtK_step {s:ByteArray} {k f:Nat} (h:pres s (k+1) f=true) (hf:f<k):prtK s (k+1) f={ prtK s k f with mode:=cnt (md s (k+1) f)}:=by
 rw [prtK_in h,prtK_in (pres_back h hf)]
theorem LK_none {s:ByteArray} {k j:Nat} {T:List Fr} (hS:Sim T ((nt s k).drop j)) (hN:nt s (k+1)=T∨∃n,nt s (k+1)=(n,k)::T) (hD:(nt s k).drop j=[]):LKi s k j=(bornL s k).map (prtK s (k+1)):=by
 unfold LKi
 apply List.map_congr_left
 intro x hx
 obtain⟨hlt,_⟩:=bornL_mem.1 hx
 have h':pres s (k+1) x=false:=by
  rw [Bool.eq_false_iff]
  intro g
  obtain⟨m,hm⟩:=(stay hS hN hlt).1 g
  rw [hD]at hm
  cases hm
 unfold Gi
 by_cases h:pres s k x=true
 ·have:(nt s k).take j=nt s k:=List.take_of_length_le (by
   apply Classical.byContradiction
   intro g
   have:=congrArg List.length hD
   simp at this
   omega)
  have h3:(nt s k).any (fun y=>y.2==x)=true:=h
  rw [this,if_pos h3,prtK_shut h h']
 ·have h2:pres s k x=false:=by simpa using h
  rw [if_neg,prtK_same hlt h2]
  intro g
  obtain⟨y,hy,e⟩:=List.any_eq_true.1 g
  exact h (List.any_eq_true.2 ⟨y,List.mem_of_mem_take hy,e⟩)
theorem LK_some {s:ByteArray} {k j m f:Nat} {R T:List Fr} (hS:Sim T ((nt s k).drop j)) (hN:nt s (k+1)=T∨∃n,nt s (k+1)=(n,k)::T) (hD:(nt s k).drop j=(m,f)::R):
  (LKi s k j).set (idx s f) { prtK s k f with mode:=cnt (md s (k+1) f)}=(bornL s k).map (prtK s (k+1)):=by
 obtain⟨hp,hm,hj⟩:=drop_pres hD
 unfold LKi
 rw [map_set (pres_born hp) (pres_lt hp)]
 apply List.map_congr_left
 intro x hx
 obtain⟨hlt,_⟩:=bornL_mem.1 hx
 by_cases g:x=f
 ·subst g
  rw [if_pos rfl,prtK_step ((stay hS hN hlt).2 ⟨m,by rw [hD];simp⟩) hlt]
 rw [if_neg g]
 unfold Gi
 by_cases ht:((nt s k).take j).any (fun y=>y.2==x)=true
 ·rw [if_pos ht]
  obtain⟨y,hy,e⟩:=List.any_eq_true.1 ht
  have h:pres s k x=true:=List.any_eq_true.2 ⟨y,List.mem_of_mem_take hy,e⟩
  have h':pres s (k+1) x=false:=by
   rw [Bool.eq_false_iff]
   intro g2
   obtain⟨n,hn⟩:=(stay hS hN hlt).1 g2
   have hpw:=nt_pw s k
   rw [←List.take_append_drop j (nt s k)]at hpw
   have:=(List.pairwise_append.1 hpw).2.2 y hy _ hn
   simp at e this
   omega
  rw [prtK_shut h h']
 ·rw [if_neg ht]
  by_cases h:pres s k x=true
  ·
   have hR:∃n,(n,x)∈R:=by
    obtain⟨n,hn⟩:=pres_iff.1 h
    rw [←List.take_append_drop j (nt s k),hD]at hn
    rcases List.mem_append.1 hn with hn|hn
    ·exact absurd (List.any_eq_true.2 ⟨_,hn,by simp⟩) ht
    ·rcases List.mem_cons.1 hn with hn|hn
     ·simp at hn;exact absurd hn.2 g
     ·exact⟨n,hn⟩
   obtain⟨n,hn⟩:=hR
   obtain⟨A,B,rfl⟩:=List.append_of_mem hn
   have h1:md s k x=n:=md_at (A:=(nt s k).take j++(m,f)::A) (R:=B) (by rw [List.append_assoc,List.cons_append,←hD,List.take_append_drop])
   have hT:T.tail=A++(n,x)::B:=by rw [(sim_places hS).2,hD];rfl
   have hT2:∃a,T=a::(A++(n,x)::B):=by
    cases T with
    |nil=>simp at hT
    |cons a T=>exact⟨a,by rw [←hT];rfl⟩
   obtain⟨a,rfl⟩:=hT2
   have h2:md s (k+1) x=n:=by
    rcases hN with hN|⟨n2,hN⟩
    ·exact md_at (A:=a::A) (R:=B) hN
    ·exact md_at (A:=(n2,k)::a::A) (R:=B) hN
   rw [prtK_step ((stay hS hN hlt).2 ⟨n,by rw [hD];simp⟩) hlt,h2,←h1,prtK_in h]
  ·have h2:pres s k x=false:=by simpa using h
   rw [prtK_same hlt h2]
theorem LK_next (s:ByteArray) (k:Nat):LK s (k+1)=(bornL s k).map (prtK s (k+1))++if born s k=true then [prtK s (k+1) k]else []:=by
 unfold LK
 rw [bornL_succ,List.map_append]
 congr 1
 split<;>rfl
theorem not_born {s:ByteArray} {k:Nat} {T:List Fr} {j:Nat} (hS:Sim T ((nt s k).drop j)) (hN:nt s (k+1)=T):born s k=false:=by
 unfold born
 rw [Bool.eq_false_iff]
 intro g
 obtain⟨m,hm⟩:=pres_iff.1 g
 rw [hN]at hm
 obtain⟨m2,hm2⟩:=sim_mem hS ⟨m,hm⟩
 have:=nt_lt s k (List.mem_of_mem_drop hm2)
 simp at this
theorem is_born {s:ByteArray} {k n:Nat} {T:List Fr} (hN:nt s (k+1)=(n,k)::T) (ho:opensM n):born s k=true∧prtK s (k+1) k=⟨n,k,0,upI s k,false⟩∧blw s k=T:=by
 have hp:pres s (k+1) k=true:=pres_at (A:=[]) hN
 have hm:md s (k+1) k=n:=md_at (A:=[]) hN
 refine⟨hp,?_,?_⟩
 ·rw [prtK_in hp,hm,cnt_opens ho]
 ·unfold blw
  rw [hN]
  rfl
theorem OK_same {s:ByteArray} {k j:Nat} {T:List Fr} (hS:Sim T ((nt s k).drop j)):(T.map fun x=>idx s x.2).reverse=OKi s k j:=by
 unfold OKi
 congr 1
 have:=(sim_places hS).1
 have h2:=congrArg (List.map (idx s)) this
 rw [List.map_map,List.map_map]at h2
 exact h2
end Go.Proofs.YtkolpaonccmgiaaGreatDoor

/- What class's Of, Name, IsName, Assign, Reserved an -/
import Derived.Test.YtkolpaonccmgiaaGreatDoorSc
import Derived.Test.YtkolpaonccmgiaaGreatDoorShelf
set_option linter.unusedVariables false
namespace Go.Proofs.YtkolpaonccmgiaaGreatDoor.Q
set_option linter.unusedVariables false
open Go.RowKit
set_option maxRecDepth 100000 in
set_option maxHeartbeats 2000000 in
theorem of_in (F:Fence) (n:Nat) (hf:F.fn 231) (hro:F.round=none) (c:Nat) (w:World):
  CallsIn F n Tryz.prog 231 #[.int .u8 c] w fun e w'=>e=.returned (.int .i64 (cls c:Nat))∧w'=w:=by
 refine callsIn_of_wp Tryz.func231 rfl hf ?_ hro
 simp only [Tryz.ntmps231,List.size_toArray,List.length_cons,List.length_nil,Nat.reduceAdd,Nat.reduceSub,Array.replicate_succ,Array.replicate_zero,List.push_toArray,List.append_toArray,List.nil_append,List.cons_append]
 gi_wp2
 all_goals
  go_ret
  refine⟨ret_int ?_,rfl⟩
  clear hro hf
  simp only [beq_iff_eq,beq_eq_false_iff_ne,ne_eq]at*
  unfold cls
  (repeat' split)<;>omega
theorem of_any (c:Nat) (w:World):Calls Tryz.prog 231 #[.int .u8 c] w fun e w'=>e=.returned (.int .i64 (cls c:Nat))∧w'=w:=
 (callsIn_wide (n:=1)).1 (of_in _ _ trivial rfl c w)
theorem inB_split (c:Nat) (s:ByteArray):inB c s=true↔∃i,i<s.size∧(bt s i).toNat=c:=by
 unfold inB
 rw [List.any_eq_true]
 constructor
 ·rintro⟨x,hx,he⟩
  obtain⟨i,hi,rfl⟩:=List.getElem_of_mem hx
  have hi':i<s.size:=by simpa using hi
  refine⟨i,hi',?_⟩
  rw [bt_eq hi']
  exact(beq_iff_eq.1 he).symm
 ·rintro⟨i,hi,he⟩
  refine⟨s[i],?_,?_⟩
  ·rw [ByteArray.getElem_eq_getElem_data]
   exact Array.getElem_mem_toList _
  ·rw [bt_eq hi]at he
   simp [he]
theorem by_yes {s:ByteArray} {k:Nat} {c:Nat} (h:k<s.size) (e:(bt s k).toNat=c):((s[k].toNat:Int)==(c:Int))=true:=by
 rw [bt_eq h]at e;rw [e];simp
theorem by_no {s:ByteArray} {k:Nat} {c:Nat} (h:k<s.size) (e:(bt s k).toNat≠c):((s[k].toNat:Int)==(c:Int))=false:=by
 rw [bt_eq h]at e
 rw [beq_eq_false_iff_ne]
 intro g
 exact e (by omega)
def InRel (c:Nat) (s:ByteArray) (w:World) (v:Value) (wr:World):Prop:=∃k:Nat,k≤s.size∧v=.int .i64 k∧(∀i,i<k→(bt s i).toNat≠c)∧wr=w
set_option maxHeartbeats 1000000 in
theorem in_any (c:Nat) (s:ByteArray) (w:World) (hs:s.size≤1000000):
  Calls Tryz.prog 54 #[.int .u8 c,.string s] w fun e w'=>e=.returned (.bool (inB c s))∧w'=w:=by
 go_enter Tryz.func54,Tryz.ntmps54
 go_wp2
 go_loopw [5] (fun v wr=>InRel c s w v wr) (fun v _=>s.size - (intOf v).toNat)
 case atStart=>exact⟨0,Nat.zero_le _,rfl,fun i h=>by omega,rfl⟩
 case round=>
  obtain⟨k,hk,rfl,hn,rfl⟩:=hrel
  have HN:=Lib.hid hn
  clear hn
  by_cases hlt:(k:Int)<s.size
  ·have hlt':k<s.size:=by omega
   by_cases e:(bt s k).toNat=c
   ·have t1:=by_yes hlt' e
    have HE:=Lib.hid e
    clear e
    go_wp2
    go_ret
    exact⟨ret_bool ((inB_split c s).2 ⟨k,hlt',HE.out⟩).symm,rfl⟩
   ·have t1:=by_no hlt' e
    have HE:=Lib.hid e
    clear e
    go_wp2
    go_roundw
    case rel=>
     refine⟨k+1,by omega,by go_num,fun i hi=>?_,rfl⟩
     by_cases g:i=k
     ·rw [g];exact HE.out
     ·exact HN.out i (by omega)
    case measure=>simp [intOf];omega
  ·obtain rfl:k=s.size:=by omega
   go_wp2
   go_ret
   refine⟨ret_bool ?_,rfl⟩
   symm
   rw [Bool.eq_false_iff]
   intro g
   obtain⟨i,hi,he⟩:=(inB_split c s).1 g
   exact HN.out i hi he
set_option maxHeartbeats 1000000 in
set_option maxRecDepth 100000 in
theorem class_any (c:Nat) (w:World):
  Calls Tryz.prog 89 #[.int .u8 c] w fun e w'=>e=.returned (.int .i64 (cls c:Nat))∧w'=w:=by
 have H1:=Lib.hid (inB_meta c)
 have H2:=Lib.hid (inB_quote c)
 have H3:=Lib.hid (inB_letter c)
 have H4:=Lib.hid (inB_digit c)
 go_enter Tryz.func89,Tryz.ntmps89
 go_wp2_with (go_at_call 54;refine(in_any _ _ _ (by decide)).mono ?_;rintro e w' ⟨rfl,rfl⟩)
 all_goals
  go_ret
  refine⟨ret_int ?_,rfl⟩
  have h1:=H1.out
  have h2:=H2.out
  have h3:=H3.out
  have h4:=H4.out
  clear H1 H2 H3 H4
  simp only [h1,h2,h3,h4,beq_iff_eq,beq_eq_false_iff_ne,ne_eq,decide_eq_true_eq,decide_eq_false_iff_not]at*
  clear h1 h2 h3 h4
  unfold cls
  (repeat' split)<;>omega
theorem may_any (c i:Nat) (w:World):
  Calls Tryz.prog 209 #[.int .i64 c,.int .i64 i] w fun e w'=>e=.returned (.bool (mayN c i))∧w'=w:=by
 by_cases h5:c=5
 ·subst h5
  go_enter Tryz.func209,Tryz.ntmps209
  go_wp2
  go_ret
  exact⟨ret_bool (by simp [mayN]),rfl⟩
 ·by_cases h6:c=6
  ·subst h6
   by_cases h0:i=0
   ·subst h0
    go_enter Tryz.func209,Tryz.ntmps209
    go_wp2
    go_ret
    exact⟨ret_bool (by simp [mayN]),rfl⟩
   ·have h1:decide (0<i)=true:=by simp;omega
    have h2:decide ((0:Int)<i)=true:=by simp;omega
    go_enter Tryz.func209,Tryz.ntmps209
    go_wp2
    go_ret
    exact⟨ret_bool (by unfold mayN;symm;rw [decide_eq_true_iff];omega),rfl⟩
  ·have h1:((c:Int)==5)=false:=by simp;omega
   have h2:((c:Int)==6)=false:=by simp;omega
   go_enter Tryz.func209,Tryz.ntmps209
   go_wp2
   go_ret
   refine⟨ret_bool ?_,rfl⟩
   unfold mayN
   symm
   rw [decide_eq_false_iff_not]
   omega
theorem may_eq (c i:Nat) (b:Bool) (h:mayN c i=b) (w:World):
  Calls Tryz.prog 209 #[.int .i64 c,.int .i64 i] w fun e w'=>e=.returned (.bool b)∧w'=w:=by
 rw [←h];exact may_any c i w
def MeRel (q:Nat→Bool) (z:Nat) (w:World) (v:Value) (wr:World):Prop:=∃k:Nat,k≤z∧v=.int .i64 k∧(∀i,i<k→q i=true)∧wr=w
set_option maxRecDepth 100000 in
set_option maxHeartbeats 1000000 in
theorem measure_out (s:ByteArray) (a:Int) (fv:Value) (w:World) (hs:s.size≤1000000) (h:a<0∨(s.size:Int)≤a):
  Calls Tryz.prog 208 #[.string s,.int .i64 a,fv] w fun e w'=>e=.returned (.int .i64 0)∧w'=w:=by
 by_cases g:a<0
 ·have hd:decide (a<0)=true:=by simpa using g
  clear h
  go_enter Tryz.func208,Tryz.ntmps208
  go_wp2
  go_step3
  go_wp2
  rw [Exit.noGoto_ret]
  go_ret
  exact⟨rfl,rfl⟩
 ·have h2:(s.size:Int)≤a:=by omega
  have hd:decide (a<0)=false:=by simpa using g
  have hd2:decide ((s.size:Int)≤a)=true:=by simpa using h2
  clear h
  go_enter Tryz.func208,Tryz.ntmps208
  go_wp2
  go_step3
  go_wp2
  rw [Exit.noGoto_ret]
  go_ret
  exact⟨rfl,rfl⟩
set_option maxRecDepth 100000 in
set_option maxHeartbeats 2000000 in
theorem measureN_any (s:ByteArray) (a:Nat) (w:World) (hs:s.size≤1000000) (h:a<s.size):
  Calls Tryz.prog 208 #[.string s,.int .i64 a,.func (.func 209) #[] #[]] w fun e w'=>e=.returned (.int .i64 (nameN s a:Nat))∧w'=w:=by
 have hi:(a:Int)<s.size:=by omega
 have hi2:(a:Int)≤s.size:=by omega
 have hd:decide ((a:Int)<0)=false:=by simp
 have hd2:decide (s.size≤a)=false:=by simp;omega
 go_enter Tryz.func208,Tryz.ntmps208
 go_wp2
 go_step3
 go_wp2
 go_step3
 go_wp2
 go_loopw [8] (fun v wr=>MeRel (fun i=>mayN (cl s (a+i)) i) (s.size - a) w v wr) (fun v _=>s.size - a - (intOf v).toNat)
 case atStart=>exact⟨0,Nat.zero_le _,rfl,fun i h=>by omega,rfl⟩
 case round=>
  obtain⟨k,hk,rfl,hq,rfl⟩:=hrel
  have HQ:=Lib.hid hq
  clear hq
  by_cases hlt:a+k<s.size
  ·have hx:(k:Int)<(s.size:Int) - a:=by omega
   have hx1:k<s.size - a:=by omega
   have hx2:(k:Int)<(s.extract a s.size).size:=by simp;omega
   have hx3:k<(s.extract a s.size).size:=by simp;omega
   have e1:(bt (s.extract a s.size) k)=bt s (a+k):=bt_extract s a s.size k (Nat.le_refl _) (by omega)
   rw [bt_eq hx3]at e1
   have e2:cls (s.extract a s.size)[k].toNat=cl s (a+k):=by rw [e1];rfl
   have E2:=Lib.hid e2
   clear e1 e2
   obtain⟨y,hy⟩:∃y,(mayN (cl s (a+k)) k)=y:=⟨_,rfl⟩
   have HY:=Lib.hid hy
   clear hy
   cases y
   all_goals
    go_wp2_with fail
    refine(of_any _ _).mono ?_
    rintro e w' ⟨rfl,rfl⟩
    rw [E2.out]
    go_wp2_with fail
    refine(may_eq _ _ _ HY.out _).mono ?_
    rintro e w' ⟨rfl,rfl⟩
    go_wp2
   ·rw [Exit.noGoto_ret]
    go_ret
    refine⟨ret_int ?_,rfl⟩
    rw [show nameN s a=k from lead_eq _ hk HQ.out (fun _=>HY.out)]
   ·go_roundw
    case rel=>
     refine⟨k+1,by omega,by go_num,fun i hi=>?_,rfl⟩
     by_cases g:i=k
     ·rw [g];exact HY.out
     ·exact HQ.out i (by omega)
    case measure=>simp [intOf];omega
  ·have hz:k=s.size - a:=by omega
   have HZ:=Lib.hid hz
   clear hz
   go_wp2
   go_ret
   refine⟨ret_int ?_,rfl⟩
   rw [show nameN s a=k from lead_eq _ hk HQ.out (fun g=>absurd HZ.out (Nat.ne_of_lt g))]
def atV (s:ByteArray) (a:Int) (f:Nat→Nat):Int:=if 0≤a∧a<s.size then(f a.toNat:Nat)else 0
theorem name_any (s:ByteArray) (a:Int) (w:World) (hs:s.size≤1000000):
  Calls Tryz.prog 182 #[.string s,.int .i64 a] w fun e w'=>e=.returned (.int .i64 (atV s a (nameN s)))∧w'=w:=by
 unfold atV
 by_cases h:0≤a∧a<s.size
 ·rw [if_pos h]
  obtain⟨k,rfl⟩:=Int.eq_ofNat_of_zero_le h.1
  have hk:k<s.size:=by omega
  clear h
  go_enter Tryz.func182,Tryz.ntmps182
  go_wp2_with fail
  refine(measureN_any s k _ hs hk).mono ?_
  rintro e w' ⟨rfl,rfl⟩
  go_wp2
  go_ret
  exact⟨rfl,rfl⟩
 ·rw [if_neg h]
  have h':a<0∨(s.size:Int)≤a:=by omega
  have H:=Lib.hid h'
  clear h h'
  go_enter Tryz.func182,Tryz.ntmps182
  go_wp2_with fail
  refine(measure_out s a _ _ hs H.out).mono ?_
  rintro e w' ⟨rfl,rfl⟩
  go_wp2
  go_ret
  exact⟨rfl,rfl⟩
theorem cl_at {s:ByteArray} {k:Nat} (h:k<s.size):cls s[k].toNat=cl s k:=by unfold cl;rw [bt_eq h]
theorem u8_lt (s:ByteArray) (k:Nat) (h:k<s.size):s[k].toNat<256:=s[k].toNat_lt
theorem of_at (s:ByteArray) (k:Nat) (h:k<s.size) (c:Nat) (e:cl s k=c) (w:World):
  Calls Tryz.prog 231 #[.int .u8 s[k].toNat] w fun e w'=>e=.returned (.int .i64 c)∧w'=w:=by
 rw [←e,←cl_at h];exact of_any _ _
theorem class_at (s:ByteArray) (k:Nat) (h:k<s.size) (c:Nat) (e:cl s k=c) (w:World):
  Calls Tryz.prog 89 #[.int .u8 s[k].toNat] w fun e w'=>e=.returned (.int .i64 c)∧w'=w:=by
 rw [←e,←cl_at h];exact class_any _ _
set_option maxHeartbeats 1000000 in
theorem isname_any (s:ByteArray) (w:World) (hs:s.size≤1000000):
  Calls Tryz.prog 147 #[.string s] w fun e w'=>e=.returned (.bool (isNm s))∧w'=w:=by
 rw [isNm_name]
 by_cases h0:s.size=0
 ·have hs0:s=⟨#[]⟩:=ByteArray.ext (Array.eq_empty_of_size_eq_zero h0)
  subst hs0
  go_enter Tryz.func147,Tryz.ntmps147
  go_wp2
  go_ret
  exact⟨rfl,rfl⟩
 ·have h1:s.toList≠ []:=by
   intro h
   rw [Go.ByteArray.toList_eq]at h
   exact h0 (by have:=congrArg List.length h;simpa using this)
  have h2:(!s.toList.isEmpty)=true:=by simpa using h1
  have h3:s.toList.isEmpty=false:=by simpa using h1
  have hv:atV s 0 (nameN s)=(nameN s 0:Nat):=by unfold atV;rw [if_pos ⟨by omega,by omega⟩];rfl
  have HV:=Lib.hid hv
  clear hv h0 h1
  go_enter Tryz.func147,Tryz.ntmps147
  go_wp2_with fail
  refine(name_any s 0 _ hs).mono ?_
  rintro e w' ⟨rfl,rfl⟩
  rw [HV.out]
  go_wp2
  go_ret
  refine⟨ret_bool ?_,rfl⟩
  rw [Bool.eq_iff_iff,decide_eq_true_iff,beq_iff_eq]
  constructor
  ·intro h
   refine⟨fun h0=>?_,by omega⟩
   rw [Go.ByteArray.toList_eq]at h3
   have:s.data.toList.length=0:=by simpa using h0
   rw [List.length_eq_zero_iff.1 this]at h3
   cases h3
  ·rintro⟨_,h⟩
   omega
def NmRel (s:ByteArray) (w:World) (v:Value) (wr:World):Prop:=∃k:Nat,1≤k∧k≤s.size∧v=.int .i64 k∧(∀i,i<k→mayN (cl s i) i=true)∧wr=w
set_option maxHeartbeats 2000000 in
theorem refisname_any (s:ByteArray) (w:World) (hs:s.size≤1000000):
  Calls Tryz.prog 62 #[.string s] w fun e w'=>e=.returned (.bool (isNm s))∧w'=w:=by
 by_cases h0:s.size=0
 ·have hz:((s.size:Int)==0)=true:=beq_iff_eq.2 (by omega)
  have hz2:(s.size==0)=true:=beq_iff_eq.2 h0
  have H0:=Lib.hid h0
  clear h0
  go_enter Tryz.func62,Tryz.ntmps62
  go_wp2
  go_ret
  exact⟨ret_bool (by unfold isNm;symm;rw [decide_eq_false_iff_not];exact fun h=>h.1 H0.out),rfl⟩
 ·have hp:0<s.size:=by omega
  have hp2:(0:Int)<s.size:=by omega
  have hz:((s.size:Int)==0)=false:=beq_eq_false_iff_ne.2 (by omega)
  have hz2:(s.size==0)=false:=beq_eq_false_iff_ne.2 h0
  obtain⟨c,hc⟩:∃c,cl s 0=c:=⟨_,rfl⟩
  have HC:=Lib.hid hc
  by_cases h5:c=5
  ·subst h5
   clear hc h0
   go_enter Tryz.func62,Tryz.ntmps62
   go_wp2_with fail
   refine(class_at s 0 hp 5 HC.out _).mono ?_
   rintro e w' ⟨rfl,rfl⟩
   go_wp2
   go_loopw [3] (fun v wr=>NmRel s w' v wr) (fun v _=>s.size - (intOf v).toNat)
   case atStart=>exact⟨1,Nat.le_refl _,hp,rfl,fun i h=>(by obtain rfl:i=0:=(by omega);rw [HC.out];rfl),rfl⟩
   case round=>
    obtain⟨k,hk1,hk,rfl,hn,rfl⟩:=hrel
    have HN:=Lib.hid hn
    clear hn
    by_cases hlt:(k:Int)<s.size
    ·have hlt':k<s.size:=by omega
     obtain⟨d,hd⟩:∃d,cl s k=d:=⟨_,rfl⟩
     have HD:=Lib.hid hd
     clear hd
     by_cases g:d=5∨d=6
     ·rcases g with rfl|rfl
      ·go_wp2_with fail
       refine(class_at s k hlt' 5 HD.out _).mono ?_
       rintro e w2 ⟨rfl,rfl⟩
       go_wp2
       go_roundw
       case rel=>
        refine⟨k+1,by omega,by omega,by go_num,fun i hi=>?_,rfl⟩
        by_cases g:i=k
        ·rw [g,HD.out];rfl
        ·exact HN.out i (by omega)
       case measure=>simp [intOf];omega
      ·go_wp2_with fail
       refine(class_at s k hlt' 6 HD.out _).mono ?_
       rintro e w2 ⟨rfl,rfl⟩
       go_wp2_with fail
       refine(class_at s k hlt' 6 HD.out _).mono ?_
       rintro e w2 ⟨rfl,rfl⟩
       go_wp2
       go_roundw
       case rel=>
        refine⟨k+1,by omega,by omega,by go_num,fun i hi=>?_,rfl⟩
        by_cases g:i=k
        ·rw [g,HD.out];unfold mayN;rw [decide_eq_true_iff];omega
        ·exact HN.out i (by omega)
       case measure=>simp [intOf];omega
     ·have g5:((d:Int)==5)=false:=by simp;omega
      have g6:((d:Int)==6)=false:=by simp;omega
      have n5:((d:Int)!=5)=true:=by simp;omega
      have n6:((d:Int)!=6)=true:=by simp;omega
      go_wp2_with fail
      refine(class_at s k hlt' d HD.out _).mono ?_
      rintro e w2 ⟨rfl,rfl⟩
      go_wp2_with fail
      refine(class_at s k hlt' d HD.out _).mono ?_
      rintro e w2 ⟨rfl,rfl⟩
      go_wp2
      go_ret
      refine⟨ret_bool ?_,rfl⟩
      unfold isNm
      symm
      rw [decide_eq_false_iff_not]
      rintro⟨_,h2⟩
      have:=h2 k hlt'
      rw [HD.out]at this
      unfold mayN at this
      rw [decide_eq_true_iff]at this
      omega
    ·obtain rfl:k=s.size:=by omega
     go_wp2
     go_ret
     refine⟨ret_bool ?_,rfl⟩
     unfold isNm
     symm
     rw [decide_eq_true_iff]
     exact⟨by omega,HN.out⟩
  ·have g5:((c:Int)==5)=false:=by simp;omega
   have n5:((c:Int)!=5)=true:=by simp;omega
   clear hc h0
   go_enter Tryz.func62,Tryz.ntmps62
   go_wp2_with fail
   refine(class_at s 0 hp c HC.out _).mono ?_
   rintro e w' ⟨rfl,rfl⟩
   go_wp2
   go_ret
   refine⟨ret_bool ?_,rfl⟩
   unfold isNm
   symm
   rw [decide_eq_false_iff_not]
   rintro⟨_,h2⟩
   have:=h2 0 hp
   rw [HC.out]at this
   unfold mayN at this
   rw [decide_eq_true_iff]at this
   omega
theorem refisname_eq (s:ByteArray) (w:World) (hs:s.size≤1000000) (b:Bool) (h:isNm s=b):
  Calls Tryz.prog 62 #[.string s] w fun e w'=>e=.returned (.bool b)∧w'=w:=by
 rw [←h];exact refisname_any s w hs
set_option maxHeartbeats 400000 in
theorem clone_any (s:ByteArray) (w:World) (hlim:s.size≤281474976710656):
  Calls Tryz.prog 92 #[.string s] w fun e w'=>e=.returned (.string s)∧Below w.heap.size w w':=by
 go_enter Tryz.func92,Tryz.ntmps92
 go_wp2_with (go_at_call 111;refine(Tryz.stringslite_Clone s _ hlim).mono ?_;rintro e w1 ⟨rfl,hb⟩)
 go_ret
 exact⟨rfl,hb⟩
set_option maxHeartbeats 400000 in
theorem shp_any (s t:ByteArray) (w:World) (hs:s.size≤281474976710656) (ht:t.size≤281474976710656):
  Calls Tryz.prog 216 #[.string s,.string t] w fun e w'=>e=.returned (.bool (hpB s t))∧w'=w:=by
 by_cases h:t.size≤s.size
 ·have hd:decide (t.size≤s.size)=true:=by simpa using h
  have hi:(t.size:Int)≤s.size:=by omega
  go_enter Tryz.func216,Tryz.ntmps216
  go_wp2
  go_ret
  refine⟨?_,rfl⟩
  show Ending.returned (Value.bool ((s.extract 0 t.size).toList==t.toList))=_
  rw [bs_eqb]
  unfold hpB
  simp [h]
 ·have hd:decide (t.size≤s.size)=false:=by simpa using h
  have hi:¬(t.size:Int)≤s.size:=by omega
  go_enter Tryz.func216,Tryz.ntmps216
  go_wp2
  go_ret
  refine⟨?_,rfl⟩
  show Ending.returned (Value.bool false)=_
  unfold hpB
  simp [h]
theorem hp_any (s t:ByteArray) (w:World) (hs:s.size≤281474976710656) (ht:t.size≤281474976710656):
  Calls Tryz.prog 188 #[.string s,.string t] w fun e w'=>e=.returned (.bool (hpB s t))∧w'=w:=by
 go_enter Tryz.func188,Tryz.ntmps188
 go_wp2_with (go_at_call 216;refine(shp_any _ _ _ hs ht).mono ?_;rintro e w1 ⟨rfl,rfl⟩)
 go_ret
 exact⟨rfl,rfl⟩
theorem hp_61 (s:ByteArray) (n:Nat) (hn:n≤s.size):hpB (s.extract n s.size) ⟨#[61]⟩=decide (n<s.size∧(bt s n).toNat=61):=by
 rw [fits_hp s _ n hn]
 congr 1
 apply propext
 have e1:(ByteArray.mk #[61]).size=1:=rfl
 unfold fits
 rw [e1]
 constructor
 ·rintro⟨h1,h2⟩
  refine⟨by omega,?_⟩
  have h3:=bt_extract s n (n+1) 0 (by omega) (by omega)
  rw [h2]at h3
  rw [show n+0=n from rfl]at h3
  rw [←h3];rfl
 ·rintro⟨h1,h2⟩
  refine⟨by omega,?_⟩
  apply ByteArray.ext
  apply Array.ext
  ·simp;omega
  ·intro i hi1 hi2
   obtain rfl:i=0:=by simp at hi2;omega
   simp only [ByteArray.data_extract,Array.getElem_extract,bt_getElem]
   apply UInt8.toNat_inj.1
   simpa using h2
def assignV (s:ByteArray):Value:=
 if assignN s=0 then .tuple #[.string ⟨#[]⟩,.string ⟨#[]⟩,.bool false]else .tuple #[.string (s.extract 0 (assignN s)),.string (s.extract (assignN s+1) s.size),.bool true]
theorem name0 (s:ByteArray) (w:World) (hs:s.size≤1000000):Calls Tryz.prog 182 #[.string s,.int .i64 0] w fun e w'=>e=.returned (.int .i64 (nameN s 0:Nat))∧w'=w:=by
 have:=name_any s 0 w hs
 have e:atV s 0 (nameN s)=(nameN s 0:Nat):=by
  unfold atV
  split
  ·rfl
  ·have:=nameN_le s 0
   omega
 rwa [e]at this
theorem below_two {w w2 w3:World} (h:Below w.drew.heap.size w.drew w2) (k:Below w2.heap.size w2 w3):Below w.heap.size w w3:=
 Below.trans (⟨h.os,h.tape,h.output,h.size,h.block⟩:Below w.heap.size w w2) (k.mono h.size)
set_option maxHeartbeats 2000000 in
theorem assign_any (s:ByteArray) (w:World) (hs:s.size≤1000000):
  Calls Tryz.prog 183 #[.string s] w fun e w'=>e=.returned (assignV s)∧Below w.heap.size w w':=by
 have hn:=fun w=>name0 s w hs
 obtain⟨m,hm⟩:∃m,nameN s 0=m:=⟨_,rfl⟩
 have hml:m≤s.size:=by have:=nameN_le s 0;omega
 have hml2:(m:Int)≤s.size:=by omega
 have hhp:=hp_61 s m hml
 rw [hm]at hn
 have hN:assignN s=if m≠0∧m<s.size∧(bt s m).toNat=61 then m else 0:=by unfold assignN;rw [hm]
 have HN:=Lib.hid hn
 have HM:=Lib.hid hm
 have HP:=Lib.hid hhp
 have HA:=Lib.hid hN
 clear hn hm hhp hN
 have hz:(s.extract m s.size).size≤281474976710656:=by simp;omega
 obtain⟨V,hV⟩:∃V,assignV s=V:=⟨_,rfl⟩
 rw [hV]
 have HV:=Lib.hid hV
 clear hV
 by_cases h0:m=0
 ·subst h0
  go_enter Tryz.func183,Tryz.ntmps183
  go_wp2_with fail
  refine(HN.out _).mono ?_
  rintro e w1 ⟨rfl,rfl⟩
  go_wp2
  go_ret3
  refine⟨?_,Below.refl _ _⟩
  have ha:assignN s=0:=by rw [HA.out,if_neg (fun g=>g.1 rfl)]
  rw [←HV.out]
  unfold assignV
  rw [ha,if_pos rfl]
  rfl
 ·have g0:((m:Int)==0)=false:=beq_eq_false_iff_ne.2 (by omega)
  by_cases hx:m<s.size∧(bt s m).toNat=61
  ·have ht:hpB (s.extract m s.size) ⟨#[61]⟩=true:=by rw [HP.out];simpa using hx
   have hx1:(m:Int)+1≤s.size:=by omega
   have z1:(s.extract 0 m).size≤281474976710656:=by simp;omega
   have z2:(s.extract (m+1) s.size).size≤281474976710656:=by simp;omega
   have hw1:IntKind.i64.wrap ((m:Int)+1)=(m:Int)+1:=IntWalk.i64_in _ (by omega)
   have ea:V=.tuple #[.string (s.extract 0 m),.string (s.extract (m+1) s.size),.bool true]:=by
    have ha:assignN s=m:=by rw [HA.out,if_pos ⟨h0,hx⟩]
    rw [←HV.out]
    unfold assignV
    rw [ha,if_neg h0]
   subst ea
   have ET:=Lib.hid ht
   clear h0 hx ht HV HA HP
   go_enter Tryz.func183,Tryz.ntmps183
   go_wp2_with fail
   refine(HN.out _).mono ?_
   rintro e w1 ⟨rfl,rfl⟩
   go_wp2_with fail
   refine(hp_any _ _ _ hz (by decide)).mono ?_
   rintro e w1 ⟨rfl,rfl⟩
   rw [ET.out]
   go_wp2
   go_region_with ((go_at_call 92;refine(clone_any _ _ (by first|exact z1|exact z2)).mono ?_;rintro e w2 ⟨rfl,hb⟩))
   all_goals
    go_wp2
    go_ret3
    refine⟨rfl,below_two ?_ hb⟩
    assumption
  ·have ht:hpB (s.extract m s.size) ⟨#[61]⟩=false:=by rw [HP.out];simpa using hx
   have ET:=Lib.hid ht
   clear ht
   go_enter Tryz.func183,Tryz.ntmps183
   go_wp2_with fail
   refine(HN.out _).mono ?_
   rintro e w1 ⟨rfl,rfl⟩
   go_wp2_with fail
   refine(hp_any _ _ _ hz (by decide)).mono ?_
   rintro e w1 ⟨rfl,rfl⟩
   rw [ET.out]
   go_wp2
   go_ret3
   refine⟨?_,Below.refl _ _⟩
   have ha:assignN s=0:=by rw [HA.out,if_neg (fun g=>hx g.2)]
   rw [←HV.out]
   unfold assignV
   rw [ha,if_pos rfl]
   rfl
def RaRel (s:ByteArray) (w:World) (v:Value) (wr:World):Prop:=∃k:Nat,1≤k∧(k≤s.size∨k=1)∧v=.int .i64 k∧(∀i,0<i→i<k→i<s.size→(bt s i).toNat=61→isNm (s.extract 0 i)=false)∧wr=w
set_option maxHeartbeats 1000000 in
theorem refassign_any (s:ByteArray) (w:World) (hs:s.size≤1000000):
  Calls Tryz.prog 57 #[.string s] w fun e w'=>e=.returned (.int .i64 (assignN s:Nat))∧w'=w:=by
 go_enter Tryz.func57,Tryz.ntmps57
 go_wp2
 go_loopw [3] (fun v wr=>RaRel s w v wr) (fun v _=>s.size+1 - (intOf v).toNat)
 case atStart=>exact⟨1,Nat.le_refl _,.inr rfl,rfl,fun i h1 h2=>by omega,rfl⟩
 case round=>
  obtain⟨k,hk1,hk,rfl,hn,rfl⟩:=hrel
  have hk3:k≤1000001:=by omega
  have HN:=Lib.hid hn
  have HK:=Lib.hid hk
  clear hn hk
  by_cases hlt:(k:Int)<s.size
  ·have hlt':k<s.size:=by omega
   have hle:(k:Int)≤s.size:=by omega
   have hz:(s.extract 0 k).size≤1000000:=by simp;omega
   by_cases e:(bt s k).toNat=61
   ·have t1:((s[k].toNat:Int)==61)=true:=by_yes hlt' e
    have HE:=Lib.hid e
    clear e
    obtain⟨b,hb⟩:∃b,isNm (s.extract 0 k)=b:=⟨_,rfl⟩
    have HB:=Lib.hid hb
    clear hb
    cases b
    ·go_wp2_with fail
     refine(refisname_eq _ _ hz _ HB.out).mono ?_
     rintro e w2 ⟨rfl,rfl⟩
     go_wp2
     go_roundw
     case rel=>
      refine⟨k+1,by omega,.inl (by omega),by go_num,fun i h1 h2 h3 h4=>?_,rfl⟩
      by_cases g:i=k
      ·rw [g];exact HB.out
      ·exact HN.out i h1 (by omega) h3 h4
     case measure=>simp [intOf];omega
    ·go_wp2_with fail
     refine(refisname_eq _ _ hz _ HB.out).mono ?_
     rintro e w2 ⟨rfl,rfl⟩
     go_wp2
     go_ret
     exact⟨ret_int (by rw [assign_at hk1 hlt' HE.out HB.out]),rfl⟩
   ·have t1:((s[k].toNat:Int)==61)=false:=by_no hlt' e
    have HE:=Lib.hid e
    clear e
    go_wp2
    go_roundw
    case rel=>
     refine⟨k+1,by omega,.inl (by omega),by go_num,fun i h1 h2 h3 h4=>?_,rfl⟩
     by_cases g:i=k
     ·rw [g]at h4;exact absurd h4 HE.out
     ·exact HN.out i h1 (by omega) h3 h4
    case measure=>simp [intOf];omega
  ·go_wp2
   go_ret
   exact⟨ret_int (by rw [assign_none (fun i h1 h2 h3=>HN.out i h1 (by omega) h2 h3)];rfl),rfl⟩
def ReRel (s:ByteArray) (w:World) (v:Value) (wr:World):Prop:=∃k:Nat,k≤66∧v=.int .i64 k∧(∀i,i<k→hit s i=false)∧wr=w
set_option maxHeartbeats 2000000 in
theorem refreserved_any (s:ByteArray) (w:World) (hs:s.size≤100):
  Calls Tryz.prog 52 #[.string s] w fun e w'=>e=.returned (.bool (resB s))∧w'=w:=by
 by_cases h0:s.size=0
 ·have hz:((s.size:Int)==0)=true:=beq_iff_eq.2 (by omega)
  have H0:=Lib.hid h0
  clear h0
  go_enter Tryz.func52,Tryz.ntmps52
  go_wp2
  go_ret
  refine⟨ret_bool ?_,rfl⟩
  have:s=⟨#[]⟩:=ByteArray.ext (Array.eq_empty_of_size_eq_zero H0.out)
  subst this
  rfl
 ·have hz:((s.size:Int)==0)=false:=beq_eq_false_iff_ne.2 (by omega)
  obtain⟨b,hb⟩:∃b,inB 32 s=b:=⟨_,rfl⟩
  have HB:=Lib.hid hb
  have hin:=fun w=>in_any 32 s w (by omega)
  rw [hb]at hin
  have HI:=Lib.hid hin
  clear hb hin
  cases b
  ·obtain⟨r,hr⟩:∃r,resB s=r:=⟨_,rfl⟩
   rw [hr]
   have HR:=Lib.hid hr
   clear hr
   go_enter Tryz.func52,Tryz.ntmps52
   go_wp2_with fail
   refine(HI.out _).mono ?_
   rintro e w1 ⟨rfl,rfl⟩
   go_wp2
   go_loopw [4] (fun v wr=>ReRel s w1 v wr) (fun v _=>66 - (intOf v).toNat)
   case atStart=>exact⟨0,by omega,rfl,fun i h=>by omega,rfl⟩
   case round=>
    obtain⟨k,hk,rfl,hn,rfl⟩:=hrel
    have HN:=Lib.hid hn
    clear hn
    by_cases hle:(k:Int)+(1+s.size+1)≤65
    ·obtain⟨x,hx⟩:∃x,hit s k=x:=⟨_,rfl⟩
     have t:=hx
     unfold hit wtext at t
     have HX:=Lib.hid hx
     clear hx
     cases x
     ·go_wp2
      go_roundw
      case rel=>
       refine⟨k+1,by omega,by go_num,fun i hi=>?_,rfl⟩
       by_cases g:i=k
       ·rw [g];exact HX.out
       ·exact HN.out i (by omega)
      case measure=>simp [intOf];omega
     ·go_wp2
      go_ret
      exact⟨ret_bool (by rw [←HR.out,hit_word h0 HB.out (by omega) HX.out]),rfl⟩
    ·have hgt:(65:Int)<(k:Int)+(1+s.size+1):=by omega
     clear hle
     go_wp2
     go_ret
     refine⟨ret_bool ?_,rfl⟩
     symm
     rw [Bool.eq_false_iff]
     intro g
     rw [←HR.out]at g
     obtain⟨i,hi,hh⟩:=word_hit g
     rw [HN.out i (by omega)]at hh
     cases hh
  ·have hr:resB s=false:=by
    rw [Bool.eq_false_iff]
    intro g
    have hw:(words.all fun l=>!l.contains 32)=true:=by decide
    rw [List.all_eq_true]at hw
    have h1:=hw s.data.toList (by unfold resB at g;simpa using g)
    rw [←inB_32,HB.out]at h1
    cases h1
   rw [hr]
   have HR:=Lib.hid hr
   clear hr
   go_enter Tryz.func52,Tryz.ntmps52
   go_wp2_with fail
   refine(HI.out _).mono ?_
   rintro e w1 ⟨rfl,rfl⟩
   go_wp2
   go_ret
   exact⟨rfl,rfl⟩
end Go.Proofs.YtkolpaonccmgiaaGreatDoor.Q

/- What Digits and Blanks of class, At and Of of oper -/
import Derived.Test.YtkolpaonccmgiaaGreatDoorQt
set_option linter.unusedVariables false
namespace Go.Proofs.YtkolpaonccmgiaaGreatDoor
set_option linter.unusedVariables false
open Go.RowKit
theorem is_any (c i d b:Nat) (w:World) (hc:w.cell? ⟨b,0,none⟩=some (.int .i64 d)):
  Calls Tryz.prog 236 #[.int .i64 c,.int .i64 i,.pointer (some ⟨b,0,none⟩)] w fun e w'=>e=.returned (.bool (decide (c=d)))∧w'=w:=by
 go_enter Tryz.func236,Tryz.ntmps236
 go_wp2
 go_ret
 exact⟨ret_bool (by rw [Bool.eq_iff_iff,decide_eq_true_iff,beq_iff_eq];omega),rfl⟩
theorem is_eq (c i d b:Nat) (w:World) (hc:w.cell? ⟨b,0,none⟩=some (.int .i64 d)) (x:Bool) (h:decide (c=d)=x):
  Calls Tryz.prog 236 #[.int .i64 c,.int .i64 i,.pointer (some ⟨b,0,none⟩)] w fun e w'=>e=.returned (.bool x)∧w'=w:=by
 rw [←h];exact is_any c i d b w hc
set_option maxRecDepth 100000 in
set_option maxHeartbeats 2000000 in
theorem measureR_any (s:ByteArray) (a:Nat) (w:World) (hs:s.size≤1000000) (h:a<s.size) (d b:Nat) (hc:w.cell? ⟨b,0,none⟩=some (.int .i64 d)):
  Calls Tryz.prog 208 #[.string s,.int .i64 a,.func (.func 236) #[] #[.pointer (some ⟨b,0,none⟩)]] w fun e w'=>e=.returned (.int .i64 (rowN s a d:Nat))∧w'=w:=by
 have hi:(a:Int)<s.size:=by omega
 have hi2:(a:Int)≤s.size:=by omega
 have hd:decide ((a:Int)<0)=false:=by simp
 have hd2:decide (s.size≤a)=false:=by simp;omega
 go_enter Tryz.func208,Tryz.ntmps208
 go_wp2
 go_step3
 go_wp2
 go_step3
 go_wp2
 go_loopw [8] (fun v wr=>MeRel (fun i=>decide (cl s (a+i)=d)) (s.size - a) w v wr) (fun v _=>s.size - a - (intOf v).toNat)
 case atStart=>exact⟨0,Nat.zero_le _,rfl,fun i h=>by omega,rfl⟩
 case round=>
  obtain⟨k,hk,rfl,hq,rfl⟩:=hrel
  have HQ:=Lib.hid hq
  clear hq
  by_cases hlt:a+k<s.size
  ·have hx:(k:Int)<(s.size:Int) - a:=by omega
   have hx1:k<s.size - a:=by omega
   have hx2:(k:Int)<(s.extract a s.size).size:=by simp;omega
   have hx3:k<(s.extract a s.size).size:=by simp;omega
   have e1:(bt (s.extract a s.size) k)=bt s (a+k):=bt_extract s a s.size k (Nat.le_refl _) (by omega)
   rw [bt_eq hx3]at e1
   have e2:cls (s.extract a s.size)[k].toNat=cl s (a+k):=by rw [e1];rfl
   have E2:=Lib.hid e2
   clear e1 e2
   obtain⟨y,hy⟩:∃y,(decide (cl s (a+k)=d))=y:=⟨_,rfl⟩
   have HY:=Lib.hid hy
   clear hy
   cases y
   all_goals
    go_wp2_with fail
    refine(of_any _ _).mono ?_
    rintro e w' ⟨rfl,rfl⟩
    rw [E2.out]
    go_wp2_with fail
    refine(is_eq _ _ _ _ _ hc _ HY.out).mono ?_
    rintro e w' ⟨rfl,rfl⟩
    go_wp2
   ·rw [Exit.noGoto_ret]
    go_ret
    refine⟨ret_int ?_,rfl⟩
    rw [show rowN s a d=k from lead_eq _ hk HQ.out (fun _=>HY.out)]
   ·go_roundw
    case rel=>
     refine⟨k+1,by omega,by go_num,fun i hi=>?_,rfl⟩
     by_cases g:i=k
     ·rw [g];exact HY.out
     ·exact HQ.out i (by omega)
    case measure=>simp [intOf];omega
  ·have hz:k=s.size - a:=by omega
   have HZ:=Lib.hid hz
   clear hz
   go_wp2
   go_ret
   refine⟨ret_int ?_,rfl⟩
   rw [show rowN s a d=k from lead_eq _ hk HQ.out (fun g=>absurd HZ.out (Nat.ne_of_lt g))]
theorem row_any (s:ByteArray) (a:Int) (d:Nat) (w:World) (hs:s.size≤1000000):
  Calls Tryz.prog 215 #[.string s,.int .i64 a,.int .i64 d] w fun e w'=>e=.returned (.int .i64 (atV s a (fun k=>rowN s k d)))∧w'=w.alloc (.cells #[.int .i64 d] 3):=by
 have hc:=(Blk.new w #[.int .i64 (d:Int)] 3).cell 0
 unfold atV
 by_cases h:0≤a∧a<s.size
 ·rw [if_pos h]
  obtain⟨k,rfl⟩:=Int.eq_ofNat_of_zero_le h.1
  have hk:k<s.size:=by omega
  clear h
  go_enter Tryz.func215,Tryz.ntmps215
  go_wp2_with fail
  refine(measureR_any s k _ hs hk d _ hc).mono ?_
  rintro e w' ⟨rfl,rfl⟩
  go_wp2
  go_ret
  exact⟨rfl,rfl⟩
 ·rw [if_neg h]
  have h':a<0∨(s.size:Int)≤a:=by omega
  have H:=Lib.hid h'
  clear h h'
  go_enter Tryz.func215,Tryz.ntmps215
  go_wp2_with fail
  refine(measure_out s a _ _ hs H.out).mono ?_
  rintro e w' ⟨rfl,rfl⟩
  go_wp2
  go_ret
  exact⟨rfl,rfl⟩
theorem digits_any (s:ByteArray) (a:Int) (w:World) (hs:s.size≤1000000):
  Calls Tryz.prog 190 #[.string s,.int .i64 a] w fun e w'=>e=.returned (.int .i64 (atV s a (fun k=>rowN s k 6)))∧Below w.heap.size w w':=by
 go_enter Tryz.func190,Tryz.ntmps190
 go_wp2_with (go_at_call 215;refine(row_any s a 6 _ hs).mono ?_;rintro e w' ⟨rfl,rfl⟩)
 go_ret
 exact⟨rfl,(Below.refl _ _).alloc (Nat.le_refl _) _⟩
theorem blanks_any (s:ByteArray) (a:Int) (w:World) (hs:s.size≤1000000):
  Calls Tryz.prog 187 #[.string s,.int .i64 a] w fun e w'=>e=.returned (.int .i64 (atV s a (fun k=>rowN s k 1)))∧Below w.heap.size w w':=by
 go_enter Tryz.func187,Tryz.ntmps187
 go_wp2_with (go_at_call 215;refine(row_any s a 1 _ hs).mono ?_;rintro e w' ⟨rfl,rfl⟩)
 go_ret
 exact⟨rfl,(Below.refl _ _).alloc (Nat.le_refl _) _⟩
def Drew (w w':World):Prop:=∃q,w'=w.drewN q
theorem Drew.below {w w':World} (h:Drew w w') {n:Nat}:Below n w w':=by obtain⟨q,rfl⟩:=h;exact below_drewN (Below.refl _ _) _
theorem Drew.refl (w:World):Drew w w:=⟨0,rfl⟩
theorem Drew.trans {a b c:World} (h:Drew a b) (k:Drew b c):Drew a c:=by obtain⟨q,rfl⟩:=h;obtain⟨r,rfl⟩:=k;exact⟨q+r,by simp [World.drewN,Nat.add_assoc]⟩
theorem Drew.drew {a b:World} (h:Drew a b):Drew a b.drew:=by obtain⟨q,rfl⟩:=h;exact⟨q+1,rfl⟩
theorem Drew.drewN {a b:World} (h:Drew a b) (n:Nat):Drew a (b.drewN n):=h.trans ⟨n,rfl⟩
theorem Drew.cell {a b:World} (h:Drew a b) (p:Addr):b.cell? p=a.cell? p:=by obtain⟨q,rfl⟩:=h;rfl
theorem Drew.heap {a b:World} (h:Drew a b):b.heap=a.heap:=by obtain⟨q,rfl⟩:=h;rfl
def Tx (w:World):Prop:=0<w.heap.size∧∀i,i<18→w.cell? ⟨0,i,none⟩=some (.string (txt i))
theorem Tx.below {w w':World} {n:Nat} (h:Tx w) (hb:Below n w w') (hn:0<n):Tx w':=
 ⟨Nat.lt_of_lt_of_le h.1 hb.size,fun i hi=>(hb.cell (p:=⟨0,i,none⟩) hn).trans (h.2 i hi)⟩
theorem Tx.b {w w':World} (h:Tx w) (hb:Below w.heap.size w w'):Tx w':=h.below hb h.1
theorem Tx.d {w w':World} (h:Tx w) (hb:Drew w w'):Tx w':=h.b hb.below
def OuRel (s:ByteArray) (k z:Nat) (w:World) (v4 v:Value) (wr:World):Prop:=
 ∃n:Nat,v4=.int .i64 0∧n≤3∧n≤z∧v=.int .i64 n∧(∀i∈ops,n<(txt i).size→¬fits s k (txt i))∧Drew w wr
def InRelO (x:ByteArray) (w:World) (v4 v:Value) (wr:World):Prop:=
 ∃j:Nat,v4=.int .i64 0∧j≤18∧v=.int .i64 j∧(∀i,i<j→x≠txt i)∧Drew w wr
set_option maxRecDepth 100000 in
set_option maxHeartbeats 2000000 in
theorem opat_in (s:ByteArray) (k:Nat) (w:World) (hs:s.size≤1000000) (hT:Tx w) (hk:k<s.size):
  Calls Tryz.prog 128 #[.string s,.int .i64 k] w fun e w'=>e=.returned (.tuple #[.int .i64 (opN s k:Nat),.int .i64 ((txt (opN s k)).size:Nat)])∧Drew w w':=by
 have hd:decide ((k:Int)<0)=false:=decide_eq_false_iff_not.2 (by omega)
 have hd2:decide ((s.size:Int)≤k)=false:=decide_eq_false_iff_not.2 (by omega)
 have hd3:decide (s.size≤k)=false:=decide_eq_false_iff_not.2 (by omega)
 have hi:(k:Int)≤s.size:=by omega
 obtain⟨x,hx⟩:∃x,s.extract k s.size=x:=⟨_,rfl⟩
 obtain⟨z,hz⟩:∃z,x.size=z:=⟨_,rfl⟩
 have hz2:z=s.size - k:=by rw [←hz,←hx];simp
 obtain⟨m,hm⟩:∃m:Nat,(if(z:Int)<3 then(z:Int)else 3)=(m:Int):=⟨min 3 z,by split<;>omega⟩
 have hm3:m≤3∧m≤z∧(m=3∨m=z):=by split at hm<;>omega
 obtain⟨hm3,hmz,hmo⟩:=hm3
 have HM:=Lib.hid hm
 have HZ2:=Lib.hid hz2
 have HX:=Lib.hid hx
 clear hz2
 go_enter Tryz.func128,Tryz.ntmps128
 go_wp2
 go_step3
 go_wp2
 go_step3
 go_wp2
 go_loopw [4,5] (fun v4 v5 wr=>OuRel s k z w v4 v5 wr) (fun _ v _=>(intOf v).toNat)
 case atStart=>
  refine⟨m,rfl,hm3,hmz,rfl,fun i hi hlt hf=>?_,Drew.refl _⟩
  have h1:=txt_le i
  have h2:=hf.1
  have h3:=HZ2.out
  omega
 case round=>
  obtain⟨n,rfl,hn3,hnz,rfl,hno,hdr⟩:=hrel
  have HNO:=Lib.hid hno
  clear hno
  rcases Nat.eq_zero_or_pos n with rfl|hpos
  ·go_wp2
   rw [Exit.noGoto_ret]
   go_ret2
   have h0:opN s k=0:=opN_none HNO.out
   refine⟨?_,hdr⟩
   rw [h0]
   rfl
  ·have hp:decide ((0:Int)<n)=true:=decide_eq_true_iff.2 (by omega)
   have hp2:decide (0<n)=true:=decide_eq_true_iff.2 (by omega)
   have hkn:k+n≤s.size:=by have:=HZ2.out;omega
   go_wp2
   go_loopw [4,26] (fun v4 v wq=>InRelO (x.extract 0 n) w v4 v wq) (fun _ v _=>18 - (intOf v).toNat)
   case atStart=>exact⟨0,rfl,by omega,rfl,fun i hi=>absurd hi (by omega),hdr⟩
   case round=>
    obtain⟨j,rfl,hj,rfl,hne,hdr2⟩:=hrel
    have HNE:=Lib.hid hne
    clear hne
    by_cases hlt:j<18
    ·have hc:=(hT.d hdr2).2 j hlt
     by_cases e:txt j=x.extract 0 n
     ·have t1:((txt j).toList==(x.extract 0 n).toList)=true:=by rw [bs_eqb];exact decide_eq_true_iff.2 e
      have HE:=Lib.hid e
      clear e
      go_wp2
      go_quiet (fail)
      go_wp2
      rw [Exit.noGoto_ret]
      go_ret2
      have hj0:1≤j:=by
       refine Nat.pos_of_ne_zero fun g=>?_
       have h1:=((rest_eq (d:=txt j) hkn).1 (by rw [HX.out];exact HE.out.symm)).1
       rw [g]at h1
       have:(txt 0).size=0:=rfl
       omega
      have hm:j∈ops:=mem_ops.2 ⟨hj0,by omega⟩
      have hf:=(rest_eq (d:=txt j) hkn).1 (by rw [HX.out];exact HE.out.symm)
      have h0:opN s k=j:=opN_found hm hf.1 hf.2 HNO.out
      refine⟨?_,hdr2.drewN _⟩
      rw [h0,hf.1]
      rfl
     ·have t1:((txt j).toList==(x.extract 0 n).toList)=false:=by rw [bs_eqb];exact decide_eq_false_iff_not.2 e
      have HE:=Lib.hid e
      clear e
      go_wp2
      go_quiet (fail)
      go_wp2
      go_roundw
      case rel=>
       refine⟨j+1,rfl,by omega,by go_num,fun i hi=>?_,hdr2.drewN _⟩
       by_cases g:i=j
       ·rw [g];exact fun h=>HE.out h.symm
       ·exact HNE.out i (by omega)
      case measure=>simp [intOf];omega
    ·obtain rfl:j=18:=by omega
     go_wp2
     go_roundw
     case rel=>
      refine⟨n - 1,rfl,by omega,by omega,by first|rfl|(congr 1;omega)|(simp;omega),fun i hi hlt hf=>?_,hdr2⟩
      by_cases g:n<(txt i).size
      ·exact HNO.out i hi g hf
      ·refine HNE.out i (by have:=(mem_ops.1 hi).2;omega) ?_
       rw [←HX.out]
       exact(rest_eq hkn).2 ⟨by omega,hf⟩
     case measure=>simp [intOf];omega
def atO (s:ByteArray) (a:Int):Nat:=if 0≤a∧a<s.size then opN s a.toNat else 0
theorem atO_in {s:ByteArray} {k:Nat} (h:k<s.size):atO s k=opN s k:=by
 unfold atO
 rw [if_pos ⟨by omega,by omega⟩,Int.toNat_natCast]
set_option maxRecDepth 100000 in
theorem opat_any (s:ByteArray) (a:Int) (w:World) (hs:s.size≤1000000) (hT:Tx w):
  Calls Tryz.prog 128 #[.string s,.int .i64 a] w fun e w'=>e=.returned (.tuple #[.int .i64 (atO s a:Nat),.int .i64 ((txt (atO s a)).size:Nat)])∧Drew w w':=by
 by_cases h:0≤a∧a<s.size
 ·obtain⟨k,rfl⟩:=Int.eq_ofNat_of_zero_le h.1
  rw [atO_in (by omega)]
  exact opat_in s k w hs hT (by omega)
 ·have h0:atO s a=0:=by unfold atO;rw [if_neg h]
  rw [h0]
  clear h0
  by_cases g:a<0
  ·have hd:decide (a<0)=true:=by simpa using g
   clear h
   go_enter Tryz.func128,Tryz.ntmps128
   go_wp2
   go_step3
   go_wp2
   rw [Exit.noGoto_ret]
   go_ret2
   exact⟨rfl,Drew.refl _⟩
  ·have h2:(s.size:Int)≤a:=by omega
   have hd:decide (a<0)=false:=by simpa using g
   have hd2:decide ((s.size:Int)≤a)=true:=by simpa using h2
   clear h
   go_enter Tryz.func128,Tryz.ntmps128
   go_wp2
   go_step3
   go_wp2
   rw [Exit.noGoto_ret]
   go_ret2
   exact⟨rfl,Drew.refl _⟩
theorem opN_out {s:ByteArray} {a:Nat} (h:s.size≤a):opN s a=0:=
 opN_none fun k hk h0 hf=>by have:=hf.1;omega
theorem atO_zero (s:ByteArray):atO s 0=opN s 0:=by
 by_cases h:0<s.size
 ·exact atO_in h
 ·rw [opN_out (by omega)]
  unfold atO
  rw [if_neg (by omega)]
set_option maxHeartbeats 1000000 in
theorem of5_any (s:ByteArray) (w:World) (hs:s.size≤1000000) (hT:Tx w):
  Calls Tryz.prog 105 #[.string s] w fun e w'=>e=.returned (.int .i64 (ofN s:Nat))∧Drew w w':=by
 obtain⟨o,ho⟩:∃o,atO s 0=o:=⟨_,rfl⟩
 obtain⟨z,hz⟩:∃z,(txt o).size=z:=⟨_,rfl⟩
 have hat:=opat_any s 0 w hs hT
 rw [ho,hz]at hat
 have hN:ofN s=if z=s.size then o else 0:=by unfold ofN;rw [←atO_zero,ho,hz]
 rw [hN]
 have hz3:z≤3:=by rw [←hz];exact txt_le o
 have HAT:=Lib.hid hat
 clear hat hN hz ho
 by_cases c:z=s.size
 ·rw [if_pos c]
  have d1:((z:Int)==(s.size:Int))=true:=beq_iff_eq.2 (by omega)
  have d1':(z==s.size)=true:=beq_iff_eq.2 c
  clear c
  go_enter Tryz.func105,Tryz.ntmps105
  go_wp2_with fail
  refine HAT.out.mono ?_
  rintro e w' ⟨rfl,hd⟩
  go_wp2
  go_ret
  exact⟨rfl,hd⟩
 ·rw [if_neg c]
  have d1:((z:Int)==(s.size:Int))=false:=beq_eq_false_iff_ne.2 (by omega)
  have d1':(z==s.size)=false:=beq_eq_false_iff_ne.2 c
  clear c
  go_enter Tryz.func105,Tryz.ntmps105
  go_wp2_with fail
  refine HAT.out.mono ?_
  rintro e w' ⟨rfl,hd⟩
  go_wp2
  go_ret
  exact⟨rfl,hd⟩
end Go.Proofs.YtkolpaonccmgiaaGreatDoor

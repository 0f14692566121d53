/- What oper's Text, At, Of and Redirects return. Con -/
import Derived.Test.YtkolpaonccmgiaaGreatDoorSc
set_option linter.unusedVariables false
namespace Go.Proofs.YtkolpaonccmgiaaGreatDoor.Q
set_option linter.unusedVariables false
open Go.RowKit
def Drew (w w':World):Prop:=∃q,w'=w.drewN q
theorem Drew.below {w w':World} (h:Drew w w') {n:Nat}:Below n w w':=by obtain⟨q,rfl⟩:=h;exact below_drewN (Below.refl _ _) _
theorem Drew.refl (w:World):Drew w w:=⟨0,rfl⟩
theorem Drew.trans {a b c:World} (h:Drew a b) (k:Drew b c):Drew a c:=by obtain⟨q,rfl⟩:=h;obtain⟨r,rfl⟩:=k;exact⟨q+r,by simp [World.drewN,Nat.add_assoc]⟩
theorem Drew.drew {a b:World} (h:Drew a b):Drew a b.drew:=by obtain⟨q,rfl⟩:=h;exact⟨q+1,rfl⟩
theorem Drew.drewN {a b:World} (h:Drew a b) (n:Nat):Drew a (b.drewN n):=h.trans ⟨n,rfl⟩
theorem Drew.cell {a b:World} (h:Drew a b) (p:Addr):b.cell? p=a.cell? p:=by obtain⟨q,rfl⟩:=h;rfl
theorem Drew.heap {a b:World} (h:Drew a b):b.heap=a.heap:=by obtain⟨q,rfl⟩:=h;rfl
def Tx (w:World):Prop:=0<w.heap.size∧∀i,i<18→w.cell? ⟨0,i,none⟩=some (.string (txt i))
theorem Tx.below {w w':World} {n:Nat} (h:Tx w) (hb:Below n w w') (hn:0<n):Tx w':=
 ⟨Nat.lt_of_lt_of_le h.1 hb.size,fun i hi=>(hb.cell (p:=⟨0,i,none⟩) hn).trans (h.2 i hi)⟩
theorem Tx.b {w w':World} (h:Tx w) (hb:Below w.heap.size w w'):Tx w':=h.below hb h.1
theorem Tx.d {w w':World} (h:Tx w) (hb:Drew w w'):Tx w':=h.b hb.below
set_option maxHeartbeats 1000000 in
theorem text_any (op:Int) (w:World) (hT:Tx w):
  Calls Tryz.prog 126 #[.int .i64 op] w fun e w'=>e=.returned (.string (txt op.toNat))∧w'=w:=by
 by_cases h:0≤op∧op<18
 ·obtain⟨k,rfl⟩:=Int.eq_ofNat_of_zero_le h.1
  have hk:(k:Int)<18:=h.2
  have hk2:k<18:=by omega
  have hc:=hT.2 k (by omega)
  rw [Int.toNat_natCast]
  obtain⟨t,ht⟩:∃t,txt k=t:=⟨_,rfl⟩
  rw [ht]at hc ⊢
  have hd:decide ((k:Int)<0)=false:=by simp
  have hd2:decide (18≤(k:Int))=false:=by simp;omega
  clear h ht
  go_enter Tryz.func126,Tryz.ntmps126
  go_wp2
  go_ret
  exact⟨rfl,rfl⟩
 ·have ht:txt op.toNat=⟨#[]⟩:=txt_out (by omega)
  rw [ht]
  clear ht
  by_cases g:op<0
  ·have hd:decide (op<0)=true:=by simpa using g
   clear h
   go_enter Tryz.func126,Tryz.ntmps126
   go_wp2
   go_ret
   exact⟨rfl,rfl⟩
  ·have h2:18≤op:=by omega
   have hd:decide (op<0)=false:=by simpa using g
   have hd2:decide (18≤op)=true:=by simpa using h2
   clear h
   go_enter Tryz.func126,Tryz.ntmps126
   go_wp2
   go_ret
   exact⟨rfl,rfl⟩
def allT:ByteArray:=⟨#[38,38,32,124,124,32,59,59,32,60,60,32,60,60,45,62,62,32,60,38,32,62,38,32,60,62,32,62,124,32,60,32,32,62,32,32,38,32,32,59,32,32,124,32,32,40,32,32,41,32,32]⟩
def allB3 (k m:Nat):Bool:=(List.range 3).all fun i=>decide (m≤i→(bt allT (3*k+i)).toNat=32)
theorem allT_txt {k m:Nat} (hk:k<17) (hm:m≤3) (h:allB3 k m=true) (h0:m=0∨(bt allT (3*k+(m - 1))).toNat≠32):allT.extract (3*k) (3*k+m)=txt (k+1):=by
 have:∀k,k<17→∀m,m<4→allB3 k m=true→(m=0∨(bt allT (3*k+(m - 1))).toNat≠32)→allT.extract (3*k) (3*k+m)=txt (k+1):=by decide+kernel
 exact this k hk m (by omega) h h0
theorem allB3_step {k m:Nat} (h:allB3 k (m+1)=true) (e:(bt allT (3*k+m)).toNat=32):allB3 k m=true:=by
 unfold allB3 at h ⊢
 rw [List.all_eq_true]at h ⊢
 intro i hi
 have:=h i hi
 rw [decide_eq_true_iff]at this ⊢
 intro hm
 by_cases g:i=m
 ·rw [g];exact e
 ·exact this (by omega)
theorem ret_str {a b:ByteArray} (h:a=b):Ending.returned (.string a)=.returned (.string b):=by rw [h]
def strLen (v:Value):Nat:=match v with
 | .string s=>s.size
 |_=>0
theorem oby_yes {s:ByteArray} {k:Nat} {c:Nat} (h:k<s.size) (e:(bt s k).toNat=c):((s[k].toNat:Int)==(c:Int))=true:=by
 rw [bt_eq h]at e;rw [e];simp
theorem oby_no {s:ByteArray} {k:Nat} {c:Nat} (h:k<s.size) (e:(bt s k).toNat≠c):((s[k].toNat:Int)==(c:Int))=false:=by
 rw [bt_eq h]at e
 rw [beq_eq_false_iff_ne]
 intro g
 exact e (by omega)
set_option maxHeartbeats 1000000 in
theorem reftext_in (k o:Nat) (hk:k<17) (ho:Hid (o=k+1)) (w:World):
  Calls Tryz.prog 51 #[.int .i64 o] w fun e w'=>e=.returned (.string (txt o))∧w'=w:=by
 have h1:decide ((o:Int)<1)=false:=decide_eq_false_iff_not.2 (by have:=ho.out;omega)
 have h2:decide (17<(o:Int))=false:=decide_eq_false_iff_not.2 (by have:=ho.out;omega)
 have h1':decide (o<1)=false:=decide_eq_false_iff_not.2 (by have:=ho.out;omega)
 have h2':decide (17<o)=false:=decide_eq_false_iff_not.2 (by have:=ho.out;omega)
 have e1:IntKind.i64.wrap ((o:Int) - 1)=(k:Int):=by have:=ho.out;rw [IntWalk.i64_in _ (by omega)];omega
 have e2:IntKind.i64.wrap (3*(k:Int))=((3*k:Nat):Int):=by rw [IntWalk.i64_in _ (by omega)];omega
 obtain⟨z,hz⟩:∃z,z=3*k+3:=⟨_,rfl⟩
 have hz2:z≤51:=by omega
 have hz3:3*k≤z:=by omega
 have e3:IntKind.i64.wrap (3*(o:Int))=(z:Int):=by have:=ho.out;rw [IntWalk.i64_in _ (by omega)];omega
 have HZ:=Lib.hid hz
 clear hz
 go_enter Tryz.func51,Tryz.ntmps51
 go_wp2
 go_loopw [3] (fun v wr=>∃m x,m≤3∧v=.string x∧x=allT.extract (3*k) (3*k+m)∧allB3 k m=true∧wr=w) (fun v _=>strLen v)
 case atStart=>
  refine⟨3,_,Nat.le_refl _,rfl,by rw [←HZ.out];rfl,?_,rfl⟩
  unfold allB3
  rw [List.all_eq_true]
  intro i hi
  rw [decide_eq_true_iff]
  intro hm
  simp at hi
  omega
 case round=>
  obtain⟨m,x,hm,rfl,hx,hall,rfl⟩:=hrel
  have hA:allT.size=51:=rfl
  have hsz:x.size=m:=by rw [hx,ByteArray.size_extract,hA];omega
  have HX:=Lib.hid hx
  have HALL:=Lib.hid hall
  clear hx hall hA
  rcases Nat.eq_zero_or_pos m with rfl|hpos
  ·go_wp2
   go_ret
   exact⟨ret_str (HX.out.trans ((allT_txt hk (Nat.zero_le _) HALL.out (.inl rfl)).trans (congrArg txt ho.out.symm))),rfl⟩
  ·obtain⟨j,rfl⟩:∃j,m=j+1:=⟨m - 1,by omega⟩
   have hj:j<x.size:=by omega
   have hj2:(j:Int)<x.size:=by omega
   have hp:decide ((0:Int)<x.size)=true:=decide_eq_true_iff.2 (by omega)
   have hp2:decide (0<x.size)=true:=decide_eq_true_iff.2 (by omega)
   have hj3:(j:Int)≤x.size:=by omega
   have hA:allT.size=51:=rfl
   have eb:bt x j=bt allT (3*k+j):=by rw [HX.out];exact bt_extract _ _ _ _ (by rw [hA];omega) (by omega)
   have e4:IntKind.i64.wrap ((x.size:Int) - 1)=(j:Int):=by rw [IntWalk.i64_in _ (by omega)];omega
   have EB:=Lib.hid eb
   have HS:=Lib.hid hsz
   clear hsz eb hA
   by_cases e:(bt x j).toNat=32
   ·have t1:=oby_yes hj e
    have HE:=Lib.hid e
    clear e
    go_wp2
    go_roundw
    case rel=>
     refine⟨j,_,by omega,rfl,?_,allB3_step HALL.out (by rw [←EB.out];exact HE.out),by first|rfl|trivial⟩
     rw [HX.out,ByteArray.extract_extract]
     congr 1
     omega
    case measure=>simp [strLen];have:=HS.out;omega
   ·have t1:=oby_no hj e
    have HE:=Lib.hid e
    clear e
    go_wp2
    go_ret
    exact⟨ret_str (HX.out.trans ((allT_txt hk hm HALL.out (.inr (by rw [Nat.add_sub_cancel,←EB.out];exact HE.out))).trans (congrArg txt ho.out.symm))),rfl⟩
theorem reftext_any (op:Int) (w:World):
  Calls Tryz.prog 51 #[.int .i64 op] w fun e w'=>e=.returned (.string (txt op.toNat))∧w'=w:=by
 by_cases h:1≤op∧op≤17
 ·obtain⟨o,rfl⟩:=Int.eq_ofNat_of_zero_le (a:=op) (by omega)
  rw [Int.toNat_natCast]
  exact reftext_in (o - 1) o (by omega) (Lib.hid (by omega)) w
 ·have ht:txt op.toNat=⟨#[]⟩:=txt_out (by omega)
  rw [ht]
  clear ht
  by_cases g:op<1
  ·have hd:decide (op<1)=true:=by simpa using g
   clear h
   go_enter Tryz.func51,Tryz.ntmps51
   go_wp2
   go_ret
   exact⟨rfl,rfl⟩
  ·have h2:17<op:=by omega
   have hd:decide (op<1)=false:=by simpa using g
   have hd2:decide (17<op)=true:=by simpa using h2
   clear h
   go_enter Tryz.func51,Tryz.ntmps51
   go_wp2
   go_ret
   exact⟨rfl,rfl⟩
def OuRel (s:ByteArray) (k z:Nat) (w:World) (v4 v:Value) (wr:World):Prop:=
 ∃n:Nat,v4=.int .i64 0∧n≤3∧n≤z∧v=.int .i64 n∧(∀i∈ops,n<(txt i).size→¬fits s k (txt i))∧Drew w wr
def InRelO (x:ByteArray) (w:World) (v4 v:Value) (wr:World):Prop:=
 ∃j:Nat,v4=.int .i64 0∧j≤18∧v=.int .i64 j∧(∀i,i<j→x≠txt i)∧Drew w wr
set_option maxRecDepth 100000 in
set_option maxHeartbeats 2000000 in
theorem at_in (s:ByteArray) (k:Nat) (w:World) (hs:s.size≤1000000) (hT:Tx w) (hk:k<s.size):
  Calls Tryz.prog 128 #[.string s,.int .i64 k] w fun e w'=>e=.returned (.tuple #[.int .i64 (opN s k:Nat),.int .i64 ((txt (opN s k)).size:Nat)])∧Drew w w':=by
 have hd:decide ((k:Int)<0)=false:=decide_eq_false_iff_not.2 (by omega)
 have hd2:decide ((s.size:Int)≤k)=false:=decide_eq_false_iff_not.2 (by omega)
 have hd3:decide (s.size≤k)=false:=decide_eq_false_iff_not.2 (by omega)
 have hi:(k:Int)≤s.size:=by omega
 obtain⟨x,hx⟩:∃x,s.extract k s.size=x:=⟨_,rfl⟩
 obtain⟨z,hz⟩:∃z,x.size=z:=⟨_,rfl⟩
 have hz2:z=s.size - k:=by rw [←hz,←hx];simp
 obtain⟨m,hm⟩:∃m:Nat,(if(z:Int)<3 then(z:Int)else 3)=(m:Int):=⟨min 3 z,by split<;>omega⟩
 have hm3:m≤3∧m≤z∧(m=3∨m=z):=by split at hm<;>omega
 obtain⟨hm3,hmz,hmo⟩:=hm3
 have HM:=Lib.hid hm
 have HZ2:=Lib.hid hz2
 have HX:=Lib.hid hx
 clear hz2
 go_enter Tryz.func128,Tryz.ntmps128
 go_wp2
 go_step3
 go_wp2
 go_step3
 go_wp2
 go_loopw [4,5] (fun v4 v5 wr=>OuRel s k z w v4 v5 wr) (fun _ v _=>(intOf v).toNat)
 case atStart=>
  refine⟨m,rfl,hm3,hmz,rfl,fun i hi hlt hf=>?_,Drew.refl _⟩
  have h1:=txt_le i
  have h2:=hf.1
  have h3:=HZ2.out
  omega
 case round=>
  obtain⟨n,rfl,hn3,hnz,rfl,hno,hdr⟩:=hrel
  have HNO:=Lib.hid hno
  clear hno
  rcases Nat.eq_zero_or_pos n with rfl|hpos
  ·go_wp2
   rw [Exit.noGoto_ret]
   go_ret2
   have h0:opN s k=0:=opN_none HNO.out
   refine⟨?_,hdr⟩
   rw [h0]
   rfl
  ·have hp:decide ((0:Int)<n)=true:=decide_eq_true_iff.2 (by omega)
   have hp2:decide (0<n)=true:=decide_eq_true_iff.2 (by omega)
   have hkn:k+n≤s.size:=by have:=HZ2.out;omega
   go_wp2
   go_loopw [4,26] (fun v4 v wq=>InRelO (x.extract 0 n) w v4 v wq) (fun _ v _=>18 - (intOf v).toNat)
   case atStart=>exact⟨0,rfl,by omega,rfl,fun i hi=>absurd hi (by omega),hdr⟩
   case round=>
    obtain⟨j,rfl,hj,rfl,hne,hdr2⟩:=hrel
    have HNE:=Lib.hid hne
    clear hne
    by_cases hlt:j<18
    ·have hc:=(hT.d hdr2).2 j hlt
     by_cases e:txt j=x.extract 0 n
     ·have t1:((txt j).toList==(x.extract 0 n).toList)=true:=by rw [bs_eqb];exact decide_eq_true_iff.2 e
      have HE:=Lib.hid e
      clear e
      go_wp2
      go_quiet (fail)
      go_wp2
      rw [Exit.noGoto_ret]
      go_ret2
      have hj0:1≤j:=by
       refine Nat.pos_of_ne_zero fun g=>?_
       have h1:=((rest_eq (d:=txt j) hkn).1 (by rw [HX.out];exact HE.out.symm)).1
       rw [g]at h1
       have:(txt 0).size=0:=rfl
       omega
      have hm:j∈ops:=mem_ops.2 ⟨hj0,by omega⟩
      have hf:=(rest_eq (d:=txt j) hkn).1 (by rw [HX.out];exact HE.out.symm)
      have h0:opN s k=j:=opN_found hm hf.1 hf.2 HNO.out
      refine⟨?_,hdr2.drewN _⟩
      rw [h0,hf.1]
      rfl
     ·have t1:((txt j).toList==(x.extract 0 n).toList)=false:=by rw [bs_eqb];exact decide_eq_false_iff_not.2 e
      have HE:=Lib.hid e
      clear e
      go_wp2
      go_quiet (fail)
      go_wp2
      go_roundw
      case rel=>
       refine⟨j+1,rfl,by omega,by go_num,fun i hi=>?_,hdr2.drewN _⟩
       by_cases g:i=j
       ·rw [g];exact fun h=>HE.out h.symm
       ·exact HNE.out i (by omega)
      case measure=>simp [intOf];omega
    ·obtain rfl:j=18:=by omega
     go_wp2
     go_roundw
     case rel=>
      refine⟨n - 1,rfl,by omega,by omega,by first|rfl|(congr 1;omega)|(simp;omega),fun i hi hlt hf=>?_,hdr2⟩
      by_cases g:n<(txt i).size
      ·exact HNO.out i hi g hf
      ·refine HNE.out i (by have:=(mem_ops.1 hi).2;omega) ?_
       rw [←HX.out]
       exact(rest_eq hkn).2 ⟨by omega,hf⟩
     case measure=>simp [intOf];omega
def atO (s:ByteArray) (a:Int):Nat:=if 0≤a∧a<s.size then opN s a.toNat else 0
theorem atO_in {s:ByteArray} {k:Nat} (h:k<s.size):atO s k=opN s k:=by
 unfold atO
 rw [if_pos ⟨by omega,by omega⟩,Int.toNat_natCast]
set_option maxRecDepth 100000 in
theorem at_any (s:ByteArray) (a:Int) (w:World) (hs:s.size≤1000000) (hT:Tx w):
  Calls Tryz.prog 128 #[.string s,.int .i64 a] w fun e w'=>e=.returned (.tuple #[.int .i64 (atO s a:Nat),.int .i64 ((txt (atO s a)).size:Nat)])∧Drew w w':=by
 by_cases h:0≤a∧a<s.size
 ·obtain⟨k,rfl⟩:=Int.eq_ofNat_of_zero_le h.1
  rw [atO_in (by omega)]
  exact at_in s k w hs hT (by omega)
 ·have h0:atO s a=0:=by unfold atO;rw [if_neg h]
  rw [h0]
  clear h0
  by_cases g:a<0
  ·have hd:decide (a<0)=true:=by simpa using g
   clear h
   go_enter Tryz.func128,Tryz.ntmps128
   go_wp2
   go_step3
   go_wp2
   rw [Exit.noGoto_ret]
   go_ret2
   exact⟨rfl,Drew.refl _⟩
  ·have h2:(s.size:Int)≤a:=by omega
   have hd:decide (a<0)=false:=by simpa using g
   have hd2:decide ((s.size:Int)≤a)=true:=by simpa using h2
   clear h
   go_enter Tryz.func128,Tryz.ntmps128
   go_wp2
   go_step3
   go_wp2
   rw [Exit.noGoto_ret]
   go_ret2
   exact⟨rfl,Drew.refl _⟩
theorem opN_out {s:ByteArray} {a:Nat} (h:s.size≤a):opN s a=0:=
 opN_none fun k hk h0 hf=>by have:=hf.1;omega
theorem atO_zero (s:ByteArray):atO s 0=opN s 0:=by
 by_cases h:0<s.size
 ·exact atO_in h
 ·rw [opN_out (by omega)]
  unfold atO
  rw [if_neg (by omega)]
set_option maxHeartbeats 1000000 in
theorem of5_any (s:ByteArray) (w:World) (hs:s.size≤1000000) (hT:Tx w):
  Calls Tryz.prog 105 #[.string s] w fun e w'=>e=.returned (.int .i64 (ofN s:Nat))∧Drew w w':=by
 obtain⟨o,ho⟩:∃o,atO s 0=o:=⟨_,rfl⟩
 obtain⟨z,hz⟩:∃z,(txt o).size=z:=⟨_,rfl⟩
 have hat:=at_any s 0 w hs hT
 rw [ho,hz]at hat
 have hN:ofN s=if z=s.size then o else 0:=by unfold ofN;rw [←atO_zero,ho,hz]
 rw [hN]
 have hz3:z≤3:=by rw [←hz];exact txt_le o
 have HAT:=Lib.hid hat
 clear hat hN hz ho
 by_cases c:z=s.size
 ·rw [if_pos c]
  have d1:((z:Int)==(s.size:Int))=true:=beq_iff_eq.2 (by omega)
  have d1':(z==s.size)=true:=beq_iff_eq.2 c
  clear c
  go_enter Tryz.func105,Tryz.ntmps105
  go_wp2_with fail
  refine HAT.out.mono ?_
  rintro e w' ⟨rfl,hd⟩
  go_wp2
  go_ret
  exact⟨rfl,hd⟩
 ·rw [if_neg c]
  have d1:((z:Int)==(s.size:Int))=false:=beq_eq_false_iff_ne.2 (by omega)
  have d1':(z==s.size)=false:=beq_eq_false_iff_ne.2 c
  clear c
  go_enter Tryz.func105,Tryz.ntmps105
  go_wp2_with fail
  refine HAT.out.mono ?_
  rintro e w' ⟨rfl,hd⟩
  go_wp2
  go_ret
  exact⟨rfl,hd⟩
set_option maxHeartbeats 1000000 in
theorem redirects_any (op:Int) (w:World):
  Calls Tryz.prog 127 #[.int .i64 op] w fun e w'=>e=.returned (.bool (decide (4≤op∧op≤12)))∧w'=w:=by
 go_enter Tryz.func127,Tryz.ntmps127
 go_wp2
 all_goals
  go_ret
  refine⟨ret_bool ?_,rfl⟩
  rw [Bool.eq_iff_iff]
  simp
  try omega
end Go.Proofs.YtkolpaonccmgiaaGreatDoor.Q

/- What Sign of layer 12 (rules) returns, and what it -/
import Derived.Test.YtkolpaonccmgiaaGreatDoorRuOz
set_option linter.unusedVariables false
namespace Go.Proofs.YtkolpaonccmgiaaGreatDoor.Q
set_option linter.unusedSectionVars false
set_option linter.unusedVariables false
open Go.RowKit
theorem ret_u8 {a b:Int} (h:a=b):Ending.returned (.int .u8 a)=.returned (.int .u8 b):=by rw [h]
def aggF (p:Lf):Value:=.agg #[.int .i64 p.k,.string p.s,.int .i64 p.f,.int .i64 p.t]
section
variable (w:World)
set_option maxRecDepth 100000 in
set_option maxHeartbeats 2000000 in
theorem opsign_any (op:Nat) (hop:op≤17) (hT:Tx w):
  Calls Tryz.prog 104 #[.int .i64 (op:Int)] w fun e w'=>e=.returned (.int .u8 (opS op:Nat))∧w'=w:=by
 have htx:∀W,Tx W→∀k:Nat,Calls Tryz.prog 126 #[.int .i64 (k:Int)] W fun e w'=>e=.returned (.string (txt k))∧w'=W:=fun W h k=>by
  have:=text_any (k:Int) W h
  rwa [Int.toNat_natCast]at this
 have hrd:=fun W (k:Int)=>redirects_any k W
 have h:op=0∨op=1∨op=2∨op=3∨op=4∨op=5∨op=6∨op=7∨op=8∨op=9∨op=10∨op=11∨op=12∨op=13∨op=14∨op=15∨op=16∨op=17:=by omega
 have HT:∀(k:Nat) (t:ByteArray),txt k=t→Hid (Calls Tryz.prog 126 #[.int .i64 (k:Int)] w fun e w'=>e=.returned (.string t)∧w'=w):=fun k t h=>by
  rw [←h]
  exact Lib.hid (htx w hT k)
 have HRD:∀(k:Int) (b:Bool),decide (4≤k∧k≤12)=b→Hid (Calls Tryz.prog 127 #[.int .i64 k] w fun e w'=>e=.returned (.bool b)∧w'=w):=fun k b h=>by
  rw [←h]
  exact Lib.hid (hrd w k)
 have t13:=HT 13 ⟨#[38]⟩ rfl
 have t14:=HT 14 ⟨#[59]⟩ rfl
 have t15:=HT 15 ⟨#[124]⟩ rfl
 have t16:=HT 16 ⟨#[40]⟩ rfl
 have t17:=HT 17 ⟨#[41]⟩ rfl
 have HR:=Lib.hid HRD
 clear htx hrd hT hop HT HRD
 rcases h with rfl|rfl|rfl|rfl|rfl|rfl|rfl|rfl|rfl|rfl|rfl|rfl|rfl|rfl|rfl|rfl|rfl|rfl
 ·go_enter Tryz.func104,Tryz.ntmps104
  go_wp2_with fail
  refine(HR.out _ false (by decide)).out.mono ?_
  rintro e w1 ⟨rfl,rfl⟩
  go_wp2
  go_ret
  exact⟨rfl,rfl⟩
 ·go_enter Tryz.func104,Tryz.ntmps104
  go_wp2_with fail
  go_ret
  exact⟨rfl,rfl⟩
 ·go_enter Tryz.func104,Tryz.ntmps104
  go_wp2_with fail
  go_ret
  exact⟨rfl,rfl⟩
 ·go_enter Tryz.func104,Tryz.ntmps104
  go_wp2_with fail
  go_ret
  exact⟨rfl,rfl⟩
 ·go_enter Tryz.func104,Tryz.ntmps104
  go_wp2_with fail
  refine(HR.out _ true (by decide)).out.mono ?_
  rintro e w1 ⟨rfl,rfl⟩
  go_wp2
  go_ret
  exact⟨rfl,rfl⟩
 ·go_enter Tryz.func104,Tryz.ntmps104
  go_wp2_with fail
  refine(HR.out _ true (by decide)).out.mono ?_
  rintro e w1 ⟨rfl,rfl⟩
  go_wp2
  go_ret
  exact⟨rfl,rfl⟩
 ·go_enter Tryz.func104,Tryz.ntmps104
  go_wp2_with fail
  refine(HR.out _ true (by decide)).out.mono ?_
  rintro e w1 ⟨rfl,rfl⟩
  go_wp2
  go_ret
  exact⟨rfl,rfl⟩
 ·go_enter Tryz.func104,Tryz.ntmps104
  go_wp2_with fail
  refine(HR.out _ true (by decide)).out.mono ?_
  rintro e w1 ⟨rfl,rfl⟩
  go_wp2
  go_ret
  exact⟨rfl,rfl⟩
 ·go_enter Tryz.func104,Tryz.ntmps104
  go_wp2_with fail
  refine(HR.out _ true (by decide)).out.mono ?_
  rintro e w1 ⟨rfl,rfl⟩
  go_wp2
  go_ret
  exact⟨rfl,rfl⟩
 ·go_enter Tryz.func104,Tryz.ntmps104
  go_wp2_with fail
  refine(HR.out _ true (by decide)).out.mono ?_
  rintro e w1 ⟨rfl,rfl⟩
  go_wp2
  go_ret
  exact⟨rfl,rfl⟩
 ·go_enter Tryz.func104,Tryz.ntmps104
  go_wp2_with fail
  refine(HR.out _ true (by decide)).out.mono ?_
  rintro e w1 ⟨rfl,rfl⟩
  go_wp2
  go_ret
  exact⟨rfl,rfl⟩
 ·go_enter Tryz.func104,Tryz.ntmps104
  go_wp2_with fail
  refine(HR.out _ true (by decide)).out.mono ?_
  rintro e w1 ⟨rfl,rfl⟩
  go_wp2
  go_ret
  exact⟨rfl,rfl⟩
 ·go_enter Tryz.func104,Tryz.ntmps104
  go_wp2_with fail
  refine(HR.out _ true (by decide)).out.mono ?_
  rintro e w1 ⟨rfl,rfl⟩
  go_wp2
  go_ret
  exact⟨rfl,rfl⟩
 ·go_enter Tryz.func104,Tryz.ntmps104
  go_wp2_with fail
  refine t13.out.mono ?_
  rintro e w1 ⟨rfl,rfl⟩
  go_wp2
  go_ret
  exact⟨rfl,rfl⟩
 ·go_enter Tryz.func104,Tryz.ntmps104
  go_wp2_with fail
  refine t14.out.mono ?_
  rintro e w1 ⟨rfl,rfl⟩
  go_wp2
  go_ret
  exact⟨rfl,rfl⟩
 ·go_enter Tryz.func104,Tryz.ntmps104
  go_wp2_with fail
  refine t15.out.mono ?_
  rintro e w1 ⟨rfl,rfl⟩
  go_wp2
  go_ret
  exact⟨rfl,rfl⟩
 ·go_enter Tryz.func104,Tryz.ntmps104
  go_wp2_with fail
  refine t16.out.mono ?_
  rintro e w1 ⟨rfl,rfl⟩
  go_wp2
  go_ret
  exact⟨rfl,rfl⟩
 ·go_enter Tryz.func104,Tryz.ntmps104
  go_wp2_with fail
  refine t17.out.mono ?_
  rintro e w1 ⟨rfl,rfl⟩
  go_wp2
  go_ret
  exact⟨rfl,rfl⟩
set_option maxRecDepth 100000 in
set_option maxHeartbeats 2000000 in
theorem wordsign_any (s:ByteArray):
  Calls Tryz.prog 106 #[.string s] w fun e w'=>e=.returned (.int .u8 (wdS s:Nat))∧w'=w:=by
 by_cases h:s=⟨#[33]⟩∨s=⟨#[123]⟩∨s=⟨#[125]⟩
 ·have key:∀c:UInt8,s=⟨#[c]⟩→s.toList=[c]∧(0:Int)<(s.size:Int)∧0<s.size∧Hid (s=⟨#[c]⟩):=fun c h=>by
   refine⟨by rw [h,Go.ByteArray.toList_eq],?_,?_,Lib.hid h⟩
   ·rw [h];show(0:Int)<((1:Nat):Int);decide
   ·rw [h];show 0<1;decide
  rcases h with h|h|h
  ·obtain⟨h1,h2,h3,H⟩:=key _ h
   clear h key
   go_enter Tryz.func106,Tryz.ntmps106
   go_wp2
   go_ret
   refine⟨ret_u8 ?_,rfl⟩
   have:=H.out
   subst this
   rfl
  ·obtain⟨h1,h2,h3,H⟩:=key _ h
   clear h key
   go_enter Tryz.func106,Tryz.ntmps106
   go_wp2
   go_ret
   refine⟨ret_u8 ?_,rfl⟩
   have:=H.out
   subst this
   rfl
  ·obtain⟨h1,h2,h3,H⟩:=key _ h
   clear h key
   go_enter Tryz.func106,Tryz.ntmps106
   go_wp2
   go_ret
   refine⟨ret_u8 ?_,rfl⟩
   have:=H.out
   subst this
   rfl
 ·have h1:¬s.toList=[33]:=fun g=>h (.inl (by apply ByteArray.ext;apply Array.toList_inj.1;rw [←Go.ByteArray.toList_eq,g]))
  have h2:¬s.toList=[123]:=fun g=>h (.inr (.inl (by apply ByteArray.ext;apply Array.toList_inj.1;rw [←Go.ByteArray.toList_eq,g])))
  have h3:¬s.toList=[125]:=fun g=>h (.inr (.inr (by apply ByteArray.ext;apply Array.toList_inj.1;rw [←Go.ByteArray.toList_eq,g])))
  have g1:(s.toList==[33])=false:=by simpa using h1
  have g2:(s.toList==[123])=false:=by simpa using h2
  have g3:(s.toList==[125])=false:=by simpa using h3
  clear h h1 h2 h3
  go_enter Tryz.func106,Tryz.ntmps106
  go_wp2
  all_goals
   go_ret
   refine⟨ret_u8 ?_,rfl⟩
   unfold wdS
   simp only [Go.ByteArray.toList_eq]at*
   generalize s.data.toList=L at*
   simp_all [wdL]
set_option maxRecDepth 100000 in
set_option maxHeartbeats 2000000 in
theorem sign_any (p:Lf) (hs:p.s.size≤1000000) (hT:Tx w):
  Calls Tryz.prog 77 #[aggF p] w fun e w'=>e=.returned (.int .u8 (sgn p.k p.s:Nat))∧Below w.heap.size w w':=by
 obtain⟨k,s,f,t⟩:=p
 unfold aggF
 simp only at hs ⊢
 have hT1:Tx (w.alloc (.cells #[.int .i64 k,.string s,.int .i64 f,.int .i64 t] 37)):=hT.b ((Below.refl _ w).alloc (Nat.le_refl _) _)
 have HOF:=Lib.hid (of5_any s _ hs hT1)
 have HOP:=Lib.hid (fun W (hW:Tx W)=>opsign_any W (ofN s) (by
  by_cases h0:ofN s=0
  ·omega
  ·exact(mem_ops.1 (ofN_mem h0)).2) hW)
 have HWD:=Lib.hid (fun W=>wordsign_any W s)
 have HT1:=Lib.hid hT1
 clear hT hT1
 have e:sgn k s=if k=2 then 110 else if k=4 then opS (ofN s)else if k=5 then 35 else if k=6 then wdS s else 63:=rfl
 rw [e]
 clear e
 by_cases h2:k=2
 ·rw [if_pos h2]
  have g2:(k==2)=true:=by simpa using h2
  clear h2
  go_enter Tryz.func77,Tryz.ntmps77
  go_wp2_with fail
  go_wp2
  go_ret
  exact⟨rfl,(Below.refl _ w).alloc (Nat.le_refl _) _⟩
 ·rw [if_neg h2]
  have g2:(k==2)=false:=by simpa using h2
  clear h2
  by_cases h4:k=4
  ·rw [if_pos h4]
   have g4:(k==4)=true:=by simpa using h4
   clear h4
   go_enter Tryz.func77,Tryz.ntmps77
   go_wp2_with fail
   refine HOF.out.mono ?_
   rintro e w1 ⟨rfl,hd⟩
   have HD:=Lib.hid hd
   clear hd
   go_wp2_with fail
   refine(HOP.out w1 (HT1.out.d HD.out)).mono ?_
   rintro e w2 ⟨rfl,rfl⟩
   go_wp2
   go_ret
   exact⟨rfl,((Below.refl _ w).alloc (Nat.le_refl _) _).trans HD.out.below⟩
  ·rw [if_neg h4]
   have g4:(k==4)=false:=by simpa using h4
   clear h4
   by_cases h5:k=5
   ·rw [if_pos h5]
    have g5:(k==5)=true:=by simpa using h5
    clear h5
    go_enter Tryz.func77,Tryz.ntmps77
    go_wp2
    go_ret
    exact⟨rfl,(Below.refl _ w).alloc (Nat.le_refl _) _⟩
   ·rw [if_neg h5]
    have g5:(k==5)=false:=by simpa using h5
    clear h5
    by_cases h6:k=6
    ·rw [if_pos h6]
     have g6:(k==6)=true:=by simpa using h6
     clear h6
     go_enter Tryz.func77,Tryz.ntmps77
     go_wp2_with fail
     refine(HWD.out _).mono ?_
     rintro e w2 ⟨rfl,rfl⟩
     go_wp2
     go_ret
     exact⟨rfl,(Below.refl _ w).alloc (Nat.le_refl _) _⟩
    ·rw [if_neg h6]
     have g6:(k==6)=false:=by simpa using h6
     clear h6
     go_enter Tryz.func77,Tryz.ntmps77
     go_wp2
     go_ret
     exact⟨rfl,(Below.refl _ w).alloc (Nat.le_refl _) _⟩
end
end Go.Proofs.YtkolpaonccmgiaaGreatDoor.Q

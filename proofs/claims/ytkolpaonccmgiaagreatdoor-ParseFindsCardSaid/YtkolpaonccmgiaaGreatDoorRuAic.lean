/- What Sign of the document's answer to layer 12 (ru -/
import Derived.Test.YtkolpaonccmgiaaGreatDoorRuSz
import Derived.Test.YtkolpaonccmgiaaGreatDoorRuCc
set_option linter.unusedVariables false
namespace Go.Proofs.YtkolpaonccmgiaaGreatDoor.Q
set_option linter.unusedSectionVars false
set_option linter.unusedVariables false
open Go.RowKit
def sgB (k:Int) (s:ByteArray):ByteArray:=⟨#[(sgn k s).toUInt8]⟩
theorem wdS_no {s:ByteArray} (h:resB s=false):wdS s=120:=by
 have h1:∀p∈wdL,words.contains p.1=true:=by decide+kernel
 unfold wdS
 rw [List.find?_eq_none.2]
 ·rfl
 ·intro p hp e
  have e':s.data.toList=p.1:=by simpa using e
  have:=h1 p hp
  rw [←e']at this
  unfold resB at h
  rw [h]at this
  cases this
def SgQ (s:ByteArray) (W0:World) (v3:Value) (wr:World):Prop:=
 ∃op:Nat,1≤op∧op≤18∧v3=.int .i64 (op:Int)∧(∀j,1≤j→j<op→txt j≠s)∧Below W0.heap.size W0 wr
theorem opS_cut:∀op,op<18→1≤op→(⟨#[97,111,121,60,60,60,60,60,60,60,60,60,38,59,124,40,41]⟩:ByteArray).extract (op - 1) op=⟨#[(opS op).toUInt8]⟩:=by decide+kernel
section
variable (w:World)
set_option maxRecDepth 100000 in
set_option maxHeartbeats 4000000 in
theorem refsign_any (p:Lf) (hs:p.s.size≤100):
  Calls Tryz.prog 30 #[aggF p] w fun e w'=>e=.returned (.string (sgB p.k p.s))∧Below w.heap.size w w':=by
 obtain⟨k,s,f,t⟩:=p
 unfold aggF
 simp only at hs ⊢
 have kB:=Blk.new w #[.int .i64 k,.string s,.int .i64 f,.int .i64 t] 37
 have hB:=Lib.hid (show Below w.heap.size w (w.alloc (.cells #[.int .i64 k,.string s,.int .i64 f,.int .i64 t] 37))from(Below.refl _ w).alloc (Nat.le_refl _) _)
 have HK:=Lib.hid kB
 have HRS:=Lib.hid (fun W=>refreserved_any s W hs)
 clear kB
 by_cases h2:k=2
 ·subst h2
  have e:sgB 2 s=⟨#[110]⟩:=rfl
  rw [e]
  clear e
  go_enter Tryz.func30,Tryz.ntmps30
  go_wp2
  go_ret
  exact⟨rfl,hB.out⟩
 have g2:(k==2)=false:=by simpa using h2
 by_cases h5:k=5
 ·subst h5
  have e:sgB 5 s=⟨#[35]⟩:=rfl
  rw [e]
  clear e
  go_enter Tryz.func30,Tryz.ntmps30
  go_wp2
  go_ret
  exact⟨rfl,hB.out⟩
 have g5:(k==5)=false:=by simpa using h5
 by_cases h4:k=4
 ·subst h4
  obtain⟨ans,hans⟩:∃b,sgB 4 s=b:=⟨_,rfl⟩
  rw [hans]
  have HANS:=Lib.hid (show(⟨#[(opS (ofN s)).toUInt8]⟩:ByteArray)=ans from hans)
  clear hans h2 h5
  go_enter Tryz.func30,Tryz.ntmps30
  go_wp2
  obtain⟨W1,hW1⟩:∃X,w.alloc (.cells #[.int .i64 4,.string s,.int .i64 f,.int .i64 t] 37)=X:=⟨_,rfl⟩
  rw [hW1]at HK hB ⊢
  obtain⟨lb,hlb⟩:∃lb,w.heap.size=lb:=⟨_,rfl⟩
  rw [hlb]at HK ⊢
  have HLB:=Lib.hid hlb
  clear hW1 hlb
  go_loopw [3] (fun v3 wr=>SgQ s W1 v3 wr) (fun v3 _=>18 - (intOf v3).toNat)
  case atStart=>exact⟨1,by omega,by omega,rfl,fun j h1 h2=>by omega,Below.refl _ _⟩
  case round=>
   obtain⟨op,ho1,ho2,rfl,hno,hbr⟩:=hrel
   have HNO:=Lib.hid hno
   have HBR:=Lib.hid hbr
   have c1:=(HK.out.below hbr).cell 1
   simp only [List.getElem?_toArray,List.getElem?_cons_zero,List.getElem?_cons_succ]at c1
   clear hno hbr
   by_cases hlt:op≤17
   ·have hp:(op:Int)≤17:=by omega
    have hp':decide ((op:Int)≤17)=true:=by simpa using hp
    obtain⟨x,hx⟩:∃x,txt op=x:=⟨_,rfl⟩
    have HTX:=Lib.hid (fun W=>(show Calls Tryz.prog 51 #[.int .i64 (op:Int)] W fun e w'=>e=.returned (.string x)∧w'=W by
     have:=reftext_any (op:Int) W
     rwa [Int.toNat_natCast,hx]at this))
    by_cases hxs:x=s
    ·have hof:ofN s=op:=(ofN_eq (mem_ops.2 ⟨ho1,hlt⟩)).1 (hx.trans hxs)
     have hcut:=opS_cut op (by omega) ho1
     have t1:(x.toList==s.toList)=true:=by rw [bs_eqb];exact decide_eq_true hxs
     have ha:=HANS.out
     rw [hof,←hcut]at ha
     have HA:=Lib.hid ha
     clear ha hcut hof hx hxs
     have r1:IntKind.i64.wrap ((op:Int) - 1)=((op - 1:Nat):Int):=(IntWalk.i64_in _ (by omega)).trans (by omega)
     go_upto_region 9 with fail
     go_region_with (go_at_call 51;refine(HTX.out _).mono ?_;rintro e w' ⟨rfl,rfl⟩)
     all_goals
      go_wp2
      go_ret
      exact⟨by rw [←HA.out];rfl,hB.out.trans ((HBR.out.drew).mono hB.out.size)⟩
    ·have t1:(x.toList==s.toList)=false:=by rw [bs_eqb];exact decide_eq_false hxs
     have HX:=Lib.hid (hx▸hxs:txt op≠s)
     clear hx hxs
     have e1:IntKind.i64.wrap ((op:Int)+1)=(op:Int)+1:=IntWalk.i64_in _ (by omega)
     go_upto_region 9 with fail
     go_region_with (go_at_call 51;refine(HTX.out _).mono ?_;rintro e w' ⟨rfl,rfl⟩)
     all_goals
      go_wp2
      refine⟨⟨op+1,by omega,by omega,by rw [show((op+1:Nat):Int)=(op:Int)+1 from by omega],fun j h1 h2=>?_,HBR.out.drew⟩,by simp [intOf];omega⟩
      by_cases g:j=op
      ·rw [g];exact HX.out
      ·exact HNO.out j h1 (by omega)
   ·have hp:¬(op:Int)≤17:=by omega
    have hp':decide ((op:Int)≤17)=false:=by simpa using hp
    have hz:ofN s=0:=by
     refine Decidable.byContradiction fun g=>?_
     have hm:=ofN_mem g
     have hr:=mem_ops.1 hm
     exact HNO.out _ hr.1 (by omega) ((ofN_eq hm).2 rfl)
    have ha:=HANS.out
    rw [hz]at ha
    have HA:=Lib.hid ha
    clear ha hz
    go_wp2
    go_ret
    exact⟨by rw [←HA.out];rfl,hB.out.trans (HBR.out.mono hB.out.size)⟩
 have g4:(k==4)=false:=by simpa using h4
 by_cases h6:k=6
 ·subst h6
  clear g2 g5 g4 h2 h5 h4
  have e:sgB 6 s=⟨#[(wdS s).toUInt8]⟩:=rfl
  rw [e]
  clear e
  obtain⟨r,hr⟩:∃r,resB s=r:=⟨_,rfl⟩
  rw [hr]at HRS
  cases r
  ·rw [wdS_no hr]
   clear hr
   go_enter Tryz.func30,Tryz.ntmps30
   go_wp2_with fail
   refine(HRS.out _).mono ?_
   rintro e w' ⟨rfl,rfl⟩
   go_wp2
   go_ret
   exact⟨rfl,hB.out⟩
  ·have hm:s.data.toList∈words:=by
    unfold resB at hr
    simpa using hr
   obtain⟨⟨l⟩⟩:=s
   change l∈words at hm
   simp only [words,List.mem_cons,List.not_mem_nil,or_false]at hm
   clear hr HK
   rcases hm with rfl|rfl|rfl|rfl|rfl|rfl|rfl|rfl|rfl|rfl|rfl|rfl|rfl|rfl|rfl|rfl
   all_goals
    go_enter Tryz.func30,Tryz.ntmps30
    go_wp2_with fail
    refine(HRS.out _).mono ?_
    rintro e w' ⟨rfl,rfl⟩
    go_wp2
    go_ret
    exact⟨rfl,hB.out⟩
 ·have g6:(k==6)=false:=by simpa using h6
  have e:sgB k s=⟨#[63]⟩:=by
   unfold sgB sgn
   rw [if_neg h2,if_neg h4,if_neg h5,if_neg h6]
   rfl
  rw [e]
  clear e h2 h4 h5 h6
  go_enter Tryz.func30,Tryz.ntmps30
  go_wp2
  go_ret
  exact⟨rfl,hB.out⟩
end
end Go.Proofs.YtkolpaonccmgiaaGreatDoor.Q

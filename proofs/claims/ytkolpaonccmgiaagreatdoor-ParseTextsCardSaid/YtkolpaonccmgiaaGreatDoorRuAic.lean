/- What Sign of the document's answer to layer 12 (ru -/
import Derived.Test.YtkolpaonccmgiaaGreatDoorRo
import Derived.Test.YtkolpaonccmgiaaGreatDoorRuCc
namespace Go.Proofs.YtkolpaonccmgiaaGreatDoor.Q
set_option linter.unusedSectionVars false
set_option linter.unusedVariables false
open Go.Proofs.Tryz
open Lib(hid)
set_option maxHeartbeats 8000000
set_option maxRecDepth 100000
open Go.RowKit
def KA(k:Int)(s:ByteArray):ByteArray:=⟨#[(XJ k s).toUInt8]⟩
theorem zlR{s:ByteArray}(h:V6 s=false):GN s=120:=by
 have h1:∀p∈TI,GV.contains p.1=true:=by decide+kernel
 unfold GN;rw[List.find?_eq_none.2]
 ·rfl
 ·intro p hp e
  have e':s.data.toList=p.1:=by simpa using e
  have:=h1 p hp;rw[←e']at this;unfold V6 at h;rw[h]at this;cases this
def SgQ(s:ByteArray)(W0:World)(v3:Value)(wr:World):Prop:=
 ∃op:Nat,1<=op/\op<=18/\v3=.int .i64 (op:Int)/\(∀j,1<=j->j<op->txt j≠s)/\Below W0.heap.size W0 wr
theorem zlS:∀op,op<18->1<=op->(⟨#[97,111,121,60,60,60,60,60,60,60,60,60,38,59,124,40,41]⟩:ByteArray).extract (op-1) op=⟨#[(Q4 op).toUInt8]⟩:=by decide+kernel
section
variable(w:World)
theorem zj6(p:Lf)(hs:p.s.size<=100):
  Calls prog 30 #[Xc p] w λe w'=>e=.returned (.string (KA p.k p.s))/\Below w.heap.size w w':=by
 obtain⟨k,s,f,t⟩:=p;unfold Xc;simp only at hs ⊢;have kB:=zf.new w #[.int .i64 k,.string s,.int .i64 f,.int .i64 t] 37;have hB:=hid (show Below w.heap.size w (w.alloc (.cells #[.int .i64 k,.string s,.int .i64 f,.int .i64 t] 37))from(Below.refl _ w).alloc (Nat.le_refl _) _);have HK:=hid kB;have H8:=hid (λW=>zlT s W hs);clear kB;by_cases h2:k=2
 ·subst h2
  have e:KA 2 s=⟨#[110]⟩:=rfl;rw[e];clear e;go_enter func30,ntmps30;go_wp2;go_ret;exact⟨rfl,hB.out⟩
 have g2:(k==2)=false:=by simpa using h2
 by_cases h5:k=5
 ·subst h5
  have e:KA 5 s=⟨#[35]⟩:=rfl;rw[e];clear e;go_enter func30,ntmps30;go_wp2;go_ret;exact⟨rfl,hB.out⟩
 have g5:(k==5)=false:=by simpa using h5
 by_cases h4:k=4
 ·subst h4
  obtain⟨ans,hans⟩:∃b,KA 4 s=b:=⟨_,rfl⟩;rw[hans];have zcE:=hid (show(⟨#[(Q4 (vI s)).toUInt8]⟩:ByteArray)=ans from hans);clear hans h2 h5;go_enter func30,ntmps30;go_wp2;obtain⟨W1,hW1⟩:∃X,w.alloc (.cells #[.int .i64 4,.string s,.int .i64 f,.int .i64 t] 37)=X:=⟨_,rfl⟩;rw[hW1]at HK hB ⊢;obtain⟨lb,hlb⟩:∃lb,w.heap.size=lb:=⟨_,rfl⟩;rw[hlb]at HK ⊢;have HLB:=hid hlb;clear hW1 hlb
  go_loopw [3] (λv3 wr=>SgQ s W1 v3 wr) (λv3 _=>18-(intOf v3).toNat)
  case atStart=>exact⟨1,by omega,by omega,rfl,λj h1 h2=>by omega,Below.refl _ _⟩
  case round=>
   obtain⟨op,ho1,ho2,rfl,hno,hbr⟩:=hrel;have Zu:=hid hno;have qE:=hid hbr;have c1:=(HK.out.below hbr).cell 1;simp only[List.getElem?_toArray,List.getElem?_cons_zero,List.getElem?_cons_succ]at c1;clear hno hbr;by_cases hlt:op<=17
   ·have hp:(op:Int)<=17:=by omega
    have hp':decide ((op:Int)<=17)=true:=by simpa using hp
    obtain⟨x,hx⟩:∃x,txt op=x:=⟨_,rfl⟩;have Vp:=hid (λW=>(show Calls prog 51 #[.int .i64 (op:Int)] W λe w'=>e=.returned (.string x)/\w'=W by
     have:=H9 (op:Int) W
     rwa [Int.toNat_natCast,hx]at this))
    by_cases hxs:x=s
    ·have hof:vI s=op:=(UZ (Xa.2 ⟨ho1,hlt⟩)).1 (hx.trans hxs)
     have hcut:=zlS op (by omega) ho1;have t1:(x.toList==s.toList)=true:=by rw[Zv];exact decide_eq_true hxs
     have ha:=zcE.out;rw[hof,←hcut]at ha;have HA:=hid ha;clear ha hcut hof hx hxs;have r1:IntKind.i64.wrap ((op:Int)-1)=((op-1:Nat):Int):=(IntWalk.i64_in _ (by omega)).trans (by omega)
     go_upto_region 9 with fail
     go_region_with (go_at_call 51;refine(Vp.out _).mono ?_;rintro e w' ⟨rfl,rfl⟩)
     all_goals
      go_wp2;go_ret;exact⟨by rw[←HA.out];rfl,hB.out.trans ((qE.out.drew).mono hB.out.size)⟩
    ·have t1:(x.toList==s.toList)=false:=by rw[Zv];exact decide_eq_false hxs
     have HX:=hid (hx▸hxs:txt op≠s);clear hx hxs;have e1:IntKind.i64.wrap ((op:Int)+1)=(op:Int)+1:=IntWalk.i64_in _ (by omega)
     go_upto_region 9 with fail
     go_region_with (go_at_call 51;refine(Vp.out _).mono ?_;rintro e w' ⟨rfl,rfl⟩)
     all_goals
      go_wp2;refine⟨⟨op+1,by omega,by omega,by rw[show((op+1:Nat):Int)=(op:Int)+1 from by omega],λj h1 h2=>?_,qE.out.drew⟩,by simp[intOf];omega⟩;by_cases g:j=op
      ·rw[g];exact HX.out
      ·exact Zu.out j h1 (by omega)
   ·have hp:¬(op:Int)<=17:=by omega
    have hp':decide ((op:Int)<=17)=false:=by simpa using hp
    have hz:vI s=0:=by
     refine Decidable.byContradiction λg=>?_;have hm:=U0 g;have hr:=Xa.1 hm;exact Zu.out _ hr.1 (by omega) ((UZ hm).2 rfl)
    have ha:=zcE.out;rw[hz]at ha;have HA:=hid ha;clear ha hz;go_wp2;go_ret;exact⟨by rw[←HA.out];rfl,hB.out.trans (qE.out.mono hB.out.size)⟩
 have g4:(k==4)=false:=by simpa using h4
 by_cases h6:k=6
 ·subst h6
  clear g2 g5 g4 h2 h5 h4;have e:KA 6 s=⟨#[(GN s).toUInt8]⟩:=rfl;rw[e];clear e;obtain⟨r,hr⟩:∃r,V6 s=r:=⟨_,rfl⟩;rw[hr]at H8;cases r
  ·rw[zlR hr]
   clear hr;go_enter func30,ntmps30
   go_wp2_with fail
   refine(H8.out _).mono ?_;rintro e w' ⟨rfl,rfl⟩;go_wp2;go_ret;exact⟨rfl,hB.out⟩
  ·have hm:s.data.toList∈GV:=by
    unfold V6 at hr;simpa using hr
   obtain⟨⟨l⟩⟩:=s;change l∈GV at hm;simp only[GV,List.mem_cons,List.not_mem_nil,or_false]at hm;clear hr HK;rcases hm with rfl|rfl|rfl|rfl|rfl|rfl|rfl|rfl|rfl|rfl|rfl|rfl|rfl|rfl|rfl|rfl
   all_goals
    go_enter func30,ntmps30
    go_wp2_with fail
    refine(H8.out _).mono ?_;rintro e w' ⟨rfl,rfl⟩;go_wp2;go_ret;exact⟨rfl,hB.out⟩
 ·have g6:(k==6)=false:=by simpa using h6
  have e:KA k s=⟨#[63]⟩:=by
   unfold KA XJ;rw[if_neg h2,if_neg h4,if_neg h5,if_neg h6];rfl
  rw[e];clear e h2 h4 h5 h6;go_enter func30,ntmps30;go_wp2;go_ret;exact⟨rfl,hB.out⟩
end
end Go.Proofs.YtkolpaonccmgiaaGreatDoor.Q

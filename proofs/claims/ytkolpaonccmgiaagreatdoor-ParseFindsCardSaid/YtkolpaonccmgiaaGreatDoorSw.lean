/- What the small methods of a maker of layer 13 (par -/
import Derived.Test.YtkolpaonccmgiaaGreatDoorPaO
import Derived.Test.YtkolpaonccmgiaaGreatDoorRuCc
set_option linter.unusedVariables false
namespace Go.Proofs.YtkolpaonccmgiaaGreatDoor.Q
set_option linter.unusedSectionVars false
set_option linter.unusedVariables false
open Go.RowKit
def Sg (t:ByteArray) (l:List Nat):Prop:=63∉l∧∀c,c<256→decide (Lib.indexByte t.data.toList c.toUInt8<0)=!(l.contains c)
instance (t:ByteArray) (l:List Nat):Decidable (Sg t l):=by unfold Sg;infer_instance
section
variable {n:Nat} {lv:Nat→Lf} {la:Option Addr} {lc g:Nat} {w0:World} {P:Nat→Prop}
theorem sgA_lt (i:Nat):sgA n lv i<256:=sgn_lt _ _
theorem enter_of (F:Nat) (fn:Func) (c:Code) (h1:Tryz.prog.funcs[F]?=some fn) (h2:(fn.name== "runtime.NumGoroutine")=false) (h3:fn.body=some c):∀(args:Array Value) (W:World),(callFunc F args).run Tryz.prog W=.ok (.enter F args) W:=fun args W=>by
 have h4:fn.name≠ "runtime.NumGoroutine":=by simpa using h2
 simp [callFunc,h1,h4,h3,mark]
set_option maxRecDepth 100000 in
set_option maxHeartbeats 2000000 in
theorem move_any {w:World} {s:PS} (hM:Mk (kP n lv la lc g) w0 P s w) (i:Nat) (hi:i≤n):
  Calls Tryz.prog 47 #[.pointer (some ⟨g,0,none⟩),.int .i64 (i:Int)] w fun e w'=>e=.returned (.tuple #[])∧Mk (kP n lv la lc g) w0 P ⟨i,s.L,s.u,s.d⟩ w':=by
 obtain⟨nv,hB,hO,h3,h4⟩:=hM.own
 have hsm:=lf_small hM.st.sml i
 refine(move_raw w g n la lc lv _ _ _ nv _ _ hB hM.row (fun b off h0 hl e=>hM.npg (e▸hM.st.rowP b off h0 hl)) hM.tx (fun e=>hM.npg (e▸hM.st.txP)) (i:Int) (by rw [lfI_nat];exact Nat.le_trans hsm (by omega))).mono ?_
 rintro e w' ⟨rfl,hB',hF⟩
 rw [lfI_nat]at hB'
 exact⟨rfl,hM.st,hM.frm.trans hF (fun i _ hi hp=>hM.npg (hi▸hp)),hi,hM.npg,nv,hB',own_frm hF hO (fun k hk e=>h3 (e▸hk)),h3,h4⟩
set_option maxHeartbeats 2000000 in
theorem one_any:Does (kP n lv la lc g) w0 P 50 #[.pointer (some ⟨g,0,none⟩)] .adv (fun s=>s.a<n):=by
 intro w s hM hlt
 obtain⟨nv,hB,hO,h3,h4⟩:=hM.own
 have c1:w.cell? ⟨g,1,none⟩=some (.int .i64 (s.a:Int)):=hB.cell 1
 have hn:=hM.st.nle
 change n≤10000 at hn
 have hw:IntKind.i64.wrap ((s.a:Int)+1)=((s.a+1:Nat):Int):=by
  rw [IntWalk.i64_in _ (by omega)]
  rfl
 have HC:=Lib.hid (move_any hM (s.a+1) hlt)
 clear hB hO h3 h4 hM
 go_enter Tryz.func50,Tryz.ntmps50
 go_wp2_with fail
 refine HC.out.mono ?_
 rintro e w1 ⟨rfl,hM1⟩
 have HM1:=Lib.hid hM1
 clear hM1
 go_wp2
 go_end0
 exact⟨rfl,_,.adv,HM1.out⟩
set_option maxHeartbeats 2000000 in
theorem deeper_any (k:Int) (F:Nat) (first cap:Array Value) (hE:∀(args:Array Value) (W:World),(callFunc F args).run Tryz.prog W=.ok (.enter F args) W) (b:PP) (preb:PS→Prop) (hD:Does (kP n lv la lc g) w0 P F (first++cap) b preb):
  Does (kP n lv la lc g) w0 P 120 #[.pointer (some ⟨g,0,none⟩),.int .i64 k,.func (.func F) first cap] (.node k true b) (fun s=>preb (bgn k true s)∧s.L.length≤900000∧s.d≤1000):=by
 intro w s hM ⟨hpre,hlen,hd⟩
 obtain⟨nv,hB,hO,h3,h4⟩:=hM.own
 have c9:w.cell? ⟨g,9,none⟩=some (.int .i64 (s.d:Int)):=hB.cell 9
 have f9:w.frozen? ⟨g,9,none⟩=false:=Blk.frozen (t:=50) hB 9
 have hw:IntKind.i64.wrap ((s.d:Int)+1)=((s.d+1:Nat):Int):=by
  rw [IntWalk.i64_in _ (by omega)]
  rfl
 have hM1:Mk (kP n lv la lc g) w0 P ⟨s.a,s.L,s.u,s.d+1⟩ (w.setCell ⟨g,9,none⟩ (.int .i64 ((s.d+1:Nat):Int))):=
  hM.turn rfl hM.ale ((Frm.refl _ _).put _ _) (fun nv h=>h.set 9 _)
 have HC:=Lib.hid (node_any k F first cap hE b preb hD _ _ hM1 ⟨hpre,hlen⟩)
 clear hB hO h3 h4 hM hD hM1 hpre
 go_enter Tryz.func120,Tryz.ntmps120
 go_wp2_with fail
 refine HC.out.mono ?_
 rintro e w2 ⟨rfl,s',hev,hM2⟩
 cases hev with|@node _ _ _ _ s1 hev=>
 have hkd:(fin k ⟨s.a,s.L,s.u,s.d+1⟩ s1).d=s.d+1:=rfl
 obtain⟨nv,hB,hO,h3,h4⟩:=hM2.own
 have e9:w2.cell? ⟨g,9,none⟩=some (.int .i64 ((s.d+1:Nat):Int)):=hB.cell 9
 have g9:w2.frozen? ⟨g,9,none⟩=false:=Blk.frozen (t:=50) hB 9
 have hw2:IntKind.i64.wrap (((s.d+1:Nat):Int) - 1)=(s.d:Int):=by
  rw [IntWalk.i64_in _ (by omega)]
  omega
 have HM3:=Lib.hid (show Mk (kP n lv la lc g) w0 P (fin k s s1) (w2.setCell ⟨g,9,none⟩ (.int .i64 (s.d:Int)))from
  hM2.turn rfl hM2.ale ((Frm.refl _ _).put _ _) (fun nv h=>h.set 9 _))
 have HEV:=Lib.hid (show Ev n lv b (bgn k true s) s1 from hev)
 clear hB hO h3 h4 hM2 hev hkd
 go_wp2
 go_end0
 exact⟨rfl,_,.node HEV.out,HM3.out⟩
set_option maxHeartbeats 2000000 in
theorem missing1_any:Does (kP n lv la lc g) w0 P 102 #[] .skip (fun _=>True):=by
 intro w s hM _
 have HM:=Lib.hid hM
 clear hM
 go_enter Tryz.func102,Tryz.ntmps102
 go_wp2
 go_end0
 exact⟨rfl,_,.skip,HM.out⟩
set_option maxHeartbeats 2000000 in
theorem missing_any:Does (kP n lv la lc g) w0 P 73 #[.pointer (some ⟨g,0,none⟩)] missP (fun s=>s.L.length≤900000):=by
 intro w s hM hl
 have HC:=Lib.hid (node_any 18 102 #[] #[] (enter_of _ _ _ Tryz.func102 (by kernel_rfl) rfl) .skip (fun _=>True) missing1_any w s hM ⟨trivial,hl⟩)
 clear hM
 go_enter Tryz.func73,Tryz.ntmps73
 go_wp2_with fail
 refine HC.out.mono ?_
 rintro e w1 ⟨rfl,s1,he,hM1⟩
 have HM1:=Lib.hid hM1
 have HE:=Lib.hid he
 clear hM1 he
 go_wp2
 go_end0
 exact⟨rfl,_,HE.out,HM1.out⟩
set_option maxHeartbeats 2000000 in
theorem word_any:Does (kP n lv la lc g) w0 P 148 #[.pointer (some ⟨g,0,none⟩)] wordP (fun s=>s.a<n∧s.L.length≤900000):=by
 intro w s hM ⟨ha,hl⟩
 have HC:=Lib.hid (node_any 7 50 #[.pointer (some ⟨g,0,none⟩)] #[] (enter_of _ _ _ Tryz.func50 (by kernel_rfl) rfl) .adv _ one_any w s hM ⟨ha,hl⟩)
 have hmf:∀(fn:Fn) (first cap:Array Value) (W:World),(Instr.makeFunc fn first cap).run Tryz.prog W=.ok (.func fn first cap) W:=fun _ _ _ _=>rfl
 clear hM
 go_enter Tryz.func148,Tryz.ntmps148
 go_wp2_with fail
 refine HC.out.mono ?_
 rintro e w1 ⟨rfl,s1,he,hM1⟩
 have HM1:=Lib.hid hM1
 have HE:=Lib.hid he
 clear hM1 he
 go_wp2
 go_end0
 exact⟨rfl,_,HE.out,HM1.out⟩
set_option maxHeartbeats 2000000 in
theorem wordcomes_any:Tells (kP n lv la lc g) g 150 (wrdT n lv):=by
 intro w0 P w s hM
 obtain⟨nv,hB,hO,h3,h4⟩:=hM.own
 have c2:w.cell? ⟨g,2,none⟩=some (.int .i64 (lfA n lv s.a).k):=hB.cell 2
 unfold wrdT
 obtain⟨x,hx⟩:∃x,(lfA n lv s.a).k=x:=⟨_,rfl⟩
 rw [hx]at c2 ⊢
 obtain⟨y,hy⟩:∃y,decide (x=6)=y:=⟨_,rfl⟩
 have hy2:(x==6)=y:=by rw [←hy];rfl
 rw [hy]
 clear hB hO h3 h4 hM hx hy
 go_enter Tryz.func150,Tryz.ntmps150
 go_wp2
 go_ret
 exact⟨rfl,Below.refl _ _⟩
set_option maxHeartbeats 2000000 in
theorem behind_any {w:World} {s:PS} (hM:Mk (kP n lv la lc g) w0 P s w):
  Calls Tryz.prog 117 #[.pointer (some ⟨g,0,none⟩)] w fun e w'=>e=.returned (.int .u8 (sgA n lv (s.a+1):Nat))∧Below w.heap.size w w':=by
 obtain⟨nv,hB,hO,h3,h4⟩:=hM.own
 have c1:w.cell? ⟨g,1,none⟩=some (.int .i64 (s.a:Int)):=hB.cell 1
 have hn:=hM.st.nle
 have ha:=hM.ale
 change n≤10000 at hn
 change s.a≤n at ha
 have hw:IntKind.i64.wrap ((s.a:Int)+1)=((s.a+1:Nat):Int):=by
  rw [IntWalk.i64_in _ (by omega)]
  rfl
 have hsm:=lf_small hM.st.sml (s.a+1)
 change(lfA n lv (s.a+1)).s.size≤100 at hsm
 have hc:=pleaf_any w g n la lc lv (hB.cell 0) hB.lt hM.row ((s.a+1:Nat):Int)
 rw [lfI_nat]at hc
 have hs:∀W,Below w.heap.size w W→Calls Tryz.prog 77 #[aggF (lfA n lv (s.a+1))] W fun e w'=>e=.returned (.int .u8 (sgA n lv (s.a+1):Nat))∧Below W.heap.size W w':=fun W hb=>sign_any W _ (by omega) (hM.tx.b hb)
 have HC:=Lib.hid hc
 have HS:=Lib.hid hs
 clear hB hO h3 h4 hM hc hs hsm
 go_enter Tryz.func117,Tryz.ntmps117
 go_wp2_with fail
 refine HC.out.mono ?_
 rintro e w1 ⟨rfl,hb1⟩
 have HB1:=Lib.hid hb1
 clear hb1
 go_wp2_with fail
 refine(HS.out _ HB1.out).mono ?_
 rintro e w2 ⟨rfl,hb2⟩
 have HB2:=Lib.hid (HB1.out.trans (hb2.mono HB1.out.size))
 clear hb2
 go_wp2
 go_ret
 exact⟨rfl,HB2.out⟩
set_option maxHeartbeats 2000000 in
theorem redirect_any:Tells (kP n lv la lc g) g 99 (rdrT n lv):=by
 intro w0 P w s hM
 obtain⟨nv,hB,hO,h3,h4⟩:=hM.own
 have c6:w.cell? ⟨g,6,none⟩=some (.int .u8 (sgA n lv s.a:Int)):=hB.cell 6
 have HC:=Lib.hid (behind_any hM)
 unfold rdrT
 obtain⟨x,hx⟩:∃x,sgA n lv s.a=x:=⟨_,rfl⟩
 obtain⟨y,hy⟩:∃y,sgA n lv (s.a+1)=y:=⟨_,rfl⟩
 rw [hx]at c6 ⊢
 rw [hy]at HC ⊢
 obtain⟨z,hz⟩:∃z,(y==60)=z:=⟨_,rfl⟩
 rw [hz]
 have hz2:((y:Int)==60)=z:=by rw [←hz,Bool.eq_iff_iff];simp;omega
 clear hB hO h3 h4 hM hx hy hz
 by_cases h60:x=60
 ·subst h60
  go_enter Tryz.func99,Tryz.ntmps99
  go_wp2
  go_ret
  exact⟨rfl,Below.refl _ _⟩
 ·by_cases h35:x=35
  ·subst h35
   go_enter Tryz.func99,Tryz.ntmps99
   go_wp2_with fail
   refine HC.out.mono ?_
   rintro e w1 ⟨rfl,hb1⟩
   have HB1:=Lib.hid hb1
   clear hb1
   go_wp2
   go_ret
   exact⟨rfl,HB1.out⟩
  ·have t1:((x:Int)==60)=false:=by simp;omega
   have t2:((x:Int)==35)=false:=by simp;omega
   have e1:(x==60)=false:=by simpa using h60
   have e2:(x==35)=false:=by simpa using h35
   rw [e1,e2]
   clear e1 e2 h60 h35
   go_enter Tryz.func99,Tryz.ntmps99
   go_wp2
   go_ret
   exact⟨rfl,Below.refl _ _⟩
set_option maxRecDepth 100000 in
set_option maxHeartbeats 2000000 in
theorem compound_tells:Tells (kP n lv la lc g) g 100 (cmpT n lv):=by
 intro w0 P w s hM
 obtain⟨nv,hB,hO,h3,h4⟩:=hM.own
 have c6:w.cell? ⟨g,6,none⟩=some (.int .u8 (sgA n lv s.a:Int)):=hB.cell 6
 have c9:w.cell? ⟨g,9,none⟩=some (.int .i64 (s.d:Int)):=hB.cell 9
 have HC:=Lib.hid (index_any ⟨#[123,40,105,119,114,99]⟩ (sgA n lv s.a:Int) w)
 have hsg:Sg ⟨#[123,40,105,119,114,99]⟩ [123,40,105,119,114,99]:=by decide+kernel
 have hx:=hsg.2 (sgA n lv s.a) (sgA_lt _)
 unfold cmpT
 rw [Int.toNat_natCast]at HC
 obtain⟨q,hq⟩:∃q,Lib.indexByte (⟨#[123,40,105,119,114,99]⟩:ByteArray).data.toList (sgA n lv s.a).toUInt8=q:=⟨_,rfl⟩
 rw [hq]at HC hx
 obtain⟨b,hb⟩:∃b,[123,40,105,119,114,99].contains (sgA n lv s.a)=b:=⟨_,rfl⟩
 rw [hb]at hx ⊢
 obtain⟨z,hz⟩:∃z,decide (s.d<200)=z:=⟨_,rfl⟩
 rw [hz]
 have hz2:decide ((s.d:Int)<200)=z:=by rw [←hz,Bool.eq_iff_iff];simp;omega
 have hq2:decide (0≤q)=b:=by
  have:decide (0≤q)=!decide (q<0):=by rw [Bool.eq_iff_iff];simp
  rw [this,hx,Bool.not_not]
 obtain⟨sg,hsg2⟩:∃sg,sgA n lv s.a=sg:=⟨_,rfl⟩
 rw [hsg2]at c6 HC
 obtain⟨d,hd⟩:∃d,s.d=d:=⟨_,rfl⟩
 rw [hd]at c9 hz2
 clear hB hO h3 h4 hM hsg hq hb hz hsg2 hx hd
 cases b with
 |true=>
  have q0:0≤q:=of_decide_eq_true hq2
  clear hq2
  go_enter Tryz.func100,Tryz.ntmps100
  go_wp2_with fail
  refine HC.out.mono ?_
  rintro e w1 ⟨rfl,rfl⟩
  go_wp2
  go_ret
  exact⟨rfl,Below.refl _ _⟩
 |false=>
  have q0:¬0≤q:=of_decide_eq_false hq2
  clear hq2
  go_enter Tryz.func100,Tryz.ntmps100
  go_wp2_with fail
  refine HC.out.mono ?_
  rintro e w1 ⟨rfl,rfl⟩
  go_wp2
  go_ret
  exact⟨rfl,Below.refl _ _⟩
end
section
variable {n:Nat} {lv:Nat→Lf} {la:Option Addr} {lc g:Nat} {w0:World} {P:Nat→Prop}
def atM (R:Nat) (W:World):Nat:=match W.cell? ⟨R,1,none⟩with|some (.int _ a)=>a.toNat|_=>0
theorem atM_of {w:World} {s:PS} (hM:Mk (kP n lv la lc g) w0 P s w):atM g w=s.a:=by
 obtain⟨nv,hB,hO,h3,h4⟩:=hM.own
 have c1:w.cell? ⟨g,1,none⟩=some (.int .i64 (s.a:Int)):=hB.cell 1
 unfold atM
 rw [c1]
 simp
set_option maxHeartbeats 2000000 in
theorem take_any (t:ByteArray) (l:List Nat) (hl:Sg t l) {w:World} {s:PS} (hM:Mk (kP n lv la lc g) w0 P s w) (b:Bool) (hb:isS n lv l s=b):
  Calls Tryz.prog 48 #[.pointer (some ⟨g,0,none⟩),.string t] w fun e w'=>e=.returned (.bool b)∧Mk (kP n lv la lc g) w0 P (cond b (nxt s) s) w':=by
 obtain⟨nv,hB,hO,h3,h4⟩:=hM.own
 have c6:w.cell? ⟨g,6,none⟩=some (.int .u8 (sgA n lv s.a:Int)):=hB.cell 6
 have HC:=Lib.hid (index_any t (sgA n lv s.a:Int) w)
 have hx:=hl.2 (sgA n lv s.a) (sgA_lt _)
 unfold isS at hb
 rw [hb]at hx
 rw [Int.toNat_natCast]at HC
 obtain⟨q,hq⟩:∃q,Lib.indexByte t.data.toList (sgA n lv s.a).toUInt8=q:=⟨_,rfl⟩
 rw [hq]at HC hx
 obtain⟨sg,hsg2⟩:∃sg,sgA n lv s.a=sg:=⟨_,rfl⟩
 rw [hsg2]at c6 HC
 cases b with
 |true=>
  have q0:¬q<0:=of_decide_eq_false hx
  have q1:decide (q<0)=false:=hx
  have HN:=Lib.hid (one_any w s hM (isS_le (lv:=lv) (l:=l) (show isS n lv l s=true from hb) hl.1))
  clear hB hO h3 h4 hM hq hsg2 hx hb
  go_enter Tryz.func48,Tryz.ntmps48
  go_wp2_with fail
  refine HC.out.mono ?_
  rintro e w1 ⟨rfl,rfl⟩
  go_wp2_with fail
  refine HN.out.mono ?_
  rintro e w2 ⟨rfl,s2,he,hM2⟩
  cases he
  have HM2:=Lib.hid hM2
  clear hM2
  go_wp2
  go_ret
  exact⟨rfl,HM2.out⟩
 |false=>
  have q0:q<0:=of_decide_eq_true hx
  have q1:decide (q<0)=true:=hx
  have HM:=Lib.hid hM
  clear hB hO h3 h4 hM hq hsg2 hx hb
  go_enter Tryz.func48,Tryz.ntmps48
  go_wp2_with fail
  refine HC.out.mono ?_
  rintro e w1 ⟨rfl,rfl⟩
  go_wp2
  go_ret
  exact⟨rfl,HM.out⟩
set_option maxHeartbeats 2000000 in
theorem want_any (t:ByteArray) (c:Nat) (hl:Sg t [c]):Does (kP n lv la lc g) w0 P 149 #[.pointer (some ⟨g,0,none⟩),.string t] (wantP n lv c) (fun s=>s.L.length≤900000):=by
 intro w s hM hlen
 obtain⟨b,hb⟩:∃b,isS n lv [c] s=b:=⟨_,rfl⟩
 have HC:=Lib.hid (take_any t [c] hl hM b hb)
 have HMI:=Lib.hid (missing_any (n:=n) (lv:=lv) (la:=la) (lc:=lc) (g:=g) (w0:=w0) (P:=P))
 have HB:=Lib.hid hb
 clear hM hb
 cases b with
 |true=>
  go_enter Tryz.func149,Tryz.ntmps149
  go_wp2_with fail
  refine HC.out.mono ?_
  rintro e w1 ⟨rfl,hM1⟩
  have HM1:=Lib.hid hM1
  clear hM1
  go_wp2
  go_end0
  exact⟨rfl,_,.yes HB.out .adv,HM1.out⟩
 |false=>
  go_enter Tryz.func149,Tryz.ntmps149
  go_wp2_with fail
  refine HC.out.mono ?_
  rintro e w1 ⟨rfl,hM1⟩
  have HM1:=Lib.hid hM1
  clear hM1
  go_wp2_with fail
  refine(HMI.out _ _ HM1.out hlen).mono ?_
  rintro e w2 ⟨rfl,s2,he,hM2⟩
  have HM2:=Lib.hid hM2
  have HE:=Lib.hid he
  clear hM2 he
  go_wp2
  go_end0
  exact⟨rfl,_,.no HB.out HE.out,HM2.out⟩
def NlRl (n:Nat) (lv:Nat→Lf) (la:Option Addr) (lc g:Nat) (w0:World) (P:Nat→Prop) (s:PS) (wr:World):Prop:=
 ∃r,Mk (kP n lv la lc g) w0 P r wr∧s.a≤r.a∧(r.a=s.a→r=s)∧(s.a<r.a→isS n lv [110] s=true)∧∀s',Ev n lv (nlsP n lv) r s'→Ev n lv (nlsP n lv) s s'
set_option maxHeartbeats 2000000 in
theorem newlines_any {w:World} {s:PS} (hM:Mk (kP n lv la lc g) w0 P s w):
  Calls Tryz.prog 72 #[.pointer (some ⟨g,0,none⟩)] w fun e w'=>e=.returned (.bool (isS n lv [110] s))∧∃s',Ev n lv (nlsP n lv) s s'∧Mk (kP n lv la lc g) w0 P s' w':=by
 have hsg:Sg ⟨#[110]⟩ [110]:=by decide+kernel
 obtain⟨nv,hB,hO,h3,h4⟩:=hM.own
 have c1:w.cell? ⟨g,1,none⟩=some (.int .i64 (s.a:Int)):=hB.cell 1
 have HM:=Lib.hid hM
 have HSG:=Lib.hid hsg
 clear hM hB hO h3 h4 hsg
 obtain⟨b0,hb0⟩:∃b0,isS n lv [110] s=b0:=⟨_,rfl⟩
 have HB0:=Lib.hid hb0
 rw [hb0]
 clear hb0
 obtain⟨a0,ha0⟩:∃a0,s.a=a0:=⟨_,rfl⟩
 have HA0:=Lib.hid ha0
 rw [ha0]at c1
 clear ha0
 go_enter Tryz.func72,Tryz.ntmps72
 go_wp2
 go_loopw [] (fun wr=>NlRl n lv la lc g w0 P s wr) (fun wr=>n+1 - atM g wr)
 case atStart=>exact⟨s,HM.out,Nat.le_refl _,fun _=>rfl,fun h=>absurd h (Nat.lt_irrefl _),fun _ h=>h⟩
 case round=>
  obtain⟨r,hMr,h1,h2,h3,h4⟩:=hrel
  obtain⟨b,hb⟩:∃b,isS n lv [110] r=b:=⟨_,rfl⟩
  have HC:=Lib.hid (take_any ⟨#[110]⟩ [110] HSG.out hMr b hb)
  have HMR:=Lib.hid hMr
  have HH:=Lib.hid (And.intro h1 (And.intro h2 (And.intro h3 h4)))
  have HBB:=Lib.hid hb
  clear hMr h1 h2 h3 h4 hb c1
  cases b with
  |true=>
   go_wp2_with fail
   refine HC.out.mono ?_
   rintro e w1 ⟨rfl,hM1⟩
   have HM1:=Lib.hid hM1
   clear hM1
   go_wp2
   go_roundw
   case rel=>
    obtain⟨h1,h2,h3,h4⟩:=HH.out
    refine⟨nxt r,HM1.out,by simp only [nxt];omega,fun h=>by simp only [nxt]at h;omega,fun _=>?_,fun s' he=>h4 s' (.go HBB.out .adv rfl .skip he)⟩
    rcases Nat.lt_or_ge s.a r.a with g1|g1
    ·exact h3 g1
    ·rw [←h2 (by omega)]
     exact HBB.out
   case measure=>
    have e1:=atM_of HM1.out
    have e2:=atM_of HMR.out
    have:=isS_le (lv:=lv) HBB.out (by decide)
    simp only [cond,nxt]at e1
    rw [e1,e2]
    omega
  |false=>
   go_wp2_with fail
   refine HC.out.mono ?_
   rintro e w1 ⟨rfl,hM1⟩
   obtain⟨nv,hB,hO,h3,h4⟩:=hM1.own
   have c1:w1.cell? ⟨g,1,none⟩=some (.int .i64 (r.a:Int)):=hB.cell 1
   have HM1:=Lib.hid hM1
   obtain⟨ra,hra⟩:∃ra,r.a=ra:=⟨_,rfl⟩
   rw [hra]at c1
   have hdec:decide (a0<ra)=b0:=by
    obtain⟨h1,h2,h3,h4⟩:=HH.out
    rw [←HA0.out,←hra,←HB0.out]
    rcases Nat.lt_or_ge s.a r.a with g1|g1
    ·rw [h3 g1]
     exact decide_eq_true g1
    ·rw [←h2 (by omega),HBB.out]
     exact decide_eq_false (Nat.lt_irrefl _)
   have hdec2:decide ((a0:Int)<(ra:Int))=b0:=by rw [←hdec,Bool.eq_iff_iff];simp
   have HEV:=Lib.hid (HH.out.2.2.2 r (.stop HBB.out))
   clear hB hO h3 h4 hM1 hra HA0
   go_wp2
   go_ret
   exact⟨rfl,_,HEV.out,HM1.out⟩
def sepP (n:Nat) (lv:Nat→Lf) (l:List Nat):PP:=.ite (isS n lv l) (.seq .adv (nlsP n lv)) .skip
theorem nls_go {s s':PS} (h:Ev n lv (nlsP n lv) s s') (hb:isS n lv [110] s=true):Ev n lv (.seq .adv (nlsP n lv)) s s':=by
 cases h with
 |stop hc=>rw [hb]at hc;cases hc
 |out _ _ hd=>cases hd
 |go _ h1 _ h2 h3=>
  cases h2
  exact .seq h1 h3
theorem nls_no {s s':PS} (h:Ev n lv (nlsP n lv) s s') (hb:isS n lv [110] s=false):s'=s:=by
 cases h with
 |stop hc=>rfl
 |out hc _ hd=>cases hd
 |go hc _ _ _ _=>rw [hb]at hc;cases hc
set_option maxHeartbeats 2000000 in
theorem separator_any (t:ByteArray) (l l':List Nat) (hl:Sg t l) (hl':∀c,l'.contains c=(l.contains c||c==110)) {w:World} {s:PS} (hM:Mk (kP n lv la lc g) w0 P s w) (b:Bool) (hb:isS n lv l' s=b):
  Calls Tryz.prog 108 #[.pointer (some ⟨g,0,none⟩),.string t] w fun e w'=>e=.returned (.bool b)∧∃s',Ev n lv (sepP n lv l') s s'∧Mk (kP n lv la lc g) w0 P s' w':=by
 obtain⟨x,hx⟩:∃x,isS n lv l s=x:=⟨_,rfl⟩
 have HC:=Lib.hid (take_any t l hl hM x hx)
 have HN:Hid (∀(W:World) (r:PS),Mk (kP n lv la lc g) w0 P r W→∀z,isS n lv [110] r=z→Calls Tryz.prog 72 #[.pointer (some ⟨g,0,none⟩)] W fun e w'=>e=.returned (.bool z)∧∃s',Ev n lv (nlsP n lv) r s'∧Mk (kP n lv la lc g) w0 P s' w'):=Lib.hid (fun W r h z hz=>by rw [←hz];exact newlines_any h)
 have hbb:(x||isS n lv [110] s)=b:=by
  rw [←hb,←hx]
  unfold isS
  rw [hl']
  simp only [List.contains_cons,List.contains_nil,Bool.or_false]
 have HBX:=Lib.hid (And.intro hb hx)
 clear hM hb hx hl' hl
 cases x with
 |true=>
  have hbt:b=true:=by rw [←hbb];rfl
  subst hbt
  clear hbb
  go_enter Tryz.func108,Tryz.ntmps108
  go_wp2_with fail
  refine HC.out.mono ?_
  rintro e w1 ⟨rfl,hM1⟩
  obtain⟨z,hz⟩:∃z,isS n lv [110] (cond true (nxt s) s)=z:=⟨_,rfl⟩
  have HZ:=Lib.hid (HN.out _ _ hM1 z hz)
  clear hM1 hz
  cases z with
  |true=>
   go_wp2_with fail
   refine HZ.out.mono ?_
   rintro e w2 ⟨rfl,s2,he,hM2⟩
   have HM2:=Lib.hid hM2
   have HE:=Lib.hid he
   clear hM2 he
   go_wp2
   go_ret
   exact⟨rfl,_,.yes HBX.out.1 (.seq .adv HE.out),HM2.out⟩
  |false=>
   go_wp2_with fail
   refine HZ.out.mono ?_
   rintro e w2 ⟨rfl,s2,he,hM2⟩
   have HM2:=Lib.hid hM2
   have HE:=Lib.hid he
   clear hM2 he
   go_wp2
   go_ret
   exact⟨rfl,_,.yes HBX.out.1 (.seq .adv HE.out),HM2.out⟩
 |false=>
  have hbt:isS n lv [110] s=b:=by rw [←hbb];rfl
  clear hbb
  go_enter Tryz.func108,Tryz.ntmps108
  go_wp2_with fail
  refine HC.out.mono ?_
  rintro e w1 ⟨rfl,hM1⟩
  have HZ:=Lib.hid (HN.out _ _ hM1 b hbt)
  have HBT:=Lib.hid hbt
  clear hM1 hbt
  cases b with
  |true=>
   go_wp2_with fail
   refine HZ.out.mono ?_
   rintro e w2 ⟨rfl,s2,he,hM2⟩
   have HM2:=Lib.hid hM2
   have HE:=Lib.hid he
   clear hM2 he
   go_wp2
   go_ret
   exact⟨rfl,_,.yes HBX.out.1 (nls_go HE.out HBT.out),HM2.out⟩
  |false=>
   go_wp2_with fail
   refine HZ.out.mono ?_
   rintro e w2 ⟨rfl,s2,he,hM2⟩
   have HM2:=Lib.hid hM2
   have HE:=Lib.hid (nls_no he HBT.out)
   clear hM2 he
   go_wp2
   go_ret
   have e2:s2=s:=HE.out
   refine⟨rfl,s,.no HBX.out.1 .skip,?_⟩
   rw [←e2]
   exact HM2.out
set_option maxHeartbeats 2000000 in
theorem won_any:Does (kP n lv la lc g) w0 P 181 #[.pointer (some ⟨g,0,none⟩)] (wonP n lv) (fun s=>s.L.length≤900000):=by
 intro w s hM hlen
 obtain⟨b,hb⟩:∃b,wrdT n lv s=b:=⟨_,rfl⟩
 have hc:=wordcomes_any (n:=n) (lv:=lv) (la:=la) (lc:=lc) (g:=g) w0 P w s hM
 rw [hb]at hc
 have HC:=Lib.hid hc
 have HM:=Lib.hid hM
 have HMI:=Lib.hid (missing_any (n:=n) (lv:=lv) (la:=la) (lc:=lc) (g:=g) (w0:=w0) (P:=P))
 have HWO:=Lib.hid (word_any (n:=n) (lv:=lv) (la:=la) (lc:=lc) (g:=g) (w0:=w0) (P:=P))
 have HB:=Lib.hid hb
 clear hM hb hc
 cases b with
 |true=>
  go_enter Tryz.func181,Tryz.ntmps181
  go_wp2_with fail
  refine HC.out.mono ?_
  rintro e w1 ⟨rfl,hb1⟩
  have HM1:=Lib.hid (HM.out.below hb1)
  clear hb1
  go_wp2_with fail
  refine(HWO.out _ _ HM1.out ⟨wrd_le HB.out,hlen⟩).mono ?_
  rintro e w2 ⟨rfl,s2,he,hM2⟩
  have HM2:=Lib.hid hM2
  have HE:=Lib.hid he
  clear hM2 he
  go_wp2
  go_end0
  exact⟨rfl,_,.yes HB.out HE.out,HM2.out⟩
 |false=>
  go_enter Tryz.func181,Tryz.ntmps181
  go_wp2_with fail
  refine HC.out.mono ?_
  rintro e w1 ⟨rfl,hb1⟩
  have HM1:=Lib.hid (HM.out.below hb1)
  clear hb1
  go_wp2_with fail
  refine(HMI.out _ _ HM1.out hlen).mono ?_
  rintro e w2 ⟨rfl,s2,he,hM2⟩
  have HM2:=Lib.hid hM2
  have HE:=Lib.hid he
  clear hM2 he
  go_wp2
  go_end0
  exact⟨rfl,_,.no HB.out HE.out,HM2.out⟩
end
section
variable {n:Nat} {lv:Nat→Lf} {la:Option Addr} {lc g:Nat} {w0:World} {P:Nat→Prop}
theorem potle {p:PP} {s s':PS} {c:Int} (h:Ev n lv p s s') (ho:okc p=true) (hc:cst p≤c):pot s'≤pot s+c:=by have:=h.pot ho;omega
theorem pot_len {s:PS} {w:World} (hM:Mk (kP n lv la lc g) w0 P s w) (h:pot s≤1000):s.L.length≤900000:=by
 have h1:=hM.ale
 have h2:=hM.st.nle
 change s.a≤n at h1
 change n≤10000 at h2
 unfold pot at h
 omega
set_option maxRecDepth 100000 in
set_option maxHeartbeats 2000000 in
theorem command_tells:Tells (kP n lv la lc g) g 70 (cmdT n lv):=by
 intro w0 P w s hM
 obtain⟨nv,hB,hO,h3,h4⟩:=hM.own
 have c6:w.cell? ⟨g,6,none⟩=some (.int .u8 (sgA n lv s.a:Int)):=hB.cell 6
 have hr:=redirect_any (n:=n) (lv:=lv) (la:=la) (lc:=lc) (g:=g) w0 P w s hM
 have HCM:=Lib.hid (fun W (h:Below w.heap.size w W)=>compound_tells (n:=n) (lv:=lv) (la:=la) (lc:=lc) (g:=g) w0 P W s (hM.below h))
 unfold cmdT
 obtain⟨x,hx⟩:∃x,sgA n lv s.a=x:=⟨_,rfl⟩
 rw [hx]at c6 ⊢
 obtain⟨r,hr2⟩:∃r,rdrT n lv s=r:=⟨_,rfl⟩
 rw [hr2]at hr ⊢
 obtain⟨z,hz⟩:∃z,cmpT n lv s=z:=⟨_,rfl⟩
 rw [hz]at HCM ⊢
 have HR:=Lib.hid hr
 clear hB hO h3 h4 hM hx hr hr2 hz
 by_cases h120:x=120
 ·subst h120
  go_enter Tryz.func70,Tryz.ntmps70
  go_wp2
  go_ret
  exact⟨rfl,Below.refl _ _⟩
 ·have t1:((x:Int)==120)=false:=by simp;omega
  have e1:(x==120)=false:=by simpa using h120
  rw [e1,Bool.false_or]
  clear e1 h120
  cases r with
  |true=>
   go_enter Tryz.func70,Tryz.ntmps70
   go_wp2_with fail
   refine HR.out.mono ?_
   rintro e w1 ⟨rfl,hb1⟩
   have HB1:=Lib.hid hb1
   clear hb1
   go_wp2
   go_ret
   exact⟨rfl,HB1.out⟩
  |false=>
   go_enter Tryz.func70,Tryz.ntmps70
   go_wp2_with fail
   refine HR.out.mono ?_
   rintro e w1 ⟨rfl,hb1⟩
   have HB1:=Lib.hid hb1
   clear hb1
   go_wp2_with fail
   refine(HCM.out _ HB1.out).mono ?_
   rintro e w2 ⟨rfl,hb2⟩
   have HB2:=Lib.hid (HB1.out.trans (hb2.mono HB1.out.size))
   clear hb2
   go_wp2
   go_ret
   exact⟨rfl,HB2.out⟩
set_option maxRecDepth 100000 in
set_option maxHeartbeats 2000000 in
theorem pipe_tells:Tells (kP n lv la lc g) g 44 (pipT n lv):=by
 intro w0 P w s hM
 obtain⟨nv,hB,hO,h3,h4⟩:=hM.own
 have c6:w.cell? ⟨g,6,none⟩=some (.int .u8 (sgA n lv s.a:Int)):=hB.cell 6
 have hr:=command_tells (n:=n) (lv:=lv) (la:=la) (lc:=lc) (g:=g) w0 P w s hM
 unfold pipT
 obtain⟨x,hx⟩:∃x,sgA n lv s.a=x:=⟨_,rfl⟩
 rw [hx]at c6 ⊢
 obtain⟨r,hr2⟩:∃r,cmdT n lv s=r:=⟨_,rfl⟩
 rw [hr2]at hr ⊢
 have HR:=Lib.hid hr
 clear hB hO h3 h4 hM hx hr hr2
 by_cases h33:x=33
 ·subst h33
  go_enter Tryz.func44,Tryz.ntmps44
  go_wp2
  go_ret
  exact⟨rfl,Below.refl _ _⟩
 ·have t1:((x:Int)==33)=false:=by simp;omega
  have e1:(x==33)=false:=by simpa using h33
  rw [e1,Bool.false_or]
  clear e1 h33
  go_enter Tryz.func44,Tryz.ntmps44
  go_wp2_with fail
  refine HR.out.mono ?_
  rintro e w1 ⟨rfl,hb1⟩
  have HB1:=Lib.hid hb1
  clear hb1
  go_wp2
  go_ret
  exact⟨rfl,HB1.out⟩
def redB (n:Nat) (lv:Nat→Lf):PP:=.seq (.ite (isS n lv [35]) (.seq .adv .adv) .adv) (wonP n lv)
theorem sg_hash:Sg ⟨#[35]⟩ [35]:=by decide+kernel
theorem sg_red:Sg ⟨#[60]⟩ [60]:=by decide+kernel
theorem rdr_hash {s:PS} (h:rdrT n lv s=true) (hb:isS n lv [35] s=true):isS n lv [60] (nxt s)=true:=by
 unfold isS at hb ⊢
 unfold rdrT at h
 simp only [List.contains_cons,List.contains_nil,Bool.or_false,beq_iff_eq]at hb ⊢
 rw [hb]at h
 simpa [nxt]using h
theorem rdr_red {s:PS} (h:rdrT n lv s=true) (hb:isS n lv [35] s=false):isS n lv [60] s=true:=by
 unfold isS at hb ⊢
 unfold rdrT at h
 simp only [List.contains_cons,List.contains_nil,Bool.or_false]at hb ⊢
 rw [hb]at h
 simpa using h
set_option maxRecDepth 100000 in
set_option maxHeartbeats 2000000 in
theorem redirect1_any (B:Nat) (hbox:Blk w0 B #[.pointer (some ⟨g,0,none⟩)] 46) (hPB:P B):
  Does (kP n lv la lc g) w0 P 180 #[.pointer (some ⟨B,0,none⟩)] (redB n lv) (fun s=>rdrT n lv s=true∧pot s≤100):=by
 intro w s hM ⟨hr,hp⟩
 have HBX:=Lib.hid (fun W r (h:Mk (kP n lv la lc g) w0 P r W)=>(show W.cell? ⟨B,0,none⟩=some (.pointer (some ⟨g,0,none⟩))from(h.blk hbox hPB).cell 0))
 have b0:=HBX.out _ _ hM
 obtain⟨x,hx⟩:∃x,isS n lv [35] s=x:=⟨_,rfl⟩
 have HC:=Lib.hid (take_any ⟨#[35]⟩ [35] sg_hash hM x hx)
 have HW:=Lib.hid (won_any (n:=n) (lv:=lv) (la:=la) (lc:=lc) (g:=g) (w0:=w0) (P:=P))
 have HX:=Lib.hid hx
 have HR:=Lib.hid hr
 clear hM hx hbox hr
 cases x with
 |true=>
  go_enter Tryz.func180,Tryz.ntmps180
  go_wp2_with fail
  refine HC.out.mono ?_
  rintro e w1 ⟨rfl,hM1⟩
  have hM1':Mk (kP n lv la lc g) w0 P (nxt s) w1:=hM1
  have b1:=HBX.out _ _ hM1
  have HC2:=Lib.hid (take_any ⟨#[60]⟩ [60] sg_red hM1' true (rdr_hash HR.out HX.out))
  clear hM1 hM1'
  go_wp2_with fail
  refine HC2.out.mono ?_
  rintro e w2 ⟨rfl,hM2⟩
  have hM2':Mk (kP n lv la lc g) w0 P (nxt (nxt s)) w2:=hM2
  have b2:=HBX.out _ _ hM2
  have HM2:=Lib.hid hM2'
  have hl2:(nxt (nxt s)).L.length≤900000:=pot_len hM2' (by simp only [pot,nxt]at hp ⊢;omega)
  clear hM2 hM2'
  go_wp2_with fail
  refine(HW.out _ _ HM2.out hl2).mono ?_
  rintro e w3 ⟨rfl,s3,he3,hM3⟩
  have HM3:=Lib.hid hM3
  have HE3:=Lib.hid he3
  clear hM3 he3
  go_wp2
  go_end0
  exact⟨rfl,_,.seq (.yes HX.out (.seq .adv .adv)) HE3.out,HM3.out⟩
 |false=>
  go_enter Tryz.func180,Tryz.ntmps180
  go_wp2_with fail
  refine HC.out.mono ?_
  rintro e w1 ⟨rfl,hM1⟩
  have hM1':Mk (kP n lv la lc g) w0 P s w1:=hM1
  have b1:=HBX.out _ _ hM1
  have HC2:=Lib.hid (take_any ⟨#[60]⟩ [60] sg_red hM1' true (rdr_red HR.out HX.out))
  clear hM1 hM1'
  go_wp2_with fail
  refine HC2.out.mono ?_
  rintro e w2 ⟨rfl,hM2⟩
  have hM2':Mk (kP n lv la lc g) w0 P (nxt s) w2:=hM2
  have b2:=HBX.out _ _ hM2
  have HM2:=Lib.hid hM2'
  have hl2:(nxt s).L.length≤900000:=pot_len hM2' (by simp only [pot,nxt]at hp ⊢;omega)
  clear hM2 hM2'
  go_wp2_with fail
  refine(HW.out _ _ HM2.out hl2).mono ?_
  rintro e w3 ⟨rfl,s3,he3,hM3⟩
  have HM3:=Lib.hid hM3
  have HE3:=Lib.hid he3
  clear hM3 he3
  go_wp2
  go_end0
  exact⟨rfl,_,.seq (.no HX.out .adv) HE3.out,HM3.out⟩
set_option maxRecDepth 100000 in
set_option maxHeartbeats 2000000 in
theorem redirectM_any:Does (kP n lv la lc g) w0 P 146 #[.pointer (some ⟨g,0,none⟩)] (redP n lv) (fun s=>rdrT n lv s=true∧pot s≤90):=by
 intro w s hM ⟨hr,hp⟩
 have hb1:Below w.heap.size w (w.alloc (.cells #[.pointer (some ⟨g,0,none⟩)] 46)):=(Below.refl _ w).alloc (Nat.le_refl _) _
 have hbx:=Blk.new w #[.pointer (some ⟨g,0,none⟩)] 46
 obtain⟨W,hW⟩:∃W,w.alloc (.cells #[.pointer (some ⟨g,0,none⟩)] 46)=W:=⟨_,rfl⟩
 rw [hW]at hb1 hbx
 obtain⟨P',hM',hPP,hPn,hback⟩:=hM.base hb1
 have hl:=pot_len hM (by omega)
 have HC:=Lib.hid (node_any 8 180 #[] #[.pointer (some ⟨w.heap.size,0,none⟩)] (enter_of _ _ _ Tryz.func180 (by kernel_rfl) rfl) (redB n lv) _ (redirect1_any (w0:=W) (P:=P') w.heap.size hbx (hPn _ (Nat.le_refl _) hbx.lt)) W s hM' ⟨⟨hr,by simp only [pot,bgn,List.length_append,List.length_singleton]at hp ⊢;omega⟩,hl⟩)
 have b0:W.cell? ⟨w.heap.size,0,none⟩=some (.pointer (some ⟨g,0,none⟩)):=hbx.cell 0
 have hmf:∀(fn:Fn) (first cap:Array Value) (W:World),(Instr.makeFunc fn first cap).run Tryz.prog W=.ok (.func fn first cap) W:=fun _ _ _ _=>rfl
 have HBK:=Lib.hid hback
 clear hM hM' hPP hPn hb1 hbx hback hr
 go_enter Tryz.func146,Tryz.ntmps146
 go_wp2_with fail
 refine HC.out.mono ?_
 rintro e w1 ⟨rfl,s1,he,hM1⟩
 have HM1:=Lib.hid (HBK.out _ _ hM1)
 have HE:=Lib.hid he
 clear hM1 he
 go_wp2
 go_end0
 exact⟨rfl,_,HE.out,HM1.out⟩
end
end Go.Proofs.YtkolpaonccmgiaaGreatDoor.Q

/- What the methods of a maker of layer 13 (parse) le -/
import Derived.Test.YtkolpaonccmgiaaGreatDoorSw
set_option linter.unusedVariables false
namespace Go.Proofs.YtkolpaonccmgiaaGreatDoor.Q
set_option linter.unusedSectionVars false
set_option linter.unusedVariables false
open Go.RowKit
section
variable {n:Nat} {lv:Nat→Lf} {la:Option Addr} {lc g:Nat} {w0:World} {P:Nat→Prop}
def LstOK (n:Nat) (lv:Nat→Lf) (la:Option Addr) (lc g a0:Nat):Prop:=
 ∀(w0:World) (P:Nat→Prop),Does (kP n lv la lc g) w0 P 79 #[.pointer (some ⟨g,0,none⟩)] (lsbP n lv) (fun s=>a0<s.a∧pipT n lv s=true∧pot s≤11)
def Rl (K:Kd) (w0:World) (P:Nat→Prop) (p:PP) (s:PS) (c:Int) (wr:World):Prop:=
 ∃r,Mk K w0 P r wr∧pot r≤c∧s.a≤r.a∧∀s',Ev K.n K.lv p r s'→Ev K.n K.lv p s s'
theorem mkfun:∀(fn:Fn) (first cap:Array Value) (W:World),(Instr.makeFunc fn first cap).run Tryz.prog W=.ok (.func fn first cap) W:=fun _ _ _ _=>rfl
theorem pot_bgn (k:Int) (dp:Bool) (s:PS):pot (bgn k dp s)=pot s+1:=by simp only [pot,bgn,List.length_append,List.length_singleton];omega
theorem pot_nxt (s:PS):pot (nxt s)=pot s - 30:=by simp only [pot,nxt];omega
theorem nls_any {w:World} {s:PS} (hM:Mk (kP n lv la lc g) w0 P s w) (b:Bool) (hb:isS n lv [110] s=b):
  Calls Tryz.prog 72 #[.pointer (some ⟨g,0,none⟩)] w fun e w'=>e=.returned (.bool b)∧∃s',Ev n lv (nlsP n lv) s s'∧Mk (kP n lv la lc g) w0 P s' w':=by
 rw [←hb]
 exact newlines_any hM
set_option maxRecDepth 100000 in
set_option maxHeartbeats 2000000 in
theorem listed_any {a0:Nat} (HL:LstOK n lv la lc g a0) {w:World} {s:PS} (hM:Mk (kP n lv la lc g) w0 P s w) (ha:a0<s.a) (hp:pot s≤10) (b:Bool) (hb:pipT n lv s=b):
  Calls Tryz.prog 49 #[.pointer (some ⟨g,0,none⟩)] w fun e w'=>e=.returned (.bool b)∧∃s',Ev n lv (.ite (pipT n lv) .lst .skip) s s'∧Mk (kP n lv la lc g) w0 P s' w':=by
 have hc:=pipe_tells (n:=n) (lv:=lv) (la:=la) (lc:=lc) (g:=g) w0 P w s hM
 rw [hb]at hc
 have HC:=Lib.hid hc
 have HM:=Lib.hid hM
 have HB:=Lib.hid hb
 have hmf:=mkfun
 clear hc
 cases b with
 |true=>
  have HN:=Lib.hid (fun W (h:Mk (kP n lv la lc g) w0 P s W)=>node_any 2 79 #[.pointer (some ⟨g,0,none⟩)] #[] (enter_of _ _ _ Tryz.func79 (by kernel_rfl) rfl) (lsbP n lv) _ (HL w0 P) W s h ⟨⟨ha,hb,by rw [pot_bgn];omega⟩,pot_len h (by omega)⟩)
  clear hM hb
  go_enter Tryz.func49,Tryz.ntmps49
  go_wp2_with fail
  refine(HC.out).mono ?_
  rintro e w1 ⟨rfl,hb1⟩
  have HM1:=Lib.hid (HM.out.below hb1)
  clear hb1
  go_wp2_with fail
  refine(HN.out _ HM1.out).mono ?_
  rintro e w2 ⟨rfl,s2,he2,hM2⟩
  have HM2:=Lib.hid hM2
  have HE2:=Lib.hid he2
  have ha2:=he2.kp.a
  clear hM2 he2
  go_wp2
  go_ret
  exact⟨rfl,_,.yes HB.out (.lst HE2.out),HM2.out⟩
 |false=>
  clear hM hb
  go_enter Tryz.func49,Tryz.ntmps49
  go_wp2_with fail
  refine(HC.out).mono ?_
  rintro e w1 ⟨rfl,hb1⟩
  have HM1:=Lib.hid (HM.out.below hb1)
  clear hb1
  go_wp2
  go_ret
  exact⟨rfl,_,.no HB.out .skip,HM1.out⟩
set_option maxRecDepth 100000 in
set_option maxHeartbeats 2000000 in
theorem body_any {a0:Nat} (HL:LstOK n lv la lc g a0):Does (kP n lv la lc g) w0 P 202 #[.pointer (some ⟨g,0,none⟩)] (bodyP n lv) (fun s=>a0<s.a∧pot s≤10):=by
 intro w s hM ⟨ha,hp⟩
 obtain⟨b0,hb0⟩:∃b0,isS n lv [110] s=b0:=⟨_,rfl⟩
 have HN:=Lib.hid (nls_any hM b0 hb0)
 have HLL:=Lib.hid (fun W r (h:Mk (kP n lv la lc g) w0 P r W)=>listed_any HL h)
 have HMI:=Lib.hid (missing_any (n:=n) (lv:=lv) (la:=la) (lc:=lc) (g:=g) (w0:=w0) (P:=P))
 clear hM hb0
 go_enter Tryz.func202,Tryz.ntmps202
 go_wp2_with fail
 refine HN.out.mono ?_
 rintro e w1 ⟨rfl,s1,he1,hM1⟩
 have hp1:=potle he1 (by rfl) (c:=0) (of_decide_eq_true (by rfl))
 have ha1:=he1.kp.a
 obtain⟨b,hb⟩:∃b,pipT n lv s1=b:=⟨_,rfl⟩
 have HLS:=Lib.hid (HLL.out w1 s1 hM1 (by omega) (by omega) b hb)
 have HB:=Lib.hid hb
 have HE1:=Lib.hid he1
 clear hM1 hb he1 HLL
 cases b with
 |true=>
  go_wp2_with fail
  refine HLS.out.mono ?_
  rintro e w2 ⟨rfl,s2,he2,hM2⟩
  have HM2:=Lib.hid hM2
  cases he2 with
  |no hc _=>rw [HB.out]at hc;cases hc
  |yes _ he2=>
  have HE2:=Lib.hid he2
  clear hM2 he2
  go_wp2
  go_end0
  exact⟨rfl,_,.seq HE1.out (.yes HB.out HE2.out),HM2.out⟩
 |false=>
  go_wp2_with fail
  refine HLS.out.mono ?_
  rintro e w2 ⟨rfl,s2,he2,hM2⟩
  cases he2 with
  |yes hc _=>rw [HB.out]at hc;cases hc
  |no _ he2=>
  cases he2
  have HM2:=Lib.hid hM2
  clear hM2
  go_wp2_with fail
  refine(HMI.out _ _ HM2.out (pot_len HM2.out (by omega))).mono ?_
  rintro e w3 ⟨rfl,s3,he3,hM3⟩
  have HM3:=Lib.hid hM3
  have HE3:=Lib.hid he3
  clear hM3 he3
  go_wp2
  go_end0
  exact⟨rfl,_,.seq HE1.out (.no HB.out HE3.out),HM3.out⟩
set_option maxRecDepth 100000 in
set_option maxHeartbeats 2000000 in
theorem branch_any {a0:Nat} (HL:LstOK n lv la lc g a0):Does (kP n lv la lc g) w0 P 203 #[.pointer (some ⟨g,0,none⟩)] (brnP n lv) (fun s=>a0<s.a∧pot s≤5):=by
 intro w s hM ⟨ha,hp⟩
 have HBD:=Lib.hid (body_any (w0:=w0) (P:=P) HL)
 have HWt:=Lib.hid (want_any (n:=n) (lv:=lv) (la:=la) (lc:=lc) (g:=g) (w0:=w0) (P:=P) ⟨#[116]⟩ 116 (by decide+kernel))
 have HM:=Lib.hid hM
 clear hM
 go_enter Tryz.func203,Tryz.ntmps203
 go_wp2_with fail
 refine(HBD.out _ _ HM.out ⟨by omega,by omega⟩).mono ?_
 rintro e w1 ⟨rfl,s1,he1,hM1⟩
 have HM1:=Lib.hid hM1
 have HE1:=Lib.hid he1
 have ha1:=he1.kp.a
 have hp1:=potle he1 (by rfl) (c:=4) (of_decide_eq_true (by rfl))
 clear hM1 he1
 go_wp2_with fail
 refine(HWt.out _ _ HM1.out (pot_len HM1.out (by omega))).mono ?_
 rintro e w2 ⟨rfl,s2,he2,hM2⟩
 have HM2:=Lib.hid hM2
 have HE2:=Lib.hid he2
 have ha2:=he2.kp.a
 have hp2:=potle he2 (by rfl) (c:=1) (of_decide_eq_true (by rfl))
 clear hM2 he2
 go_wp2_with fail
 refine(HBD.out _ _ HM2.out ⟨by omega,by omega⟩).mono ?_
 rintro e w3 ⟨rfl,s3,he3,hM3⟩
 have HM3:=Lib.hid hM3
 have HE3:=Lib.hid he3
 have ha3:=he3.kp.a
 have hp3:=potle he3 (by rfl) (c:=4) (of_decide_eq_true (by rfl))
 clear hM3 he3
 go_wp2
 go_end0
 exact⟨rfl,_,.seq HE1.out (.seq HE2.out HE3.out),HM3.out⟩
set_option maxRecDepth 100000 in
set_option maxHeartbeats 2000000 in
theorem done_any {a0:Nat} (HL:LstOK n lv la lc g a0):Does (kP n lv la lc g) w0 P 204 #[.pointer (some ⟨g,0,none⟩)] (doneP n lv) (fun s=>a0<s.a∧pot s≤9):=by
 intro w s hM ⟨ha,hp⟩
 have HBD:=Lib.hid (body_any (w0:=w0) (P:=P) HL)
 have HWd:=Lib.hid (want_any (n:=n) (lv:=lv) (la:=la) (lc:=lc) (g:=g) (w0:=w0) (P:=P) ⟨#[100]⟩ 100 (by decide+kernel))
 have HWg:=Lib.hid (want_any (n:=n) (lv:=lv) (la:=la) (lc:=lc) (g:=g) (w0:=w0) (P:=P) ⟨#[103]⟩ 103 (by decide+kernel))
 have HM:=Lib.hid hM
 clear hM
 go_enter Tryz.func204,Tryz.ntmps204
 go_wp2_with fail
 refine(HWd.out _ _ HM.out (pot_len HM.out (by omega))).mono ?_
 rintro e w1 ⟨rfl,s1,he1,hM1⟩
 have HM1:=Lib.hid hM1
 have HE1:=Lib.hid he1
 have ha1:=he1.kp.a
 have hp1:=potle he1 (by rfl) (c:=1) (of_decide_eq_true (by rfl))
 clear hM1 he1
 go_wp2_with fail
 refine(HBD.out _ _ HM1.out ⟨by omega,by omega⟩).mono ?_
 rintro e w2 ⟨rfl,s2,he2,hM2⟩
 have HM2:=Lib.hid hM2
 have HE2:=Lib.hid he2
 have ha2:=he2.kp.a
 have hp2:=potle he2 (by rfl) (c:=4) (of_decide_eq_true (by rfl))
 clear hM2 he2
 go_wp2_with fail
 refine(HWg.out _ _ HM2.out (pot_len HM2.out (by omega))).mono ?_
 rintro e w3 ⟨rfl,s3,he3,hM3⟩
 have HM3:=Lib.hid hM3
 have HE3:=Lib.hid he3
 have ha3:=he3.kp.a
 have hp3:=potle he3 (by rfl) (c:=1) (of_decide_eq_true (by rfl))
 clear hM3 he3
 go_wp2
 go_end0
 exact⟨rfl,_,.seq HE1.out (.seq HE2.out HE3.out),HM3.out⟩
set_option maxRecDepth 100000 in
set_option maxHeartbeats 2000000 in
theorem loop_any {a0:Nat} (HL:LstOK n lv la lc g a0):Does (kP n lv la lc g) w0 P 177 #[.pointer (some ⟨g,0,none⟩)] (loopP n lv) (fun s=>a0<s.a∧pot s≤4):=by
 intro w s hM ⟨ha,hp⟩
 have HBD:=Lib.hid (body_any (w0:=w0) (P:=P) HL)
 have HDN:=Lib.hid (done_any (w0:=w0) (P:=P) HL)
 have HM:=Lib.hid hM
 clear hM
 go_enter Tryz.func177,Tryz.ntmps177
 go_wp2_with fail
 refine(HBD.out _ _ HM.out ⟨by omega,by omega⟩).mono ?_
 rintro e w1 ⟨rfl,s1,he1,hM1⟩
 have HM1:=Lib.hid hM1
 have HE1:=Lib.hid he1
 have ha1:=he1.kp.a
 have hp1:=potle he1 (by rfl) (c:=4) (of_decide_eq_true (by rfl))
 clear hM1 he1
 go_wp2_with fail
 refine(HDN.out _ _ HM1.out ⟨by omega,by omega⟩).mono ?_
 rintro e w2 ⟨rfl,s2,he2,hM2⟩
 have HM2:=Lib.hid hM2
 have HE2:=Lib.hid he2
 have ha2:=he2.kp.a
 clear hM2 he2
 go_wp2
 go_end0
 exact⟨rfl,_,.seq HE1.out HE2.out,HM2.out⟩
set_option maxRecDepth 100000 in
set_option maxHeartbeats 2000000 in
theorem enclosed1_any {a0:Nat} (HL:LstOK n lv la lc g a0) (B C c:Nat) (t:ByteArray) (ht:Sg t [c]) (hbox:Blk w0 B #[.pointer (some ⟨g,0,none⟩)] 46) (hPB:P B) (hboxC:Blk w0 C #[.string t] 9) (hPC:P C):
  Does (kP n lv la lc g) w0 P 201 #[.pointer (some ⟨B,0,none⟩),.pointer (some ⟨C,0,none⟩)] (encP n lv c) (fun s=>a0<s.a∧pot s≤10):=by
 intro w s hM ⟨ha,hp⟩
 have HBX:=Lib.hid (fun W r (h:Mk (kP n lv la lc g) w0 P r W)=>(show W.cell? ⟨B,0,none⟩=some (.pointer (some ⟨g,0,none⟩))from(h.blk hbox hPB).cell 0))
 have HCX:=Lib.hid (fun W r (h:Mk (kP n lv la lc g) w0 P r W)=>(show W.cell? ⟨C,0,none⟩=some (.string t)from(h.blk hboxC hPC).cell 0))
 have b0:=HBX.out _ _ hM
 have HBD:=Lib.hid (body_any (w0:=w0) (P:=P) HL)
 have HW:=Lib.hid (want_any (n:=n) (lv:=lv) (la:=la) (lc:=lc) (g:=g) (w0:=w0) (P:=P) t c ht)
 have HM:=Lib.hid hM
 clear hM hbox hboxC ht
 go_enter Tryz.func201,Tryz.ntmps201
 go_wp2_with fail
 refine(HBD.out _ _ HM.out ⟨by omega,by omega⟩).mono ?_
 rintro e w1 ⟨rfl,s1,he1,hM1⟩
 have HM1:=Lib.hid hM1
 have HE1:=Lib.hid he1
 have ha1:=he1.kp.a
 have hp1:=potle he1 (by rfl) (c:=4) (of_decide_eq_true (by rfl))
 clear hM1 he1
 have b1:=HBX.out _ _ HM1.out
 have c1:=HCX.out _ _ HM1.out
 go_wp2_with fail
 refine(HW.out _ _ HM1.out (pot_len HM1.out (by omega))).mono ?_
 rintro e w2 ⟨rfl,s2,he2,hM2⟩
 have HM2:=Lib.hid hM2
 have HE2:=Lib.hid he2
 have ha2:=he2.kp.a
 clear hM2 he2
 go_wp2
 go_end0
 exact⟨rfl,_,.seq HE1.out HE2.out,HM2.out⟩
set_option maxRecDepth 100000 in
set_option maxHeartbeats 2000000 in
theorem branches_any {a0:Nat} (HL:LstOK n lv la lc g a0):Does (kP n lv la lc g) w0 P 176 #[.pointer (some ⟨g,0,none⟩)] (brP n lv) (fun s=>a0<s.a∧pot s≤0):=by
 intro w s hM ⟨ha,hp⟩
 have HBR:=Lib.hid (branch_any (w0:=w0) (P:=P) HL)
 have HBD:=Lib.hid (body_any (w0:=w0) (P:=P) HL)
 have HTK:=Lib.hid (fun t l (hl:Sg t l) w s (h:Mk (kP n lv la lc g) w0 P s w)=>take_any t l hl h)
 have HWf:=Lib.hid (want_any (n:=n) (lv:=lv) (la:=la) (lc:=lc) (g:=g) (w0:=w0) (P:=P) ⟨#[102]⟩ 102 (by decide+kernel))
 have HM:=Lib.hid hM
 clear hM
 go_enter Tryz.func176,Tryz.ntmps176
 go_wp2_with fail
 refine(HBR.out _ _ HM.out ⟨by omega,by omega⟩).mono ?_
 rintro e w1 ⟨rfl,s1,he1,hM1⟩
 have HM1:=Lib.hid hM1
 have HE1:=Lib.hid he1
 have ha1:=he1.kp.a
 have hp1:=potle he1 (by rfl) (c:=9) (of_decide_eq_true (by rfl))
 clear hM1 he1
 go_wp2
 go_loopw [] (fun wr=>Rl (kP n lv la lc g) w0 P (.rep (isS n lv [101]) (.seq .adv (brnP n lv)) yesT .skip) s1 9 wr) (fun wr=>n+1 - atM g wr)
 case atStart=>exact⟨s1,HM1.out,by omega,Nat.le_refl _,fun _ h=>h⟩
 case round=>
  obtain⟨r,hMr,hpr,har,hk⟩:=hrel
  obtain⟨b,hb⟩:∃b,isS n lv [101] r=b:=⟨_,rfl⟩
  have HC:=Lib.hid (HTK.out ⟨#[101]⟩ [101] (by decide+kernel) _ _ hMr b hb)
  have HMR:=Lib.hid hMr
  have HB:=Lib.hid hb
  have HK:=Lib.hid hk
  clear hMr hb hk
  cases b with
  |true=>
   go_wp2_with fail
   refine HC.out.mono ?_
   rintro e w2 ⟨rfl,hM2⟩
   have HM2:=Lib.hid (show Mk (kP n lv la lc g) w0 P (nxt r) w2 from hM2)
   have hp2:=pot_nxt r
   have ha2:(nxt r).a=r.a+1:=rfl
   clear hM2
   go_wp2_with fail
   refine(HBR.out _ _ HM2.out ⟨by omega,by omega⟩).mono ?_
   rintro e w3 ⟨rfl,s3,he3,hM3⟩
   have HM3:=Lib.hid hM3
   have HE3:=Lib.hid he3
   have ha3:=he3.kp.a
   have hp3:=potle he3 (by rfl) (c:=9) (of_decide_eq_true (by rfl))
   clear hM3 he3
   go_wp2
   go_roundw
   case rel=>exact⟨_,HM3.out,by omega,by omega,fun s' he=>HK.out s' (.go HB.out (.seq .adv HE3.out) rfl .skip he)⟩
   case measure=>
    have e1:=atM_of HM3.out
    have e2:=atM_of HMR.out
    have:=isS_le (lv:=lv) HB.out (by decide)
    rw [e1,e2]
    omega
  |false=>
   go_wp2_with fail
   refine HC.out.mono ?_
   rintro e w2 ⟨rfl,hM2⟩
   have HM2:=Lib.hid (show Mk (kP n lv la lc g) w0 P r w2 from hM2)
   have HE2:=Lib.hid (HK.out _ (.stop HB.out))
   clear hM2
   obtain⟨c,hc⟩:∃c,isS n lv [108] r=c:=⟨_,rfl⟩
   have HC2:=Lib.hid (HTK.out ⟨#[108]⟩ [108] (by decide+kernel) _ _ HM2.out c hc)
   have HCC:=Lib.hid hc
   clear hc
   cases c with
   |true=>
    go_wp2_with fail
    refine HC2.out.mono ?_
    rintro e w3 ⟨rfl,hM3⟩
    have HM3:=Lib.hid (show Mk (kP n lv la lc g) w0 P (nxt r) w3 from hM3)
    have hp3:=pot_nxt r
    have ha3:(nxt r).a=r.a+1:=rfl
    clear hM3
    go_wp2_with fail
    refine(HBD.out _ _ HM3.out ⟨by omega,by omega⟩).mono ?_
    rintro e w4 ⟨rfl,s4,he4,hM4⟩
    have HM4:=Lib.hid hM4
    have HE4:=Lib.hid he4
    have ha4:=he4.kp.a
    have hp4:=potle he4 (by rfl) (c:=4) (of_decide_eq_true (by rfl))
    clear hM4 he4
    go_wp2_with fail
    refine(HWf.out _ _ HM4.out (pot_len HM4.out (by omega))).mono ?_
    rintro e w5 ⟨rfl,s5,he5,hM5⟩
    have HM5:=Lib.hid hM5
    have HE5:=Lib.hid he5
    have ha5:=he5.kp.a
    have hp5:=potle he5 (by rfl) (c:=1) (of_decide_eq_true (by rfl))
    clear hM5 he5
    go_wp2
    go_end0
    exact⟨rfl,_,.seq HE1.out (.seq HE2.out (.seq (.yes HCC.out (.seq .adv HE4.out)) HE5.out)),HM5.out⟩
   |false=>
    go_wp2_with fail
    refine HC2.out.mono ?_
    rintro e w3 ⟨rfl,hM3⟩
    have HM3:=Lib.hid (show Mk (kP n lv la lc g) w0 P r w3 from hM3)
    clear hM3
    go_wp2_with fail
    refine(HWf.out _ _ HM3.out (pot_len HM3.out (by omega))).mono ?_
    rintro e w5 ⟨rfl,s5,he5,hM5⟩
    have HM5:=Lib.hid hM5
    have HE5:=Lib.hid he5
    have ha5:=he5.kp.a
    have hp5:=potle he5 (by rfl) (c:=1) (of_decide_eq_true (by rfl))
    clear hM5 he5
    go_wp2
    go_end0
    exact⟨rfl,_,.seq HE1.out (.seq HE2.out (.seq (.no HCC.out .skip) HE5.out)),HM5.out⟩
end
section
variable {n:Nat} {lv:Nat→Lf} {la:Option Addr} {lc g:Nat} {w0:World} {P:Nat→Prop}
set_option maxRecDepth 100000 in
set_option maxHeartbeats 2000000 in
theorem values_any:Does (kP n lv la lc g) w0 P 205 #[.pointer (some ⟨g,0,none⟩)] (valP n lv) (fun s=>pot s≤10):=by
 intro w s hM hp
 have HTK:=Lib.hid (fun t l (hl:Sg t l) w s (h:Mk (kP n lv la lc g) w0 P s w)=>take_any t l hl h)
 have HMI:=Lib.hid (missing_any (n:=n) (lv:=lv) (la:=la) (lc:=lc) (g:=g) (w0:=w0) (P:=P))
 have HWO:=Lib.hid (word_any (n:=n) (lv:=lv) (la:=la) (lc:=lc) (g:=g) (w0:=w0) (P:=P))
 have HSP:=Lib.hid (fun w s (h:Mk (kP n lv la lc g) w0 P s w)=>separator_any ⟨#[59]⟩ [59] [59,110] (by decide+kernel) (fun c=>by simp only [List.contains_cons,List.contains_nil,Bool.or_false]) h)
 have HWC:=Lib.hid (fun w s (h:Mk (kP n lv la lc g) w0 P s w)=>wordcomes_any (n:=n) (lv:=lv) (la:=la) (lc:=lc) (g:=g) w0 P w s h)
 have HM:=Lib.hid hM
 clear hM
 obtain⟨b0,hb0⟩:∃b,isS n lv [107] s=b:=⟨_,rfl⟩
 have HC0:=Lib.hid (HTK.out ⟨#[107]⟩ [107] (by decide+kernel) _ _ HM.out b0 hb0)
 have HB0:=Lib.hid hb0
 clear hb0
 cases b0 with
 |false=>
  go_enter Tryz.func205,Tryz.ntmps205
  go_wp2_with fail
  refine HC0.out.mono ?_
  rintro e w1 ⟨rfl,hM1⟩
  have HM1:=Lib.hid (show Mk (kP n lv la lc g) w0 P s w1 from hM1)
  clear hM1
  go_wp2
  refine bodyPost_ret (v:=.tuple #[]) (results_none rfl _ _ _) rfl ?_
  exact⟨rfl,_,.no HB0.out .skip,HM1.out⟩
 |true=>
  go_enter Tryz.func205,Tryz.ntmps205
  go_wp2_with fail
  refine HC0.out.mono ?_
  rintro e w1 ⟨rfl,hM1⟩
  have HM1:=Lib.hid (show Mk (kP n lv la lc g) w0 P (nxt s) w1 from hM1)
  have hp1:=pot_nxt s
  have ha1:(nxt s).a=s.a+1:=rfl
  clear hM1
  go_wp2
  go_loopw [] (fun wr=>Rl (kP n lv la lc g) w0 P (.rep (wrdT n lv) wordP yesT .skip) (nxt s) 0 wr) (fun wr=>n+1 - atM g wr)
  case atStart=>exact⟨nxt s,HM1.out,by omega,Nat.le_refl _,fun _ h=>h⟩
  case round=>
   obtain⟨r,hMr,hpr,har,hk⟩:=hrel
   obtain⟨b,hb⟩:∃b,wrdT n lv r=b:=⟨_,rfl⟩
   have hc:=HWC.out _ _ hMr
   rw [hb]at hc
   have HC:=Lib.hid hc
   have HMR:=Lib.hid hMr
   have HB:=Lib.hid hb
   have HK:=Lib.hid hk
   clear hMr hb hk hc
   cases b with
   |true=>
    go_wp2_with fail
    refine(HC.out).mono ?_
    rintro e w2 ⟨rfl,hb2⟩
    have HM2:=Lib.hid (HMR.out.below hb2)
    clear hb2
    go_wp2_with fail
    refine(HWO.out _ _ HM2.out ⟨wrd_le HB.out,pot_len HM2.out (by omega)⟩).mono ?_
    rintro e w3 ⟨rfl,s3,he3,hM3⟩
    have HM3:=Lib.hid hM3
    have HE3:=Lib.hid he3
    have ha3:=he3.kp.a
    have hp3:=potle he3 (by rfl) (c:= -29) (of_decide_eq_true (by rfl))
    clear hM3 he3
    go_wp2
    go_roundw
    case rel=>exact⟨_,HM3.out,by omega,by omega,fun s' he=>HK.out s' (.go HB.out HE3.out rfl .skip he)⟩
    case measure=>
     have e1:=atM_of HM3.out
     have e2:=atM_of HMR.out
     have:=HE3.out.word_lt
     have:=HM3.out.ale
     change s3.a≤n at this
     rw [e1,e2]
     omega
   |false=>
    go_wp2_with fail
    refine(HC.out).mono ?_
    rintro e w2 ⟨rfl,hb2⟩
    have HM2:=Lib.hid (HMR.out.below hb2)
    clear hb2
    have HE2:=Lib.hid (HK.out _ (.stop HB.out))
    obtain⟨c,hc⟩:∃c,isS n lv [59,110] r=c:=⟨_,rfl⟩
    have HS:=Lib.hid (HSP.out _ _ HM2.out c hc)
    have HCC:=Lib.hid hc
    clear hc
    cases c with
    |true=>
     go_wp2_with fail
     refine(HS.out).mono ?_
     rintro e w3 ⟨rfl,s3,he3,hM3⟩
     have HM3:=Lib.hid hM3
     have HE3:=Lib.hid he3
     have ha3:=he3.kp.a
     clear hM3 he3
     go_wp2
     go_end0
     refine⟨rfl,_,.yes HB0.out (.seq .adv (.seq HE2.out ?_)),HM3.out⟩
     cases HE3.out with
     |yes _ h=>exact .yes HCC.out h
     |no h _=>rw [HCC.out]at h;cases h
    |false=>
     go_wp2_with fail
     refine HS.out.mono ?_
     rintro e w3 ⟨rfl,s3,he3,hM3⟩
     cases he3 with
     |yes h _=>rw [HCC.out]at h;cases h
     |no _ h=>
     cases h
     have HM3:=Lib.hid hM3
     clear hM3
     go_wp2_with fail
     refine(HMI.out _ _ HM3.out (pot_len HM3.out (by omega))).mono ?_
     rintro e w4 ⟨rfl,s4,he4,hM4⟩
     have HM4:=Lib.hid hM4
     have HE4:=Lib.hid he4
     have ha4:=he4.kp.a
     have hp4:=potle he4 (by rfl) (c:=1) (of_decide_eq_true (by rfl))
     clear hM4 he4
     go_wp2
     go_end0
     exact⟨rfl,_,.yes HB0.out (.seq .adv (.seq HE2.out (.no HCC.out HE4.out))),HM4.out⟩
set_option maxRecDepth 100000 in
set_option maxHeartbeats 2000000 in
theorem each_any {a0:Nat} (HL:LstOK n lv la lc g a0):Does (kP n lv la lc g) w0 P 178 #[.pointer (some ⟨g,0,none⟩)] (eachP n lv) (fun s=>a0<s.a∧pot s≤0):=by
 intro w s hM ⟨ha,hp⟩
 obtain⟨nv,hB,hO,h3,h4⟩:=hM.own
 have c3:=fun W (hb:Below w.heap.size w W)=>(show W.cell? ⟨g,3,none⟩=some (.string (lfA n lv s.a).s)from(hB.below hb).cell 3)
 have hsz:=lf_small hM.st.sml s.a
 change(lfA n lv s.a).s.size≤100 at hsz
 obtain⟨x,hx⟩:∃x,wrdT n lv s=x:=⟨_,rfl⟩
 obtain⟨y,hy⟩:∃y,isNm (lfA n lv s.a).s=y:=⟨_,rfl⟩
 have hxy:namT n lv s=(x && y):=by unfold namT;rw [hx,hy]
 obtain⟨t,ht⟩:∃t,(lfA n lv s.a).s=t:=⟨_,rfl⟩
 rw [ht]at hy hsz c3
 have HIN:=Lib.hid (fun W=>isname_any t W (by omega))
 rw [hy]at HIN
 have hc:=wordcomes_any (n:=n) (lv:=lv) (la:=la) (lc:=lc) (g:=g) w0 P w s hM
 rw [hx]at hc
 have HC:=Lib.hid hc
 have HX:=Lib.hid hx
 have HXY:=Lib.hid hxy
 have HC3:=Lib.hid c3
 have HVL:=Lib.hid (values_any (n:=n) (lv:=lv) (la:=la) (lc:=lc) (g:=g) (w0:=w0) (P:=P))
 have HDN:=Lib.hid (done_any (w0:=w0) (P:=P) HL)
 have HM':=Lib.hid hM
 have HTK:=Lib.hid (fun t l (hl:Sg t l) w s (h:Mk (kP n lv la lc g) w0 P s w)=>take_any t l hl h)
 have HNL:=Lib.hid (fun w s (h:Mk (kP n lv la lc g) w0 P s w)=>nls_any h)
 have HMI:=Lib.hid (missing_any (n:=n) (lv:=lv) (la:=la) (lc:=lc) (g:=g) (w0:=w0) (P:=P))
 have HWO:=Lib.hid (word_any (n:=n) (lv:=lv) (la:=la) (lc:=lc) (g:=g) (w0:=w0) (P:=P))
 clear hM hB hO h3 h4 hx hy ht hc c3 hxy hsz
 cases x with
 |false=>
  go_enter Tryz.func178,Tryz.ntmps178
  go_wp2_with fail
  refine(HC.out).mono ?_
  rintro e w1 ⟨rfl,hb1⟩
  have HM1:=Lib.hid (HM'.out.below hb1)
  clear hb1
  go_wp2_with fail
  refine(HMI.out _ _ HM1.out (pot_len HM1.out (by omega))).mono ?_
  rintro e w2 ⟨rfl,s2,he2,hM2⟩
  have HM2:=Lib.hid hM2
  have HE2:=Lib.hid he2
  have ha2:=he2.kp.a
  have hp2:=potle he2 (by rfl) (c:=1) (of_decide_eq_true (by rfl))
  clear hM2 he2
  obtain⟨b5,hb5⟩:∃b,isS n lv [59] s2=b:=⟨_,rfl⟩
  have HC5:=Lib.hid (HTK.out ⟨#[59]⟩ [59] (by decide+kernel) _ _ HM2.out b5 hb5)
  have HB5:=Lib.hid hb5
  clear hb5
  cases b5 with
  |true=>
   go_wp2_with fail
   refine HC5.out.mono ?_
   rintro e w6 ⟨rfl,hM6⟩
   have HM6:=Lib.hid (show Mk (kP n lv la lc g) w0 P (nxt s2) w6 from hM6)
   have hp6:=pot_nxt s2
   have ha6:(nxt s2).a=s2.a+1:=rfl
   clear hM6
   obtain⟨z7,hz7⟩:∃z,isS n lv [110] (nxt s2)=z:=⟨_,rfl⟩
   have HZ7:=Lib.hid (HNL.out _ _ HM6.out z7 hz7)
   clear hz7
   go_wp2_with fail
   refine(HZ7.out).mono ?_
   rintro e w7 ⟨rfl,s7,he7,hM7⟩
   have HM7:=Lib.hid hM7
   have HE7:=Lib.hid he7
   have ha7:=he7.kp.a
   have hp7:=potle he7 (by rfl) (c:=0) (of_decide_eq_true (by rfl))
   clear hM7 he7
   go_wp2_with fail
   refine(HDN.out _ _ HM7.out ⟨by omega,by omega⟩).mono ?_
   rintro e w8 ⟨rfl,s8,he8,hM8⟩
   have HM8:=Lib.hid hM8
   have HE8:=Lib.hid he8
   have ha8:=he8.kp.a
   clear hM8 he8
   go_wp2
   go_end0
   exact⟨rfl,_,.seq (.no HXY.out HE2.out) (.seq (.yes HB5.out (.seq .adv HE7.out)) HE8.out),HM8.out⟩
  |false=>
   go_wp2_with fail
   refine HC5.out.mono ?_
   rintro e w6 ⟨rfl,hM6⟩
   have HM6:=Lib.hid (show Mk (kP n lv la lc g) w0 P s2 w6 from hM6)
   clear hM6
   obtain⟨z7,hz7⟩:∃z,isS n lv [110] s2=z:=⟨_,rfl⟩
   have HZ7:=Lib.hid (HNL.out _ _ HM6.out z7 hz7)
   clear hz7
   go_wp2_with fail
   refine(HZ7.out).mono ?_
   rintro e w7 ⟨rfl,s7,he7,hM7⟩
   have HM7:=Lib.hid hM7
   have HE7:=Lib.hid he7
   have ha7:=he7.kp.a
   have hp7:=potle he7 (by rfl) (c:=0) (of_decide_eq_true (by rfl))
   clear hM7 he7
   go_wp2_with fail
   refine(HVL.out _ _ HM7.out (by omega)).mono ?_
   rintro e w8 ⟨rfl,s8,he8,hM8⟩
   have HM8:=Lib.hid hM8
   have HE8:=Lib.hid he8
   have ha8:=he8.kp.a
   have hp8:=potle he8 (by rfl) (c:=0) (of_decide_eq_true (by rfl))
   clear hM8 he8
   go_wp2_with fail
   refine(HDN.out _ _ HM8.out ⟨by omega,by omega⟩).mono ?_
   rintro e w9 ⟨rfl,s9,he9,hM9⟩
   have HM9:=Lib.hid hM9
   have HE9:=Lib.hid he9
   have ha9:=he9.kp.a
   clear hM9 he9
   go_wp2
   go_end0
   exact⟨rfl,_,.seq (.no HXY.out HE2.out) (.seq (.no HB5.out (.seq HE7.out HE8.out)) HE9.out),HM9.out⟩
 |true=>
  cases y with
  |true=>
   go_enter Tryz.func178,Tryz.ntmps178
   go_wp2_with fail
   refine HC.out.mono ?_
   rintro e w1 ⟨rfl,hb1⟩
   have c3:=HC3.out _ hb1
   have HM1:=Lib.hid (HM'.out.below hb1)
   clear hb1
   go_wp2_with fail
   refine(HIN.out _).mono ?_
   rintro e w2 ⟨rfl,hb2⟩
   have HM2:=Lib.hid (show Mk (kP n lv la lc g) w0 P s w2 from by rw [hb2];exact HM1.out)
   clear hb2
   go_wp2_with fail
   refine(HWO.out _ _ HM2.out ⟨wrd_le HX.out,pot_len HM2.out (by omega)⟩).mono ?_
   rintro e w3 ⟨rfl,s3,he3,hM3⟩
   have HM3:=Lib.hid hM3
   have HE3:=Lib.hid he3
   have ha3:=he3.kp.a
   have hp3:=potle he3 (by rfl) (c:= -29) (of_decide_eq_true (by rfl))
   clear hM3 he3
   obtain⟨b5,hb5⟩:∃b,isS n lv [59] s3=b:=⟨_,rfl⟩
   have HC5:=Lib.hid (HTK.out ⟨#[59]⟩ [59] (by decide+kernel) _ _ HM3.out b5 hb5)
   have HB5:=Lib.hid hb5
   clear hb5
   cases b5 with
   |true=>
    go_wp2_with fail
    refine HC5.out.mono ?_
    rintro e w6 ⟨rfl,hM6⟩
    have HM6:=Lib.hid (show Mk (kP n lv la lc g) w0 P (nxt s3) w6 from hM6)
    have hp6:=pot_nxt s3
    have ha6:(nxt s3).a=s3.a+1:=rfl
    clear hM6
    obtain⟨z7,hz7⟩:∃z,isS n lv [110] (nxt s3)=z:=⟨_,rfl⟩
    have HZ7:=Lib.hid (HNL.out _ _ HM6.out z7 hz7)
    clear hz7
    go_wp2_with fail
    refine(HZ7.out).mono ?_
    rintro e w7 ⟨rfl,s7,he7,hM7⟩
    have HM7:=Lib.hid hM7
    have HE7:=Lib.hid he7
    have ha7:=he7.kp.a
    have hp7:=potle he7 (by rfl) (c:=0) (of_decide_eq_true (by rfl))
    clear hM7 he7
    go_wp2_with fail
    refine(HDN.out _ _ HM7.out ⟨by omega,by omega⟩).mono ?_
    rintro e w8 ⟨rfl,s8,he8,hM8⟩
    have HM8:=Lib.hid hM8
    have HE8:=Lib.hid he8
    have ha8:=he8.kp.a
    clear hM8 he8
    go_wp2
    go_end0
    exact⟨rfl,_,.seq (.yes HXY.out HE3.out) (.seq (.yes HB5.out (.seq .adv HE7.out)) HE8.out),HM8.out⟩
   |false=>
    go_wp2_with fail
    refine HC5.out.mono ?_
    rintro e w6 ⟨rfl,hM6⟩
    have HM6:=Lib.hid (show Mk (kP n lv la lc g) w0 P s3 w6 from hM6)
    clear hM6
    obtain⟨z7,hz7⟩:∃z,isS n lv [110] s3=z:=⟨_,rfl⟩
    have HZ7:=Lib.hid (HNL.out _ _ HM6.out z7 hz7)
    clear hz7
    go_wp2_with fail
    refine(HZ7.out).mono ?_
    rintro e w7 ⟨rfl,s7,he7,hM7⟩
    have HM7:=Lib.hid hM7
    have HE7:=Lib.hid he7
    have ha7:=he7.kp.a
    have hp7:=potle he7 (by rfl) (c:=0) (of_decide_eq_true (by rfl))
    clear hM7 he7
    go_wp2_with fail
    refine(HVL.out _ _ HM7.out (by omega)).mono ?_
    rintro e w8 ⟨rfl,s8,he8,hM8⟩
    have HM8:=Lib.hid hM8
    have HE8:=Lib.hid he8
    have ha8:=he8.kp.a
    have hp8:=potle he8 (by rfl) (c:=0) (of_decide_eq_true (by rfl))
    clear hM8 he8
    go_wp2_with fail
    refine(HDN.out _ _ HM8.out ⟨by omega,by omega⟩).mono ?_
    rintro e w9 ⟨rfl,s9,he9,hM9⟩
    have HM9:=Lib.hid hM9
    have HE9:=Lib.hid he9
    have ha9:=he9.kp.a
    clear hM9 he9
    go_wp2
    go_end0
    exact⟨rfl,_,.seq (.yes HXY.out HE3.out) (.seq (.no HB5.out (.seq HE7.out HE8.out)) HE9.out),HM9.out⟩
  |false=>
   go_enter Tryz.func178,Tryz.ntmps178
   go_wp2_with fail
   refine HC.out.mono ?_
   rintro e w1 ⟨rfl,hb1⟩
   have c3:=HC3.out _ hb1
   have HM1:=Lib.hid (HM'.out.below hb1)
   clear hb1
   go_wp2_with fail
   refine(HIN.out _).mono ?_
   rintro e w2 ⟨rfl,hb2⟩
   have HM2:=Lib.hid (show Mk (kP n lv la lc g) w0 P s w2 from by rw [hb2];exact HM1.out)
   clear hb2
   go_wp2_with fail
   refine(HMI.out _ _ HM2.out (pot_len HM2.out (by omega))).mono ?_
   rintro e w3 ⟨rfl,s3,he3,hM3⟩
   have HM3:=Lib.hid hM3
   have HE3:=Lib.hid he3
   have ha3:=he3.kp.a
   have hp3:=potle he3 (by rfl) (c:=1) (of_decide_eq_true (by rfl))
   clear hM3 he3
   obtain⟨b5,hb5⟩:∃b,isS n lv [59] s3=b:=⟨_,rfl⟩
   have HC5:=Lib.hid (HTK.out ⟨#[59]⟩ [59] (by decide+kernel) _ _ HM3.out b5 hb5)
   have HB5:=Lib.hid hb5
   clear hb5
   cases b5 with
   |true=>
    go_wp2_with fail
    refine HC5.out.mono ?_
    rintro e w6 ⟨rfl,hM6⟩
    have HM6:=Lib.hid (show Mk (kP n lv la lc g) w0 P (nxt s3) w6 from hM6)
    have hp6:=pot_nxt s3
    have ha6:(nxt s3).a=s3.a+1:=rfl
    clear hM6
    obtain⟨z7,hz7⟩:∃z,isS n lv [110] (nxt s3)=z:=⟨_,rfl⟩
    have HZ7:=Lib.hid (HNL.out _ _ HM6.out z7 hz7)
    clear hz7
    go_wp2_with fail
    refine(HZ7.out).mono ?_
    rintro e w7 ⟨rfl,s7,he7,hM7⟩
    have HM7:=Lib.hid hM7
    have HE7:=Lib.hid he7
    have ha7:=he7.kp.a
    have hp7:=potle he7 (by rfl) (c:=0) (of_decide_eq_true (by rfl))
    clear hM7 he7
    go_wp2_with fail
    refine(HDN.out _ _ HM7.out ⟨by omega,by omega⟩).mono ?_
    rintro e w8 ⟨rfl,s8,he8,hM8⟩
    have HM8:=Lib.hid hM8
    have HE8:=Lib.hid he8
    have ha8:=he8.kp.a
    clear hM8 he8
    go_wp2
    go_end0
    exact⟨rfl,_,.seq (.no HXY.out HE3.out) (.seq (.yes HB5.out (.seq .adv HE7.out)) HE8.out),HM8.out⟩
   |false=>
    go_wp2_with fail
    refine HC5.out.mono ?_
    rintro e w6 ⟨rfl,hM6⟩
    have HM6:=Lib.hid (show Mk (kP n lv la lc g) w0 P s3 w6 from hM6)
    clear hM6
    obtain⟨z7,hz7⟩:∃z,isS n lv [110] s3=z:=⟨_,rfl⟩
    have HZ7:=Lib.hid (HNL.out _ _ HM6.out z7 hz7)
    clear hz7
    go_wp2_with fail
    refine(HZ7.out).mono ?_
    rintro e w7 ⟨rfl,s7,he7,hM7⟩
    have HM7:=Lib.hid hM7
    have HE7:=Lib.hid he7
    have ha7:=he7.kp.a
    have hp7:=potle he7 (by rfl) (c:=0) (of_decide_eq_true (by rfl))
    clear hM7 he7
    go_wp2_with fail
    refine(HVL.out _ _ HM7.out (by omega)).mono ?_
    rintro e w8 ⟨rfl,s8,he8,hM8⟩
    have HM8:=Lib.hid hM8
    have HE8:=Lib.hid he8
    have ha8:=he8.kp.a
    have hp8:=potle he8 (by rfl) (c:=0) (of_decide_eq_true (by rfl))
    clear hM8 he8
    go_wp2_with fail
    refine(HDN.out _ _ HM8.out ⟨by omega,by omega⟩).mono ?_
    rintro e w9 ⟨rfl,s9,he9,hM9⟩
    have HM9:=Lib.hid hM9
    have HE9:=Lib.hid he9
    have ha9:=he9.kp.a
    clear hM9 he9
    go_wp2
    go_end0
    exact⟨rfl,_,.seq (.no HXY.out HE3.out) (.seq (.no HB5.out (.seq HE7.out HE8.out)) HE9.out),HM9.out⟩
set_option maxRecDepth 100000 in
set_option maxHeartbeats 2000000 in
theorem item_tells:Tells (kP n lv la lc g) g 206 (itmT n lv):=by
 intro w0 P w s hM
 obtain⟨nv,hB,hO,h3,h4⟩:=hM.own
 have c6:w.cell? ⟨g,6,none⟩=some (.int .u8 (sgA n lv s.a:Int)):=hB.cell 6
 have c6':=fun W (hb:Below w.heap.size w W)=>(show W.cell? ⟨g,6,none⟩=some (.int .u8 (sgA n lv s.a:Int))from(hB.below hb).cell 6)
 have hr:=wordcomes_any (n:=n) (lv:=lv) (la:=la) (lc:=lc) (g:=g) w0 P w s hM
 unfold itmT
 obtain⟨x,hx⟩:∃x,sgA n lv s.a=x:=⟨_,rfl⟩
 rw [hx]at c6 c6' ⊢
 obtain⟨r,hr2⟩:∃r,wrdT n lv s=r:=⟨_,rfl⟩
 rw [hr2]at hr ⊢
 have HR:=Lib.hid hr
 have HC6:=Lib.hid c6'
 clear hB hO h3 h4 hM hx hr hr2 c6'
 by_cases h40:x=40
 ·subst h40
  go_enter Tryz.func206,Tryz.ntmps206
  go_wp2
  go_ret
  exact⟨rfl,Below.refl _ _⟩
 ·have t1:((x:Int)==40)=false:=by simp;omega
  have e1:(x==40)=false:=by simpa using h40
  rw [e1,Bool.false_or]
  clear e1 h40
  cases r with
  |false=>
   go_enter Tryz.func206,Tryz.ntmps206
   go_wp2_with fail
   refine HR.out.mono ?_
   rintro e w1 ⟨rfl,hb1⟩
   have HB1:=Lib.hid hb1
   clear hb1
   go_wp2
   go_ret
   exact⟨rfl,HB1.out⟩
  |true=>
   obtain⟨y,hy⟩:∃y,(x==122)=y:=⟨_,rfl⟩
   have t2:((x:Int)==122)=y:=by rw [←hy,Bool.eq_iff_iff];simp;omega
   have t3:((x:Int)!=122)=!y:=by rw [bne,t2]
   rw [hy]
   clear hy
   go_enter Tryz.func206,Tryz.ntmps206
   go_wp2_with fail
   refine HR.out.mono ?_
   rintro e w1 ⟨rfl,hb1⟩
   have d6:=HC6.out _ hb1
   have HB1:=Lib.hid hb1
   clear hb1
   go_wp2
   go_ret
   exact⟨rfl,HB1.out⟩
set_option maxRecDepth 100000 in
set_option maxHeartbeats 2000000 in
theorem itemM_any {a0:Nat} (HL:LstOK n lv la lc g a0):Does (kP n lv la lc g) w0 P 207 #[.pointer (some ⟨g,0,none⟩)] (itemP n lv) (fun s=>a0<s.a∧pot s≤5):=by
 intro w s hM ⟨ha,hp⟩
 have HTK:=Lib.hid (fun t l (hl:Sg t l) w s (h:Mk (kP n lv la lc g) w0 P s w)=>take_any t l hl h)
 have HNL:=Lib.hid (fun w s (h:Mk (kP n lv la lc g) w0 P s w)=>nls_any h)
 have HWN:=Lib.hid (won_any (n:=n) (lv:=lv) (la:=la) (lc:=lc) (g:=g) (w0:=w0) (P:=P))
 have HWp:=Lib.hid (want_any (n:=n) (lv:=lv) (la:=la) (lc:=lc) (g:=g) (w0:=w0) (P:=P) ⟨#[41]⟩ 41 (by decide+kernel))
 have HLL:=Lib.hid (fun W r (h:Mk (kP n lv la lc g) w0 P r W)=>listed_any HL h)
 have HM:=Lib.hid hM
 clear hM
 obtain⟨b0,hb0⟩:∃b,isS n lv [40] s=b:=⟨_,rfl⟩
 have HC0:=Lib.hid (HTK.out ⟨#[40]⟩ [40] (by decide+kernel) _ _ HM.out b0 hb0)
 have HB0:=Lib.hid hb0
 clear hb0
 cases b0 with
 |true=>
  go_enter Tryz.func207,Tryz.ntmps207
  go_wp2_with fail
  refine HC0.out.mono ?_
  rintro e w1 ⟨rfl,hM1⟩
  have HM1:=Lib.hid (show Mk (kP n lv la lc g) w0 P (nxt s) w1 from hM1)
  have hp1:=pot_nxt s
  have ha1:(nxt s).a=s.a+1:=rfl
  clear hM1
  go_wp2_with fail
  refine(HWN.out _ _ HM1.out (pot_len HM1.out (by omega))).mono ?_
  rintro e w2 ⟨rfl,s2,he2,hM2⟩
  have HM2:=Lib.hid hM2
  have HE2:=Lib.hid he2
  have ha2:=he2.kp.a
  have hp2:=potle he2 (by rfl) (c:=1) (of_decide_eq_true (by rfl))
  clear hM2 he2
  go_wp2
  go_loopw [] (fun wr=>Rl (kP n lv la lc g) w0 P (.rep (isS n lv [124]) (.seq .adv (wonP n lv)) yesT .skip) s2 6 wr) (fun wr=>n+1 - atM g wr)
  case atStart=>exact⟨s2,HM2.out,by omega,Nat.le_refl _,fun _ h=>h⟩
  case round=>
   obtain⟨r,hMr,hpr,har,hk⟩:=hrel
   obtain⟨b,hb⟩:∃b,isS n lv [124] r=b:=⟨_,rfl⟩
   have HC:=Lib.hid (HTK.out ⟨#[124]⟩ [124] (by decide+kernel) _ _ hMr b hb)
   have HMR:=Lib.hid hMr
   have HB:=Lib.hid hb
   have HK:=Lib.hid hk
   clear hMr hb hk
   cases b with
   |true=>
    go_wp2_with fail
    refine HC.out.mono ?_
    rintro e w3 ⟨rfl,hM3⟩
    have HM3:=Lib.hid (show Mk (kP n lv la lc g) w0 P (nxt r) w3 from hM3)
    have hp3:=pot_nxt r
    have ha3:(nxt r).a=r.a+1:=rfl
    clear hM3
    go_wp2_with fail
    refine(HWN.out _ _ HM3.out (pot_len HM3.out (by omega))).mono ?_
    rintro e w4 ⟨rfl,s4,he4,hM4⟩
    have HM4:=Lib.hid hM4
    have HE4:=Lib.hid he4
    have ha4:=he4.kp.a
    have hp4:=potle he4 (by rfl) (c:=1) (of_decide_eq_true (by rfl))
    clear hM4 he4
    go_wp2
    go_roundw
    case rel=>exact⟨_,HM4.out,by omega,by omega,fun s' he=>HK.out s' (.go HB.out (.seq .adv HE4.out) rfl .skip he)⟩
    case measure=>
     have e1:=atM_of HM4.out
     have e2:=atM_of HMR.out
     have:=isS_le (lv:=lv) HB.out (by decide)
     rw [e1,e2]
     omega
   |false=>
    go_wp2_with fail
    refine HC.out.mono ?_
    rintro e w3 ⟨rfl,hM3⟩
    have HM3:=Lib.hid (show Mk (kP n lv la lc g) w0 P r w3 from hM3)
    have HE3:=Lib.hid (HK.out _ (.stop HB.out))
    clear hM3
    go_wp2_with fail
    refine(HWp.out _ _ HM3.out (pot_len HM3.out (by omega))).mono ?_
    rintro e w4 ⟨rfl,s4,he4,hM4⟩
    have HM4:=Lib.hid hM4
    have HE4:=Lib.hid he4
    have ha4:=he4.kp.a
    have hp4:=potle he4 (by rfl) (c:=1) (of_decide_eq_true (by rfl))
    clear hM4 he4
    obtain⟨z5,hz5⟩:∃z,isS n lv [110] s4=z:=⟨_,rfl⟩
    have HZ5:=Lib.hid (HNL.out _ _ HM4.out z5 hz5)
    clear hz5
    go_wp2_with fail
    refine(HZ5.out).mono ?_
    rintro e w5 ⟨rfl,s5,he5,hM5⟩
    have HM5:=Lib.hid hM5
    have HE5:=Lib.hid he5
    have ha5:=he5.kp.a
    have hp5:=potle he5 (by rfl) (c:=0) (of_decide_eq_true (by rfl))
    clear hM5 he5
    obtain⟨c,hc⟩:∃c,pipT n lv s5=c:=⟨_,rfl⟩
    have HLS:=Lib.hid (HLL.out w5 s5 HM5.out (by omega) (by omega) c hc)
    clear hc
    go_wp2_with fail
    refine(HLS.out).mono ?_
    rintro e w6 ⟨rfl,s6,he6,hM6⟩
    have HM6:=Lib.hid hM6
    have HE6:=Lib.hid he6
    have ha6:=he6.kp.a
    clear hM6 he6
    go_wp2
    go_end0
    exact⟨rfl,_,.seq (.yes HB0.out .adv) (.seq HE2.out (.seq HE3.out (.seq HE4.out (.seq HE5.out HE6.out)))),HM6.out⟩
 |false=>
  go_enter Tryz.func207,Tryz.ntmps207
  go_wp2_with fail
  refine HC0.out.mono ?_
  rintro e w1 ⟨rfl,hM1⟩
  have HM1:=Lib.hid (show Mk (kP n lv la lc g) w0 P s w1 from hM1)
  clear hM1
  go_wp2_with fail
  refine(HWN.out _ _ HM1.out (pot_len HM1.out (by omega))).mono ?_
  rintro e w2 ⟨rfl,s2,he2,hM2⟩
  have HM2:=Lib.hid hM2
  have HE2:=Lib.hid he2
  have ha2:=he2.kp.a
  have hp2:=potle he2 (by rfl) (c:=1) (of_decide_eq_true (by rfl))
  clear hM2 he2
  go_wp2
  go_loopw [] (fun wr=>Rl (kP n lv la lc g) w0 P (.rep (isS n lv [124]) (.seq .adv (wonP n lv)) yesT .skip) s2 6 wr) (fun wr=>n+1 - atM g wr)
  case atStart=>exact⟨s2,HM2.out,by omega,Nat.le_refl _,fun _ h=>h⟩
  case round=>
   obtain⟨r,hMr,hpr,har,hk⟩:=hrel
   obtain⟨b,hb⟩:∃b,isS n lv [124] r=b:=⟨_,rfl⟩
   have HC:=Lib.hid (HTK.out ⟨#[124]⟩ [124] (by decide+kernel) _ _ hMr b hb)
   have HMR:=Lib.hid hMr
   have HB:=Lib.hid hb
   have HK:=Lib.hid hk
   clear hMr hb hk
   cases b with
   |true=>
    go_wp2_with fail
    refine HC.out.mono ?_
    rintro e w3 ⟨rfl,hM3⟩
    have HM3:=Lib.hid (show Mk (kP n lv la lc g) w0 P (nxt r) w3 from hM3)
    have hp3:=pot_nxt r
    have ha3:(nxt r).a=r.a+1:=rfl
    clear hM3
    go_wp2_with fail
    refine(HWN.out _ _ HM3.out (pot_len HM3.out (by omega))).mono ?_
    rintro e w4 ⟨rfl,s4,he4,hM4⟩
    have HM4:=Lib.hid hM4
    have HE4:=Lib.hid he4
    have ha4:=he4.kp.a
    have hp4:=potle he4 (by rfl) (c:=1) (of_decide_eq_true (by rfl))
    clear hM4 he4
    go_wp2
    go_roundw
    case rel=>exact⟨_,HM4.out,by omega,by omega,fun s' he=>HK.out s' (.go HB.out (.seq .adv HE4.out) rfl .skip he)⟩
    case measure=>
     have e1:=atM_of HM4.out
     have e2:=atM_of HMR.out
     have:=isS_le (lv:=lv) HB.out (by decide)
     rw [e1,e2]
     omega
   |false=>
    go_wp2_with fail
    refine HC.out.mono ?_
    rintro e w3 ⟨rfl,hM3⟩
    have HM3:=Lib.hid (show Mk (kP n lv la lc g) w0 P r w3 from hM3)
    have HE3:=Lib.hid (HK.out _ (.stop HB.out))
    clear hM3
    go_wp2_with fail
    refine(HWp.out _ _ HM3.out (pot_len HM3.out (by omega))).mono ?_
    rintro e w4 ⟨rfl,s4,he4,hM4⟩
    have HM4:=Lib.hid hM4
    have HE4:=Lib.hid he4
    have ha4:=he4.kp.a
    have hp4:=potle he4 (by rfl) (c:=1) (of_decide_eq_true (by rfl))
    clear hM4 he4
    obtain⟨z5,hz5⟩:∃z,isS n lv [110] s4=z:=⟨_,rfl⟩
    have HZ5:=Lib.hid (HNL.out _ _ HM4.out z5 hz5)
    clear hz5
    go_wp2_with fail
    refine(HZ5.out).mono ?_
    rintro e w5 ⟨rfl,s5,he5,hM5⟩
    have HM5:=Lib.hid hM5
    have HE5:=Lib.hid he5
    have ha5:=he5.kp.a
    have hp5:=potle he5 (by rfl) (c:=0) (of_decide_eq_true (by rfl))
    clear hM5 he5
    obtain⟨c,hc⟩:∃c,pipT n lv s5=c:=⟨_,rfl⟩
    have HLS:=Lib.hid (HLL.out w5 s5 HM5.out (by omega) (by omega) c hc)
    clear hc
    go_wp2_with fail
    refine(HLS.out).mono ?_
    rintro e w6 ⟨rfl,s6,he6,hM6⟩
    have HM6:=Lib.hid hM6
    have HE6:=Lib.hid he6
    have ha6:=he6.kp.a
    clear hM6 he6
    go_wp2
    go_end0
    exact⟨rfl,_,.seq (.no HB0.out .skip) (.seq HE2.out (.seq HE3.out (.seq HE4.out (.seq HE5.out HE6.out)))),HM6.out⟩
set_option maxRecDepth 100000 in
set_option maxHeartbeats 2000000 in
theorem choice_any {a0:Nat} (HL:LstOK n lv la lc g a0):Does (kP n lv la lc g) w0 P 179 #[.pointer (some ⟨g,0,none⟩)] (casP n lv) (fun s=>a0<s.a∧pot s≤0):=by
 intro w s hM ⟨ha,hp⟩
 have HIT:=Lib.hid (fun w s (h:Mk (kP n lv la lc g) w0 P s w)=>item_tells (n:=n) (lv:=lv) (la:=la) (lc:=lc) (g:=g) w0 P w s h)
 have HNI:=Lib.hid (node_any 15 207 #[.pointer (some ⟨g,0,none⟩)] #[] (enter_of _ _ _ Tryz.func207 (by kernel_rfl) rfl) (itemP n lv) _ (itemM_any (w0:=w0) (P:=P) HL))
 have hmf:=mkfun
 have HTK:=Lib.hid (fun t l (hl:Sg t l) w s (h:Mk (kP n lv la lc g) w0 P s w)=>take_any t l hl h)
 have HNL:=Lib.hid (fun w s (h:Mk (kP n lv la lc g) w0 P s w)=>nls_any h)
 have HWN:=Lib.hid (won_any (n:=n) (lv:=lv) (la:=la) (lc:=lc) (g:=g) (w0:=w0) (P:=P))
 have HWk:=Lib.hid (want_any (n:=n) (lv:=lv) (la:=la) (lc:=lc) (g:=g) (w0:=w0) (P:=P) ⟨#[107]⟩ 107 (by decide+kernel))
 have HWz:=Lib.hid (want_any (n:=n) (lv:=lv) (la:=la) (lc:=lc) (g:=g) (w0:=w0) (P:=P) ⟨#[122]⟩ 122 (by decide+kernel))
 have HM:=Lib.hid hM
 clear hM
 go_enter Tryz.func179,Tryz.ntmps179
 go_step3
 go_wp2_with fail
 refine(HWN.out _ _ HM.out (pot_len HM.out (by omega))).mono ?_
 rintro e w1 ⟨rfl,s1,he1,hM1⟩
 have HM1:=Lib.hid hM1
 have HE1:=Lib.hid he1
 have ha1:=he1.kp.a
 have hp1:=potle he1 (by rfl) (c:=1) (of_decide_eq_true (by rfl))
 clear hM1 he1
 obtain⟨z2,hz2⟩:∃z,isS n lv [110] s1=z:=⟨_,rfl⟩
 have HZ2:=Lib.hid (HNL.out _ _ HM1.out z2 hz2)
 clear hz2
 go_wp2_with fail
 refine(HZ2.out).mono ?_
 rintro e w2 ⟨rfl,s2,he2,hM2⟩
 have HM2:=Lib.hid hM2
 have HE2:=Lib.hid he2
 have ha2:=he2.kp.a
 have hp2:=potle he2 (by rfl) (c:=0) (of_decide_eq_true (by rfl))
 clear hM2 he2
 go_wp2_with fail
 refine(HWk.out _ _ HM2.out (pot_len HM2.out (by omega))).mono ?_
 rintro e w3 ⟨rfl,s3,he3,hM3⟩
 have HM3:=Lib.hid hM3
 have HE3:=Lib.hid he3
 have ha3:=he3.kp.a
 have hp3:=potle he3 (by rfl) (c:=1) (of_decide_eq_true (by rfl))
 clear hM3 he3
 obtain⟨z4,hz4⟩:∃z,isS n lv [110] s3=z:=⟨_,rfl⟩
 have HZ4:=Lib.hid (HNL.out _ _ HM3.out z4 hz4)
 clear hz4
 go_wp2_with fail
 refine(HZ4.out).mono ?_
 rintro e w4 ⟨rfl,s4,he4,hM4⟩
 have HM4:=Lib.hid hM4
 have HE4:=Lib.hid he4
 have ha4:=he4.kp.a
 have hp4:=potle he4 (by rfl) (c:=0) (of_decide_eq_true (by rfl))
 clear hM4 he4
 go_wp2
 try go_step3
 try go_wp2
 go_loopw [] (fun wr=>Rl (kP n lv la lc g) w0 P (itmsP n lv) s4 2 wr) (fun wr=>n+1 - atM g wr)
 case atStart=>exact⟨s4,HM4.out,by omega,Nat.le_refl _,fun _ h=>h⟩
 case round=>
  obtain⟨r,hMr,hpr,har,hk⟩:=hrel
  obtain⟨b,hb⟩:∃b,itmT n lv r=b:=⟨_,rfl⟩
  have hc:=HIT.out _ _ hMr
  rw [hb]at hc
  have HC:=Lib.hid hc
  have HMR:=Lib.hid hMr
  have HB:=Lib.hid hb
  have HK:=Lib.hid hk
  clear hMr hb hk hc
  cases b with
  |false=>
   go_wp2_with fail
   refine(HC.out).mono ?_
   rintro e w5 ⟨rfl,hb5⟩
   have HM5:=Lib.hid (HMR.out.below hb5)
   clear hb5
   have HE5:=Lib.hid (HK.out _ (.stop HB.out))
   go_wp2_with fail
   refine(HWz.out _ _ HM5.out (pot_len HM5.out (by omega))).mono ?_
   rintro e w6 ⟨rfl,s6,he6,hM6⟩
   have HM6:=Lib.hid hM6
   have HE6:=Lib.hid he6
   have ha6:=he6.kp.a
   have hp6:=potle he6 (by rfl) (c:=1) (of_decide_eq_true (by rfl))
   clear hM6 he6
   go_wp2
   rw [Exit.noGoto_normal]
   go_end0
   exact⟨rfl,_,.seq HE1.out (.seq HE2.out (.seq HE3.out (.seq HE4.out (.seq HE5.out HE6.out)))),HM6.out⟩
  |true=>
   go_wp2_with fail
   refine(HC.out).mono ?_
   rintro e w5 ⟨rfl,hb5⟩
   have HM5:=Lib.hid (HMR.out.below hb5)
   clear hb5
   have hpb:=pot_bgn 15 false r
   have hab:(bgn 15 false r).a=r.a:=rfl
   go_wp2_with fail
   refine(HNI.out _ _ HM5.out ⟨⟨by omega,by omega⟩,pot_len HM5.out (by omega)⟩).mono ?_
   rintro e w6 ⟨rfl,s6,he6,hM6⟩
   have HM6:=Lib.hid hM6
   have HE6:=Lib.hid he6
   have ha6:=he6.kp.a
   have hp6:=potle he6 (by rfl) (c:=7) (of_decide_eq_true (by rfl))
   clear hM6 he6
   obtain⟨b7,hb7⟩:∃b,isS n lv [121] s6=b:=⟨_,rfl⟩
   have HC7:=Lib.hid (HTK.out ⟨#[121]⟩ [121] (by decide+kernel) _ _ HM6.out b7 hb7)
   have HB7:=Lib.hid hb7
   clear hb7
   cases b7 with
   |false=>
    go_wp2_with fail
    refine HC7.out.mono ?_
    rintro e w7 ⟨rfl,hM7⟩
    have HM7:=Lib.hid (show Mk (kP n lv la lc g) w0 P s6 w7 from hM7)
    clear hM7
    have HE7:=Lib.hid (HK.out _ (.out HB.out HE6.out HB7.out))
    go_wp2_with fail
    refine(HWz.out _ _ HM7.out (pot_len HM7.out (by omega))).mono ?_
    rintro e w8 ⟨rfl,s8,he8,hM8⟩
    have HM8:=Lib.hid hM8
    have HE8:=Lib.hid he8
    have ha8:=he8.kp.a
    have hp8:=potle he8 (by rfl) (c:=1) (of_decide_eq_true (by rfl))
    clear hM8 he8
    go_wp2
    rw [Exit.noGoto_normal]
    go_end0
    exact⟨rfl,_,.seq HE1.out (.seq HE2.out (.seq HE3.out (.seq HE4.out (.seq HE7.out HE8.out)))),HM8.out⟩
   |true=>
    go_wp2_with fail
    refine HC7.out.mono ?_
    rintro e w7 ⟨rfl,hM7⟩
    have HM7:=Lib.hid (show Mk (kP n lv la lc g) w0 P (nxt s6) w7 from hM7)
    have hp7:=pot_nxt s6
    have ha7:(nxt s6).a=s6.a+1:=rfl
    clear hM7
    obtain⟨z8,hz8⟩:∃z,isS n lv [110] (nxt s6)=z:=⟨_,rfl⟩
    have HZ8:=Lib.hid (HNL.out _ _ HM7.out z8 hz8)
    clear hz8
    go_wp2_with fail
    refine(HZ8.out).mono ?_
    rintro e w8 ⟨rfl,s8,he8,hM8⟩
    have HM8:=Lib.hid hM8
    have HE8:=Lib.hid he8
    have ha8:=he8.kp.a
    have hp8:=potle he8 (by rfl) (c:=0) (of_decide_eq_true (by rfl))
    clear hM8 he8
    go_wp2
    go_roundw
    case rel=>exact⟨_,HM8.out,by omega,by omega,fun s' he=>HK.out s' (.go HB.out HE6.out HB7.out (.seq .adv HE8.out) he)⟩
    case measure=>
     have e1:=atM_of HM8.out
     have e2:=atM_of HMR.out
     have:=isS_le (lv:=lv) HB7.out (by decide)
     rw [e1,e2]
     omega
end
end Go.Proofs.YtkolpaonccmgiaaGreatDoor.Q

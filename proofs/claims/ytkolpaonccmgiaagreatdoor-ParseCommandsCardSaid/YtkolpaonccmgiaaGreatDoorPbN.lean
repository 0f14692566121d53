/- What the document's own compound of layer 13 (parse) leaves. Condition: at most 10,000 leaves. -/
import Derived.Test.YtkolpaonccmgiaaGreatDoorPbM
import Derived.Test.YtkolpaonccmgiaaGreatDoorSy
set_option linter.unusedVariables false
namespace Go.Proofs.YtkolpaonccmgiaaGreatDoor.Q
open Go.RowKit
section
variable {n:Nat} {lv:Nat→Lf} {la:Option Addr} {lc g:Nat} {S:ByteArray} {w0:World} {P:Nat→Prop}
def kdv (j k:Nat):Int:=if j<k then 9+(j:Int)else 9
def KdRl (j:Nat) (W:World) (v3 v4:Value) (wr:World):Prop:=∃k:Nat,k≤6∧v4=.int .i64 (k:Int)∧v3=.int .i64 (kdv j k)∧wr=W
set_option maxHeartbeats 8000000 in
set_option maxRecDepth 100000 in
theorem compN0 (hS:Hid (SgS n lv S)) {a0:Nat} (HL:LstN n lv la lc S g a0):Does (kN n lv la lc S g) w0 P 123 #[.pointer (some ⟨g,0,none⟩)] (cmpP n lv) (fun s=>sgA n lv s.a=123∧s.d<200∧a0≤s.a∧pot s≤20):=by
 intro w s hM ⟨hx,hd,ha,hp⟩
 have hlt:=sg_le (lv:=lv) (n:=n) (i:=s.a) (by omega)
 obtain⟨nv,hB,_⟩:=hM.own
 have hz:=hS.out.1
 have hbt:=hS.out.2 s.a hlt
 rw [hx]at hbt
 obtain⟨a,haa⟩:∃a,s.a=a:=⟨_,rfl⟩
 have c1:w.cell? ⟨g,1,none⟩=some (.string S):=hB.cell 1
 have c3:w.cell? ⟨g,3,none⟩=some (.int .i64 (s.a:Int)):=hB.cell 3
 rw [haa]at c3 hbt
 have hlt2:a<n:=by omega
 have q1':a<S.size:=by omega
 have q1:(a:Int)<(S.size:Int):=by omega
 have q0:(0:Int)≤(a:Int):=by omega
 have hbb:S[a].toNat=123:=by rw [←bt_eq q1',hbt]
 have HX:=Lib.hid hx
 have HD:=Lib.hid hd
 have HRD:=Lib.hid (redN_any (n:=n) (lv:=lv) (la:=la) (lc:=lc) (S:=S) (g:=g) (w0:=w0) (P:=P) hS)
 have HRT:=Lib.hid (fun w s (h:Mk (kN n lv la lc S g) w0 P s w)=>redirectN_any hS.out w0 P w s h)
 have HTK:=Lib.hid (fun(t:ByteArray) (l:List Nat) (hl:SgI t l) w s (h:Mk (kN n lv la lc S g) w0 P s w) b (hb:isS n lv l s=b)=>next_any hS.out t l hl h b hb)
 have HBD:=Lib.hid (bodyN_any (w0:=w0) (P:=P) hS HL)
 have HDN:=Lib.hid (doneN_any (w0:=w0) (P:=P) hS HL)
 have HEA:=Lib.hid (eachN_any (w0:=w0) (P:=P) hS HL)
 have HCA:=Lib.hid (casesN_any (w0:=w0) (P:=P) hS HL)
 have HWq:=Lib.hid (wantN_any (n:=n) (lv:=lv) (la:=la) (lc:=lc) (S:=S) (g:=g) (w0:=w0) (P:=P) hS ⟨#[125]⟩ 125 (by decide+kernel))
 have HWp:=Lib.hid (wantN_any (n:=n) (lv:=lv) (la:=la) (lc:=lc) (S:=S) (g:=g) (w0:=w0) (P:=P) hS ⟨#[41]⟩ 41 (by decide+kernel))
 have HWt:=Lib.hid (wantN_any (n:=n) (lv:=lv) (la:=la) (lc:=lc) (S:=S) (g:=g) (w0:=w0) (P:=P) hS ⟨#[116]⟩ 116 (by decide+kernel))
 have HWf:=Lib.hid (wantN_any (n:=n) (lv:=lv) (la:=la) (lc:=lc) (S:=S) (g:=g) (w0:=w0) (P:=P) hS ⟨#[102]⟩ 102 (by decide+kernel))
 have HM:=Lib.hid hM
 clear hM hB hbt hz hx haa hd
 go_enter Tryz.func123,Tryz.ntmps123
 go_wp2
 go_quiet (fail)
 have HMQ:=Lib.hid (mk_drew HM.out nq)
 obtain⟨wq,hwq⟩:∃W,w.drewN nq=W:=⟨_,rfl⟩
 rw [hwq]at HMQ ⊢
 clear hwq c1 c3 hbb
 go_wp2
 go_loopw [3,4] (fun v3 v4 wr=>KdRl 0 wq v3 v4 wr) (fun _ v4 _=>7 - (intOf v4).toNat)
 case atStart=>exact⟨0,by omega,rfl,rfl,rfl⟩
 case round=>
  obtain⟨k,hk,rfl,rfl,rfl⟩:=hrel
  have hk7:k=0∨k=1∨k=2∨k=3∨k=4∨k=5∨k=6:=by omega
  rcases hk7 with rfl|rfl|rfl|rfl|rfl|rfl|rfl
  ·rw [show kdv 0 0=9 from rfl]
   go_wp2
   go_roundw
   case rel=>exact⟨1,by omega,rfl,rfl,rfl⟩
   case measure=>simp [intOf]
  ·rw [show kdv 0 1=9 from rfl]
   go_wp2
   go_roundw
   case rel=>exact⟨2,by omega,rfl,rfl,rfl⟩
   case measure=>simp [intOf]
  ·rw [show kdv 0 2=9 from rfl]
   go_wp2
   go_roundw
   case rel=>exact⟨3,by omega,rfl,rfl,rfl⟩
   case measure=>simp [intOf]
  ·rw [show kdv 0 3=9 from rfl]
   go_wp2
   go_roundw
   case rel=>exact⟨4,by omega,rfl,rfl,rfl⟩
   case measure=>simp [intOf]
  ·rw [show kdv 0 4=9 from rfl]
   go_wp2
   go_roundw
   case rel=>exact⟨5,by omega,rfl,rfl,rfl⟩
   case measure=>simp [intOf]
  ·rw [show kdv 0 5=9 from rfl]
   go_wp2
   go_roundw
   case rel=>exact⟨6,by omega,rfl,rfl,rfl⟩
   case measure=>simp [intOf]
  ·rw [show kdv 0 6=9 from rfl]
   go_wp2_with fail
   refine(begin_any 9 HMQ.out (pot_lenN HMQ.out (by omega)) (fun _=>by have:=HD.out;omega)).mono ?_
   rintro e w3 ⟨rfl,hM3⟩
   have HM3:Hid (Mk (kN n lv la lc S g) w0 P (bgn 9 true s) w3):=Lib.hid hM3
   have hp3:=pot_bgn 9 true s
   have ha3:(bgn 9 true s).a=s.a:=rfl
   clear hM3
   obtain⟨ap4,ax4,e3_4,f3_4,hw4,hM4⟩:=adv_all HM3.out (hlt)
   have HM4:=Lib.hid hM4
   clear hM4
   have hp4:=pot_nxt (bgn 9 true s)
   have ha4:(nxt (bgn 9 true s)).a=(bgn 9 true s).a+1:=rfl
   go_wp2_with fail
   refine(HBD.out _ _ HM4.out ⟨by omega,by omega⟩).mono ?_
   rintro e w5 ⟨rfl,s5,he5,hM5⟩
   have HM5:=Lib.hid hM5
   have HE5:=Lib.hid he5
   have ha5:=he5.kp.a
   have hp5:=potle he5 (by rfl) (c:=4) (of_decide_eq_true (by rfl))
   clear hM5 he5
   go_wp2_with fail
   refine(HWq.out _ _ HM5.out (pot_lenN HM5.out (by omega))).mono ?_
   rintro e w6 ⟨rfl,s6,he6,hM6⟩
   have HM6:=Lib.hid hM6
   have HE6:=Lib.hid he6
   have ha6:=he6.kp.a
   have hp6:=potle he6 (by rfl) (c:=1) (of_decide_eq_true (by rfl))
   clear hM6 he6
   go_wp2
   go_loopw [] (fun wr=>Rl (kN n lv la lc S g) w0 P (redsP n lv) s6 20 wr) (fun wr=>n+1 - atQ g wr)
   case atStart=>exact⟨s6,HM6.out,by omega,Nat.le_refl _,fun _ h=>h⟩
   case round=>
    obtain⟨r,hMr,hpr,har,hk⟩:=hrel
    obtain⟨b,hb⟩:∃b,rdrT n lv r=b:=⟨_,rfl⟩
    have hc:=HRT.out _ _ hMr
    rw [hb]at hc
    have HC:=Lib.hid hc
    have HMR:=Lib.hid hMr
    have HB:=Lib.hid hb
    have HK:=Lib.hid hk
    clear hMr hb hk hc
    cases b with
    |false=>
     go_wp2_with fail
     refine(HC.out).mono ?_
     rintro e w20 ⟨rfl,hm20⟩
     have HM20:Hid (Mk (kN n lv la lc S g) w0 P r w20):=Lib.hid (by obtain⟨m,rfl⟩:=hm20;exact mk_drew HMR.out m)
     clear hm20
     have HE20:=Lib.hid (HK.out _ (.stop HB.out))
     have HEV21:Hid (Ev n lv (.seq .adv (.seq (encP n lv 125) (redsP n lv))) (bgn 9 true s) r):=Lib.hid (.seq .adv (.seq (.seq HE5.out HE6.out) HE20.out))
     go_wp2_with fail
     refine(end_any (k:=9) (s:=s) HEV21.out HM20.out (fun _=>by have:=HD.out;omega)).mono ?_
     rintro e w21 ⟨rfl,hM21⟩
     have HM21:=Lib.hid hM21
     clear hM21
     go_wp2
     go_end0
     exact⟨rfl,_,.yes (by rw [isS_one HX.out];rfl) (.node HEV21.out),HM21.out⟩
    |true=>
     go_wp2_with fail
     refine(HC.out).mono ?_
     rintro e w20 ⟨rfl,hm20⟩
     have HM20:Hid (Mk (kN n lv la lc S g) w0 P r w20):=Lib.hid (by obtain⟨m,rfl⟩:=hm20;exact mk_drew HMR.out m)
     clear hm20
     go_wp2_with fail
     refine(HRD.out _ _ HM20.out ⟨HB.out,by omega⟩).mono ?_
     rintro e w21 ⟨rfl,s21,he21,hM21⟩
     have HM21:=Lib.hid hM21
     have HE21:=Lib.hid he21
     have ha21:=he21.kp.a
     have hp21:=potle he21 (by rfl) (c:= -28) (of_decide_eq_true (by rfl))
     clear hM21 he21
     go_wp2
     go_roundw
     case rel=>exact⟨_,HM21.out,by omega,by omega,fun s' he=>HK.out s' (.go HB.out HE21.out rfl .skip he)⟩
     case measure=>
      have e1:=atQ_of HM21.out
      have e2:=atQ_of HMR.out
      have:=HE21.out.red_lt
      have hmm:=HM21.out.ale
      change s21.a≤n at hmm
      rw [e1,e2]
      omega
set_option maxHeartbeats 8000000 in
set_option maxRecDepth 100000 in
theorem compN1 (hS:Hid (SgS n lv S)) {a0:Nat} (HL:LstN n lv la lc S g a0):Does (kN n lv la lc S g) w0 P 123 #[.pointer (some ⟨g,0,none⟩)] (cmpP n lv) (fun s=>sgA n lv s.a=40∧s.d<200∧a0≤s.a∧pot s≤20):=by
 intro w s hM ⟨hx,hd,ha,hp⟩
 have hlt:=sg_le (lv:=lv) (n:=n) (i:=s.a) (by omega)
 obtain⟨nv,hB,_⟩:=hM.own
 have hz:=hS.out.1
 have hbt:=hS.out.2 s.a hlt
 rw [hx]at hbt
 obtain⟨a,haa⟩:∃a,s.a=a:=⟨_,rfl⟩
 have c1:w.cell? ⟨g,1,none⟩=some (.string S):=hB.cell 1
 have c3:w.cell? ⟨g,3,none⟩=some (.int .i64 (s.a:Int)):=hB.cell 3
 rw [haa]at c3 hbt
 have hlt2:a<n:=by omega
 have q1':a<S.size:=by omega
 have q1:(a:Int)<(S.size:Int):=by omega
 have q0:(0:Int)≤(a:Int):=by omega
 have hbb:S[a].toNat=40:=by rw [←bt_eq q1',hbt]
 have HX:=Lib.hid hx
 have HD:=Lib.hid hd
 have HRD:=Lib.hid (redN_any (n:=n) (lv:=lv) (la:=la) (lc:=lc) (S:=S) (g:=g) (w0:=w0) (P:=P) hS)
 have HRT:=Lib.hid (fun w s (h:Mk (kN n lv la lc S g) w0 P s w)=>redirectN_any hS.out w0 P w s h)
 have HTK:=Lib.hid (fun(t:ByteArray) (l:List Nat) (hl:SgI t l) w s (h:Mk (kN n lv la lc S g) w0 P s w) b (hb:isS n lv l s=b)=>next_any hS.out t l hl h b hb)
 have HBD:=Lib.hid (bodyN_any (w0:=w0) (P:=P) hS HL)
 have HDN:=Lib.hid (doneN_any (w0:=w0) (P:=P) hS HL)
 have HEA:=Lib.hid (eachN_any (w0:=w0) (P:=P) hS HL)
 have HCA:=Lib.hid (casesN_any (w0:=w0) (P:=P) hS HL)
 have HWq:=Lib.hid (wantN_any (n:=n) (lv:=lv) (la:=la) (lc:=lc) (S:=S) (g:=g) (w0:=w0) (P:=P) hS ⟨#[125]⟩ 125 (by decide+kernel))
 have HWp:=Lib.hid (wantN_any (n:=n) (lv:=lv) (la:=la) (lc:=lc) (S:=S) (g:=g) (w0:=w0) (P:=P) hS ⟨#[41]⟩ 41 (by decide+kernel))
 have HWt:=Lib.hid (wantN_any (n:=n) (lv:=lv) (la:=la) (lc:=lc) (S:=S) (g:=g) (w0:=w0) (P:=P) hS ⟨#[116]⟩ 116 (by decide+kernel))
 have HWf:=Lib.hid (wantN_any (n:=n) (lv:=lv) (la:=la) (lc:=lc) (S:=S) (g:=g) (w0:=w0) (P:=P) hS ⟨#[102]⟩ 102 (by decide+kernel))
 have HM:=Lib.hid hM
 clear hM hB hbt hz hx haa hd
 go_enter Tryz.func123,Tryz.ntmps123
 go_wp2
 go_quiet (fail)
 have HMQ:=Lib.hid (mk_drew HM.out nq)
 obtain⟨wq,hwq⟩:∃W,w.drewN nq=W:=⟨_,rfl⟩
 rw [hwq]at HMQ ⊢
 clear hwq c1 c3 hbb
 go_wp2
 go_loopw [3,4] (fun v3 v4 wr=>KdRl 1 wq v3 v4 wr) (fun _ v4 _=>7 - (intOf v4).toNat)
 case atStart=>exact⟨0,by omega,rfl,rfl,rfl⟩
 case round=>
  obtain⟨k,hk,rfl,rfl,rfl⟩:=hrel
  have hk7:k=0∨k=1∨k=2∨k=3∨k=4∨k=5∨k=6:=by omega
  rcases hk7 with rfl|rfl|rfl|rfl|rfl|rfl|rfl
  ·rw [show kdv 1 0=9 from rfl]
   go_wp2
   go_roundw
   case rel=>exact⟨1,by omega,rfl,rfl,rfl⟩
   case measure=>simp [intOf]
  ·rw [show kdv 1 1=9 from rfl]
   go_wp2
   go_roundw
   case rel=>exact⟨2,by omega,rfl,rfl,rfl⟩
   case measure=>simp [intOf]
  ·rw [show kdv 1 2=10 from rfl]
   go_wp2
   go_roundw
   case rel=>exact⟨3,by omega,rfl,rfl,rfl⟩
   case measure=>simp [intOf]
  ·rw [show kdv 1 3=10 from rfl]
   go_wp2
   go_roundw
   case rel=>exact⟨4,by omega,rfl,rfl,rfl⟩
   case measure=>simp [intOf]
  ·rw [show kdv 1 4=10 from rfl]
   go_wp2
   go_roundw
   case rel=>exact⟨5,by omega,rfl,rfl,rfl⟩
   case measure=>simp [intOf]
  ·rw [show kdv 1 5=10 from rfl]
   go_wp2
   go_roundw
   case rel=>exact⟨6,by omega,rfl,rfl,rfl⟩
   case measure=>simp [intOf]
  ·rw [show kdv 1 6=10 from rfl]
   go_wp2_with fail
   refine(begin_any 10 HMQ.out (pot_lenN HMQ.out (by omega)) (fun _=>by have:=HD.out;omega)).mono ?_
   rintro e w3 ⟨rfl,hM3⟩
   have HM3:Hid (Mk (kN n lv la lc S g) w0 P (bgn 10 true s) w3):=Lib.hid hM3
   have hp3:=pot_bgn 10 true s
   have ha3:(bgn 10 true s).a=s.a:=rfl
   clear hM3
   obtain⟨ap4,ax4,e3_4,f3_4,hw4,hM4⟩:=adv_all HM3.out (hlt)
   have HM4:=Lib.hid hM4
   clear hM4
   have hp4:=pot_nxt (bgn 10 true s)
   have ha4:(nxt (bgn 10 true s)).a=(bgn 10 true s).a+1:=rfl
   go_wp2_with fail
   refine(HBD.out _ _ HM4.out ⟨by omega,by omega⟩).mono ?_
   rintro e w5 ⟨rfl,s5,he5,hM5⟩
   have HM5:=Lib.hid hM5
   have HE5:=Lib.hid he5
   have ha5:=he5.kp.a
   have hp5:=potle he5 (by rfl) (c:=4) (of_decide_eq_true (by rfl))
   clear hM5 he5
   go_wp2_with fail
   refine(HWp.out _ _ HM5.out (pot_lenN HM5.out (by omega))).mono ?_
   rintro e w6 ⟨rfl,s6,he6,hM6⟩
   have HM6:=Lib.hid hM6
   have HE6:=Lib.hid he6
   have ha6:=he6.kp.a
   have hp6:=potle he6 (by rfl) (c:=1) (of_decide_eq_true (by rfl))
   clear hM6 he6
   go_wp2
   go_loopw [] (fun wr=>Rl (kN n lv la lc S g) w0 P (redsP n lv) s6 20 wr) (fun wr=>n+1 - atQ g wr)
   case atStart=>exact⟨s6,HM6.out,by omega,Nat.le_refl _,fun _ h=>h⟩
   case round=>
    obtain⟨r,hMr,hpr,har,hk⟩:=hrel
    obtain⟨b,hb⟩:∃b,rdrT n lv r=b:=⟨_,rfl⟩
    have hc:=HRT.out _ _ hMr
    rw [hb]at hc
    have HC:=Lib.hid hc
    have HMR:=Lib.hid hMr
    have HB:=Lib.hid hb
    have HK:=Lib.hid hk
    clear hMr hb hk hc
    cases b with
    |false=>
     go_wp2_with fail
     refine(HC.out).mono ?_
     rintro e w20 ⟨rfl,hm20⟩
     have HM20:Hid (Mk (kN n lv la lc S g) w0 P r w20):=Lib.hid (by obtain⟨m,rfl⟩:=hm20;exact mk_drew HMR.out m)
     clear hm20
     have HE20:=Lib.hid (HK.out _ (.stop HB.out))
     have HEV21:Hid (Ev n lv (.seq .adv (.seq (encP n lv 41) (redsP n lv))) (bgn 10 true s) r):=Lib.hid (.seq .adv (.seq (.seq HE5.out HE6.out) HE20.out))
     go_wp2_with fail
     refine(end_any (k:=10) (s:=s) HEV21.out HM20.out (fun _=>by have:=HD.out;omega)).mono ?_
     rintro e w21 ⟨rfl,hM21⟩
     have HM21:=Lib.hid hM21
     clear hM21
     go_wp2
     go_end0
     exact⟨rfl,_,.no (by rw [isS_one HX.out];rfl) (.yes (by rw [isS_one HX.out];rfl) (.node HEV21.out)),HM21.out⟩
    |true=>
     go_wp2_with fail
     refine(HC.out).mono ?_
     rintro e w20 ⟨rfl,hm20⟩
     have HM20:Hid (Mk (kN n lv la lc S g) w0 P r w20):=Lib.hid (by obtain⟨m,rfl⟩:=hm20;exact mk_drew HMR.out m)
     clear hm20
     go_wp2_with fail
     refine(HRD.out _ _ HM20.out ⟨HB.out,by omega⟩).mono ?_
     rintro e w21 ⟨rfl,s21,he21,hM21⟩
     have HM21:=Lib.hid hM21
     have HE21:=Lib.hid he21
     have ha21:=he21.kp.a
     have hp21:=potle he21 (by rfl) (c:= -28) (of_decide_eq_true (by rfl))
     clear hM21 he21
     go_wp2
     go_roundw
     case rel=>exact⟨_,HM21.out,by omega,by omega,fun s' he=>HK.out s' (.go HB.out HE21.out rfl .skip he)⟩
     case measure=>
      have e1:=atQ_of HM21.out
      have e2:=atQ_of HMR.out
      have:=HE21.out.red_lt
      have hmm:=HM21.out.ale
      change s21.a≤n at hmm
      rw [e1,e2]
      omega
set_option maxHeartbeats 8000000 in
set_option maxRecDepth 100000 in
theorem compN2 (hS:Hid (SgS n lv S)) {a0:Nat} (HL:LstN n lv la lc S g a0):Does (kN n lv la lc S g) w0 P 123 #[.pointer (some ⟨g,0,none⟩)] (cmpP n lv) (fun s=>sgA n lv s.a=105∧s.d<200∧a0≤s.a∧pot s≤20):=by
 intro w s hM ⟨hx,hd,ha,hp⟩
 have hlt:=sg_le (lv:=lv) (n:=n) (i:=s.a) (by omega)
 obtain⟨nv,hB,_⟩:=hM.own
 have hz:=hS.out.1
 have hbt:=hS.out.2 s.a hlt
 rw [hx]at hbt
 obtain⟨a,haa⟩:∃a,s.a=a:=⟨_,rfl⟩
 have c1:w.cell? ⟨g,1,none⟩=some (.string S):=hB.cell 1
 have c3:w.cell? ⟨g,3,none⟩=some (.int .i64 (s.a:Int)):=hB.cell 3
 rw [haa]at c3 hbt
 have hlt2:a<n:=by omega
 have q1':a<S.size:=by omega
 have q1:(a:Int)<(S.size:Int):=by omega
 have q0:(0:Int)≤(a:Int):=by omega
 have hbb:S[a].toNat=105:=by rw [←bt_eq q1',hbt]
 have HX:=Lib.hid hx
 have HD:=Lib.hid hd
 have HRD:=Lib.hid (redN_any (n:=n) (lv:=lv) (la:=la) (lc:=lc) (S:=S) (g:=g) (w0:=w0) (P:=P) hS)
 have HRT:=Lib.hid (fun w s (h:Mk (kN n lv la lc S g) w0 P s w)=>redirectN_any hS.out w0 P w s h)
 have HTK:=Lib.hid (fun(t:ByteArray) (l:List Nat) (hl:SgI t l) w s (h:Mk (kN n lv la lc S g) w0 P s w) b (hb:isS n lv l s=b)=>next_any hS.out t l hl h b hb)
 have HBD:=Lib.hid (bodyN_any (w0:=w0) (P:=P) hS HL)
 have HDN:=Lib.hid (doneN_any (w0:=w0) (P:=P) hS HL)
 have HEA:=Lib.hid (eachN_any (w0:=w0) (P:=P) hS HL)
 have HCA:=Lib.hid (casesN_any (w0:=w0) (P:=P) hS HL)
 have HWq:=Lib.hid (wantN_any (n:=n) (lv:=lv) (la:=la) (lc:=lc) (S:=S) (g:=g) (w0:=w0) (P:=P) hS ⟨#[125]⟩ 125 (by decide+kernel))
 have HWp:=Lib.hid (wantN_any (n:=n) (lv:=lv) (la:=la) (lc:=lc) (S:=S) (g:=g) (w0:=w0) (P:=P) hS ⟨#[41]⟩ 41 (by decide+kernel))
 have HWt:=Lib.hid (wantN_any (n:=n) (lv:=lv) (la:=la) (lc:=lc) (S:=S) (g:=g) (w0:=w0) (P:=P) hS ⟨#[116]⟩ 116 (by decide+kernel))
 have HWf:=Lib.hid (wantN_any (n:=n) (lv:=lv) (la:=la) (lc:=lc) (S:=S) (g:=g) (w0:=w0) (P:=P) hS ⟨#[102]⟩ 102 (by decide+kernel))
 have HM:=Lib.hid hM
 clear hM hB hbt hz hx haa hd
 go_enter Tryz.func123,Tryz.ntmps123
 go_wp2
 go_quiet (fail)
 have HMQ:=Lib.hid (mk_drew HM.out nq)
 obtain⟨wq,hwq⟩:∃W,w.drewN nq=W:=⟨_,rfl⟩
 rw [hwq]at HMQ ⊢
 clear hwq c1 c3 hbb
 go_wp2
 go_loopw [3,4] (fun v3 v4 wr=>KdRl 2 wq v3 v4 wr) (fun _ v4 _=>7 - (intOf v4).toNat)
 case atStart=>exact⟨0,by omega,rfl,rfl,rfl⟩
 case round=>
  obtain⟨k,hk,rfl,rfl,rfl⟩:=hrel
  have hk7:k=0∨k=1∨k=2∨k=3∨k=4∨k=5∨k=6:=by omega
  rcases hk7 with rfl|rfl|rfl|rfl|rfl|rfl|rfl
  ·rw [show kdv 2 0=9 from rfl]
   go_wp2
   go_roundw
   case rel=>exact⟨1,by omega,rfl,rfl,rfl⟩
   case measure=>simp [intOf]
  ·rw [show kdv 2 1=9 from rfl]
   go_wp2
   go_roundw
   case rel=>exact⟨2,by omega,rfl,rfl,rfl⟩
   case measure=>simp [intOf]
  ·rw [show kdv 2 2=9 from rfl]
   go_wp2
   go_roundw
   case rel=>exact⟨3,by omega,rfl,rfl,rfl⟩
   case measure=>simp [intOf]
  ·rw [show kdv 2 3=11 from rfl]
   go_wp2
   go_roundw
   case rel=>exact⟨4,by omega,rfl,rfl,rfl⟩
   case measure=>simp [intOf]
  ·rw [show kdv 2 4=11 from rfl]
   go_wp2
   go_roundw
   case rel=>exact⟨5,by omega,rfl,rfl,rfl⟩
   case measure=>simp [intOf]
  ·rw [show kdv 2 5=11 from rfl]
   go_wp2
   go_roundw
   case rel=>exact⟨6,by omega,rfl,rfl,rfl⟩
   case measure=>simp [intOf]
  ·rw [show kdv 2 6=11 from rfl]
   go_wp2_with fail
   refine(begin_any 11 HMQ.out (pot_lenN HMQ.out (by omega)) (fun _=>by have:=HD.out;omega)).mono ?_
   rintro e w3 ⟨rfl,hM3⟩
   have HM3:Hid (Mk (kN n lv la lc S g) w0 P (bgn 11 true s) w3):=Lib.hid hM3
   have hp3:=pot_bgn 11 true s
   have ha3:(bgn 11 true s).a=s.a:=rfl
   clear hM3
   obtain⟨ap4,ax4,e3_4,f3_4,hw4,hM4⟩:=adv_all HM3.out (hlt)
   have HM4:=Lib.hid hM4
   clear hM4
   have hp4:=pot_nxt (bgn 11 true s)
   have ha4:(nxt (bgn 11 true s)).a=(bgn 11 true s).a+1:=rfl
   go_wp2_with fail
   refine(HBD.out _ _ HM4.out ⟨by omega,by omega⟩).mono ?_
   rintro e w5 ⟨rfl,s5,he5,hM5⟩
   have HM5:=Lib.hid hM5
   have HE5:=Lib.hid he5
   have ha5:=he5.kp.a
   have hp5:=potle he5 (by rfl) (c:=4) (of_decide_eq_true (by rfl))
   clear hM5 he5
   go_wp2_with fail
   refine(HWt.out _ _ HM5.out (pot_lenN HM5.out (by omega))).mono ?_
   rintro e w6 ⟨rfl,s6,he6,hM6⟩
   have HM6:=Lib.hid hM6
   have HE6:=Lib.hid he6
   have ha6:=he6.kp.a
   have hp6:=potle he6 (by rfl) (c:=1) (of_decide_eq_true (by rfl))
   clear hM6 he6
   go_wp2_with fail
   refine(HBD.out _ _ HM6.out ⟨by omega,by omega⟩).mono ?_
   rintro e w7 ⟨rfl,s7,he7,hM7⟩
   have HM7:=Lib.hid hM7
   have HE7:=Lib.hid he7
   have ha7:=he7.kp.a
   have hp7:=potle he7 (by rfl) (c:=4) (of_decide_eq_true (by rfl))
   clear hM7 he7
   have hp7b:pot s7≤0:=by omega
   go_wp2
   go_loopw [] (fun wr=>Rl (kN n lv la lc S g) w0 P (.rep (isS n lv [101]) (.seq .adv (brnP n lv)) yesT .skip) s7 9 wr) (fun wr=>n+1 - atQ g wr)
   case atStart=>exact⟨s7,HM7.out,by omega,Nat.le_refl _,fun _ h=>h⟩
   case round=>
    obtain⟨q,hMq,hpq,haq,hkq⟩:=hrel
    have HKQ:=Lib.hid hkq
    have HMR:=Lib.hid hMq
    clear hkq hMq
    obtain⟨b8,hb8⟩:∃b,isS n lv [101] q=b:=⟨_,rfl⟩
    have HC8:=Lib.hid (next_any hS.out ⟨#[101]⟩ [101] (by decide+kernel) HMR.out b8 hb8)
    have HB8:=Lib.hid hb8
    clear hb8
    cases b8 with
    |true=>
     go_wp2_with fail
     refine(HC8.out).mono ?_
     rintro e w8 ⟨rfl,hm8⟩
     have HM8:Hid (Mk (kN n lv la lc S g) w0 P q w8):=Lib.hid (by obtain⟨m,rfl⟩:=hm8;exact mk_drew HMR.out m)
     clear hm8
     obtain⟨ap9,ax9,e3_9,f3_9,hw9,hM9⟩:=adv_all HM8.out (isS_le (lv:=lv) HB8.out (by decide))
     have HM9:=Lib.hid hM9
     clear hM9
     have hp9:=pot_nxt q
     have ha9:(nxt q).a=q.a+1:=rfl
     go_wp2_with fail
     refine(HBD.out _ _ HM9.out ⟨by omega,by omega⟩).mono ?_
     rintro e w10 ⟨rfl,s10,he10,hM10⟩
     have HM10:=Lib.hid hM10
     have HE10:=Lib.hid he10
     have ha10:=he10.kp.a
     have hp10:=potle he10 (by rfl) (c:=4) (of_decide_eq_true (by rfl))
     clear hM10 he10
     go_wp2_with fail
     refine(HWt.out _ _ HM10.out (pot_lenN HM10.out (by omega))).mono ?_
     rintro e w11 ⟨rfl,s11,he11,hM11⟩
     have HM11:=Lib.hid hM11
     have HE11:=Lib.hid he11
     have ha11:=he11.kp.a
     have hp11:=potle he11 (by rfl) (c:=1) (of_decide_eq_true (by rfl))
     clear hM11 he11
     go_wp2_with fail
     refine(HBD.out _ _ HM11.out ⟨by omega,by omega⟩).mono ?_
     rintro e w12 ⟨rfl,s12,he12,hM12⟩
     have HM12:=Lib.hid hM12
     have HE12:=Lib.hid he12
     have ha12:=he12.kp.a
     have hp12:=potle he12 (by rfl) (c:=4) (of_decide_eq_true (by rfl))
     clear hM12 he12
     go_wp2
     go_roundw
     case rel=>exact⟨_,HM12.out,by omega,by omega,fun s' he=>HKQ.out s' (.go HB8.out (.seq .adv (.seq HE10.out (.seq HE11.out HE12.out))) rfl .skip he)⟩
     case measure=>
      have e1:=atQ_of HM12.out
      have e2:=atQ_of HMR.out
      have:=isS_le (lv:=lv) HB8.out (by decide)
      have hmm:=HM12.out.ale
      change s12.a≤n at hmm
      rw [e1,e2]
      omega
    |false=>
     go_wp2_with fail
     refine(HC8.out).mono ?_
     rintro e w12 ⟨rfl,hm12⟩
     have HM12:Hid (Mk (kN n lv la lc S g) w0 P q w12):=Lib.hid (by obtain⟨m,rfl⟩:=hm12;exact mk_drew HMR.out m)
     clear hm12
     have HE12:=Lib.hid (HKQ.out _ (.stop HB8.out))
     obtain⟨b13,hb13⟩:∃b,isS n lv [108] q=b:=⟨_,rfl⟩
     have HC13:=Lib.hid (next_any hS.out ⟨#[108]⟩ [108] (by decide+kernel) HM12.out b13 hb13)
     have HB13:=Lib.hid hb13
     clear hb13
     cases b13 with
     |true=>
      go_wp2_with fail
      refine(HC13.out).mono ?_
      rintro e w13 ⟨rfl,hm13⟩
      have HM13:Hid (Mk (kN n lv la lc S g) w0 P q w13):=Lib.hid (by obtain⟨m,rfl⟩:=hm13;exact mk_drew HM12.out m)
      clear hm13
      obtain⟨ap14,ax14,e3_14,f3_14,hw14,hM14⟩:=adv_all HM13.out (isS_le (lv:=lv) HB13.out (by decide))
      have HM14:=Lib.hid hM14
      clear hM14
      have hp14:=pot_nxt q
      have ha14:(nxt q).a=q.a+1:=rfl
      go_wp2_with fail
      refine(HBD.out _ _ HM14.out ⟨by omega,by omega⟩).mono ?_
      rintro e w15 ⟨rfl,s15,he15,hM15⟩
      have HM15:=Lib.hid hM15
      have HE15:=Lib.hid he15
      have ha15:=he15.kp.a
      have hp15:=potle he15 (by rfl) (c:=4) (of_decide_eq_true (by rfl))
      clear hM15 he15
      go_wp2_with fail
      refine(HWf.out _ _ HM15.out (pot_lenN HM15.out (by omega))).mono ?_
      rintro e w17 ⟨rfl,s17,he17,hM17⟩
      have HM17:=Lib.hid hM17
      have HE17:=Lib.hid he17
      have ha17:=he17.kp.a
      have hp17:=potle he17 (by rfl) (c:=1) (of_decide_eq_true (by rfl))
      clear hM17 he17
      go_wp2
      go_loopw [] (fun wr=>Rl (kN n lv la lc S g) w0 P (redsP n lv) s17 20 wr) (fun wr=>n+1 - atQ g wr)
      case atStart=>exact⟨s17,HM17.out,by omega,Nat.le_refl _,fun _ h=>h⟩
      case round=>
       obtain⟨r,hMr,hpr,har,hk⟩:=hrel
       obtain⟨b,hb⟩:∃b,rdrT n lv r=b:=⟨_,rfl⟩
       have hc:=HRT.out _ _ hMr
       rw [hb]at hc
       have HC:=Lib.hid hc
       have HMR:=Lib.hid hMr
       have HB:=Lib.hid hb
       have HK:=Lib.hid hk
       clear hMr hb hk hc
       cases b with
       |false=>
        go_wp2_with fail
        refine(HC.out).mono ?_
        rintro e w20 ⟨rfl,hm20⟩
        have HM20:Hid (Mk (kN n lv la lc S g) w0 P r w20):=Lib.hid (by obtain⟨m,rfl⟩:=hm20;exact mk_drew HMR.out m)
        clear hm20
        have HE20:=Lib.hid (HK.out _ (.stop HB.out))
        have HEV21:Hid (Ev n lv (.seq .adv (.seq (brP n lv) (redsP n lv))) (bgn 11 true s) r):=Lib.hid (.seq .adv (.seq (.seq (.seq HE5.out (.seq HE6.out HE7.out)) (.seq HE12.out (.seq (.yes HB13.out (.seq .adv HE15.out)) HE17.out))) HE20.out))
        go_wp2_with fail
        refine(end_any (k:=11) (s:=s) HEV21.out HM20.out (fun _=>by have:=HD.out;omega)).mono ?_
        rintro e w21 ⟨rfl,hM21⟩
        have HM21:=Lib.hid hM21
        clear hM21
        go_wp2
        go_end0
        exact⟨rfl,_,.no (by rw [isS_one HX.out];rfl) (.no (by rw [isS_one HX.out];rfl) (.yes (by rw [isS_one HX.out];rfl) (.node HEV21.out))),HM21.out⟩
       |true=>
        go_wp2_with fail
        refine(HC.out).mono ?_
        rintro e w20 ⟨rfl,hm20⟩
        have HM20:Hid (Mk (kN n lv la lc S g) w0 P r w20):=Lib.hid (by obtain⟨m,rfl⟩:=hm20;exact mk_drew HMR.out m)
        clear hm20
        go_wp2_with fail
        refine(HRD.out _ _ HM20.out ⟨HB.out,by omega⟩).mono ?_
        rintro e w21 ⟨rfl,s21,he21,hM21⟩
        have HM21:=Lib.hid hM21
        have HE21:=Lib.hid he21
        have ha21:=he21.kp.a
        have hp21:=potle he21 (by rfl) (c:= -28) (of_decide_eq_true (by rfl))
        clear hM21 he21
        go_wp2
        go_roundw
        case rel=>exact⟨_,HM21.out,by omega,by omega,fun s' he=>HK.out s' (.go HB.out HE21.out rfl .skip he)⟩
        case measure=>
         have e1:=atQ_of HM21.out
         have e2:=atQ_of HMR.out
         have:=HE21.out.red_lt
         have hmm:=HM21.out.ale
         change s21.a≤n at hmm
         rw [e1,e2]
         omega
     |false=>
      go_wp2_with fail
      refine(HC13.out).mono ?_
      rintro e w13 ⟨rfl,hm13⟩
      have HM13:Hid (Mk (kN n lv la lc S g) w0 P q w13):=Lib.hid (by obtain⟨m,rfl⟩:=hm13;exact mk_drew HM12.out m)
      clear hm13
      go_wp2_with fail
      refine(HWf.out _ _ HM13.out (pot_lenN HM13.out (by omega))).mono ?_
      rintro e w17 ⟨rfl,s17,he17,hM17⟩
      have HM17:=Lib.hid hM17
      have HE17:=Lib.hid he17
      have ha17:=he17.kp.a
      have hp17:=potle he17 (by rfl) (c:=1) (of_decide_eq_true (by rfl))
      clear hM17 he17
      go_wp2
      go_loopw [] (fun wr=>Rl (kN n lv la lc S g) w0 P (redsP n lv) s17 20 wr) (fun wr=>n+1 - atQ g wr)
      case atStart=>exact⟨s17,HM17.out,by omega,Nat.le_refl _,fun _ h=>h⟩
      case round=>
       obtain⟨r,hMr,hpr,har,hk⟩:=hrel
       obtain⟨b,hb⟩:∃b,rdrT n lv r=b:=⟨_,rfl⟩
       have hc:=HRT.out _ _ hMr
       rw [hb]at hc
       have HC:=Lib.hid hc
       have HMR:=Lib.hid hMr
       have HB:=Lib.hid hb
       have HK:=Lib.hid hk
       clear hMr hb hk hc
       cases b with
       |false=>
        go_wp2_with fail
        refine(HC.out).mono ?_
        rintro e w20 ⟨rfl,hm20⟩
        have HM20:Hid (Mk (kN n lv la lc S g) w0 P r w20):=Lib.hid (by obtain⟨m,rfl⟩:=hm20;exact mk_drew HMR.out m)
        clear hm20
        have HE20:=Lib.hid (HK.out _ (.stop HB.out))
        have HEV21:Hid (Ev n lv (.seq .adv (.seq (brP n lv) (redsP n lv))) (bgn 11 true s) r):=Lib.hid (.seq .adv (.seq (.seq (.seq HE5.out (.seq HE6.out HE7.out)) (.seq HE12.out (.seq (.no HB13.out .skip) HE17.out))) HE20.out))
        go_wp2_with fail
        refine(end_any (k:=11) (s:=s) HEV21.out HM20.out (fun _=>by have:=HD.out;omega)).mono ?_
        rintro e w21 ⟨rfl,hM21⟩
        have HM21:=Lib.hid hM21
        clear hM21
        go_wp2
        go_end0
        exact⟨rfl,_,.no (by rw [isS_one HX.out];rfl) (.no (by rw [isS_one HX.out];rfl) (.yes (by rw [isS_one HX.out];rfl) (.node HEV21.out))),HM21.out⟩
       |true=>
        go_wp2_with fail
        refine(HC.out).mono ?_
        rintro e w20 ⟨rfl,hm20⟩
        have HM20:Hid (Mk (kN n lv la lc S g) w0 P r w20):=Lib.hid (by obtain⟨m,rfl⟩:=hm20;exact mk_drew HMR.out m)
        clear hm20
        go_wp2_with fail
        refine(HRD.out _ _ HM20.out ⟨HB.out,by omega⟩).mono ?_
        rintro e w21 ⟨rfl,s21,he21,hM21⟩
        have HM21:=Lib.hid hM21
        have HE21:=Lib.hid he21
        have ha21:=he21.kp.a
        have hp21:=potle he21 (by rfl) (c:= -28) (of_decide_eq_true (by rfl))
        clear hM21 he21
        go_wp2
        go_roundw
        case rel=>exact⟨_,HM21.out,by omega,by omega,fun s' he=>HK.out s' (.go HB.out HE21.out rfl .skip he)⟩
        case measure=>
         have e1:=atQ_of HM21.out
         have e2:=atQ_of HMR.out
         have:=HE21.out.red_lt
         have hmm:=HM21.out.ale
         change s21.a≤n at hmm
         rw [e1,e2]
         omega
set_option maxHeartbeats 8000000 in
set_option maxRecDepth 100000 in
theorem compN3 (hS:Hid (SgS n lv S)) {a0:Nat} (HL:LstN n lv la lc S g a0):Does (kN n lv la lc S g) w0 P 123 #[.pointer (some ⟨g,0,none⟩)] (cmpP n lv) (fun s=>sgA n lv s.a=119∧s.d<200∧a0≤s.a∧pot s≤20):=by
 intro w s hM ⟨hx,hd,ha,hp⟩
 have hlt:=sg_le (lv:=lv) (n:=n) (i:=s.a) (by omega)
 obtain⟨nv,hB,_⟩:=hM.own
 have hz:=hS.out.1
 have hbt:=hS.out.2 s.a hlt
 rw [hx]at hbt
 obtain⟨a,haa⟩:∃a,s.a=a:=⟨_,rfl⟩
 have c1:w.cell? ⟨g,1,none⟩=some (.string S):=hB.cell 1
 have c3:w.cell? ⟨g,3,none⟩=some (.int .i64 (s.a:Int)):=hB.cell 3
 rw [haa]at c3 hbt
 have hlt2:a<n:=by omega
 have q1':a<S.size:=by omega
 have q1:(a:Int)<(S.size:Int):=by omega
 have q0:(0:Int)≤(a:Int):=by omega
 have hbb:S[a].toNat=119:=by rw [←bt_eq q1',hbt]
 have HX:=Lib.hid hx
 have HD:=Lib.hid hd
 have HRD:=Lib.hid (redN_any (n:=n) (lv:=lv) (la:=la) (lc:=lc) (S:=S) (g:=g) (w0:=w0) (P:=P) hS)
 have HRT:=Lib.hid (fun w s (h:Mk (kN n lv la lc S g) w0 P s w)=>redirectN_any hS.out w0 P w s h)
 have HTK:=Lib.hid (fun(t:ByteArray) (l:List Nat) (hl:SgI t l) w s (h:Mk (kN n lv la lc S g) w0 P s w) b (hb:isS n lv l s=b)=>next_any hS.out t l hl h b hb)
 have HBD:=Lib.hid (bodyN_any (w0:=w0) (P:=P) hS HL)
 have HDN:=Lib.hid (doneN_any (w0:=w0) (P:=P) hS HL)
 have HEA:=Lib.hid (eachN_any (w0:=w0) (P:=P) hS HL)
 have HCA:=Lib.hid (casesN_any (w0:=w0) (P:=P) hS HL)
 have HWq:=Lib.hid (wantN_any (n:=n) (lv:=lv) (la:=la) (lc:=lc) (S:=S) (g:=g) (w0:=w0) (P:=P) hS ⟨#[125]⟩ 125 (by decide+kernel))
 have HWp:=Lib.hid (wantN_any (n:=n) (lv:=lv) (la:=la) (lc:=lc) (S:=S) (g:=g) (w0:=w0) (P:=P) hS ⟨#[41]⟩ 41 (by decide+kernel))
 have HWt:=Lib.hid (wantN_any (n:=n) (lv:=lv) (la:=la) (lc:=lc) (S:=S) (g:=g) (w0:=w0) (P:=P) hS ⟨#[116]⟩ 116 (by decide+kernel))
 have HWf:=Lib.hid (wantN_any (n:=n) (lv:=lv) (la:=la) (lc:=lc) (S:=S) (g:=g) (w0:=w0) (P:=P) hS ⟨#[102]⟩ 102 (by decide+kernel))
 have HM:=Lib.hid hM
 clear hM hB hbt hz hx haa hd
 go_enter Tryz.func123,Tryz.ntmps123
 go_wp2
 go_quiet (fail)
 have HMQ:=Lib.hid (mk_drew HM.out nq)
 obtain⟨wq,hwq⟩:∃W,w.drewN nq=W:=⟨_,rfl⟩
 rw [hwq]at HMQ ⊢
 clear hwq c1 c3 hbb
 go_wp2
 go_loopw [3,4] (fun v3 v4 wr=>KdRl 3 wq v3 v4 wr) (fun _ v4 _=>7 - (intOf v4).toNat)
 case atStart=>exact⟨0,by omega,rfl,rfl,rfl⟩
 case round=>
  obtain⟨k,hk,rfl,rfl,rfl⟩:=hrel
  have hk7:k=0∨k=1∨k=2∨k=3∨k=4∨k=5∨k=6:=by omega
  rcases hk7 with rfl|rfl|rfl|rfl|rfl|rfl|rfl
  ·rw [show kdv 3 0=9 from rfl]
   go_wp2
   go_roundw
   case rel=>exact⟨1,by omega,rfl,rfl,rfl⟩
   case measure=>simp [intOf]
  ·rw [show kdv 3 1=9 from rfl]
   go_wp2
   go_roundw
   case rel=>exact⟨2,by omega,rfl,rfl,rfl⟩
   case measure=>simp [intOf]
  ·rw [show kdv 3 2=9 from rfl]
   go_wp2
   go_roundw
   case rel=>exact⟨3,by omega,rfl,rfl,rfl⟩
   case measure=>simp [intOf]
  ·rw [show kdv 3 3=9 from rfl]
   go_wp2
   go_roundw
   case rel=>exact⟨4,by omega,rfl,rfl,rfl⟩
   case measure=>simp [intOf]
  ·rw [show kdv 3 4=12 from rfl]
   go_wp2
   go_roundw
   case rel=>exact⟨5,by omega,rfl,rfl,rfl⟩
   case measure=>simp [intOf]
  ·rw [show kdv 3 5=12 from rfl]
   go_wp2
   go_roundw
   case rel=>exact⟨6,by omega,rfl,rfl,rfl⟩
   case measure=>simp [intOf]
  ·rw [show kdv 3 6=12 from rfl]
   go_wp2_with fail
   refine(begin_any 12 HMQ.out (pot_lenN HMQ.out (by omega)) (fun _=>by have:=HD.out;omega)).mono ?_
   rintro e w3 ⟨rfl,hM3⟩
   have HM3:Hid (Mk (kN n lv la lc S g) w0 P (bgn 12 true s) w3):=Lib.hid hM3
   have hp3:=pot_bgn 12 true s
   have ha3:(bgn 12 true s).a=s.a:=rfl
   clear hM3
   obtain⟨ap4,ax4,e3_4,f3_4,hw4,hM4⟩:=adv_all HM3.out (hlt)
   have HM4:=Lib.hid hM4
   clear hM4
   have hp4:=pot_nxt (bgn 12 true s)
   have ha4:(nxt (bgn 12 true s)).a=(bgn 12 true s).a+1:=rfl
   go_wp2_with fail
   refine(HBD.out _ _ HM4.out ⟨by omega,by omega⟩).mono ?_
   rintro e w5 ⟨rfl,s5,he5,hM5⟩
   have HM5:=Lib.hid hM5
   have HE5:=Lib.hid he5
   have ha5:=he5.kp.a
   have hp5:=potle he5 (by rfl) (c:=4) (of_decide_eq_true (by rfl))
   clear hM5 he5
   go_wp2_with fail
   refine(HDN.out _ _ HM5.out ⟨by omega,by omega⟩).mono ?_
   rintro e w6 ⟨rfl,s6,he6,hM6⟩
   have HM6:=Lib.hid hM6
   have HE6:=Lib.hid he6
   have hp6:=potle he6 (by rfl) (c:=6) (of_decide_eq_true (by rfl))
   have ha6:=he6.kp.a
   clear hM6 he6
   go_wp2
   go_loopw [] (fun wr=>Rl (kN n lv la lc S g) w0 P (redsP n lv) s6 20 wr) (fun wr=>n+1 - atQ g wr)
   case atStart=>exact⟨s6,HM6.out,by omega,Nat.le_refl _,fun _ h=>h⟩
   case round=>
    obtain⟨r,hMr,hpr,har,hk⟩:=hrel
    obtain⟨b,hb⟩:∃b,rdrT n lv r=b:=⟨_,rfl⟩
    have hc:=HRT.out _ _ hMr
    rw [hb]at hc
    have HC:=Lib.hid hc
    have HMR:=Lib.hid hMr
    have HB:=Lib.hid hb
    have HK:=Lib.hid hk
    clear hMr hb hk hc
    cases b with
    |false=>
     go_wp2_with fail
     refine(HC.out).mono ?_
     rintro e w20 ⟨rfl,hm20⟩
     have HM20:Hid (Mk (kN n lv la lc S g) w0 P r w20):=Lib.hid (by obtain⟨m,rfl⟩:=hm20;exact mk_drew HMR.out m)
     clear hm20
     have HE20:=Lib.hid (HK.out _ (.stop HB.out))
     have HEV21:Hid (Ev n lv (.seq .adv (.seq (loopP n lv) (redsP n lv))) (bgn 12 true s) r):=Lib.hid (.seq .adv (.seq (.seq HE5.out HE6.out) HE20.out))
     go_wp2_with fail
     refine(end_any (k:=12) (s:=s) HEV21.out HM20.out (fun _=>by have:=HD.out;omega)).mono ?_
     rintro e w21 ⟨rfl,hM21⟩
     have HM21:=Lib.hid hM21
     clear hM21
     go_wp2
     go_end0
     exact⟨rfl,_,.no (by rw [isS_one HX.out];rfl) (.no (by rw [isS_one HX.out];rfl) (.no (by rw [isS_one HX.out];rfl) (.yes (by rw [isS_one HX.out];rfl) (.node HEV21.out)))),HM21.out⟩
    |true=>
     go_wp2_with fail
     refine(HC.out).mono ?_
     rintro e w20 ⟨rfl,hm20⟩
     have HM20:Hid (Mk (kN n lv la lc S g) w0 P r w20):=Lib.hid (by obtain⟨m,rfl⟩:=hm20;exact mk_drew HMR.out m)
     clear hm20
     go_wp2_with fail
     refine(HRD.out _ _ HM20.out ⟨HB.out,by omega⟩).mono ?_
     rintro e w21 ⟨rfl,s21,he21,hM21⟩
     have HM21:=Lib.hid hM21
     have HE21:=Lib.hid he21
     have ha21:=he21.kp.a
     have hp21:=potle he21 (by rfl) (c:= -28) (of_decide_eq_true (by rfl))
     clear hM21 he21
     go_wp2
     go_roundw
     case rel=>exact⟨_,HM21.out,by omega,by omega,fun s' he=>HK.out s' (.go HB.out HE21.out rfl .skip he)⟩
     case measure=>
      have e1:=atQ_of HM21.out
      have e2:=atQ_of HMR.out
      have:=HE21.out.red_lt
      have hmm:=HM21.out.ale
      change s21.a≤n at hmm
      rw [e1,e2]
      omega
set_option maxHeartbeats 8000000 in
set_option maxRecDepth 100000 in
theorem compN4 (hS:Hid (SgS n lv S)) {a0:Nat} (HL:LstN n lv la lc S g a0):Does (kN n lv la lc S g) w0 P 123 #[.pointer (some ⟨g,0,none⟩)] (cmpP n lv) (fun s=>sgA n lv s.a=114∧s.d<200∧a0≤s.a∧pot s≤20):=by
 intro w s hM ⟨hx,hd,ha,hp⟩
 have hlt:=sg_le (lv:=lv) (n:=n) (i:=s.a) (by omega)
 obtain⟨nv,hB,_⟩:=hM.own
 have hz:=hS.out.1
 have hbt:=hS.out.2 s.a hlt
 rw [hx]at hbt
 obtain⟨a,haa⟩:∃a,s.a=a:=⟨_,rfl⟩
 have c1:w.cell? ⟨g,1,none⟩=some (.string S):=hB.cell 1
 have c3:w.cell? ⟨g,3,none⟩=some (.int .i64 (s.a:Int)):=hB.cell 3
 rw [haa]at c3 hbt
 have hlt2:a<n:=by omega
 have q1':a<S.size:=by omega
 have q1:(a:Int)<(S.size:Int):=by omega
 have q0:(0:Int)≤(a:Int):=by omega
 have hbb:S[a].toNat=114:=by rw [←bt_eq q1',hbt]
 have HX:=Lib.hid hx
 have HD:=Lib.hid hd
 have HRD:=Lib.hid (redN_any (n:=n) (lv:=lv) (la:=la) (lc:=lc) (S:=S) (g:=g) (w0:=w0) (P:=P) hS)
 have HRT:=Lib.hid (fun w s (h:Mk (kN n lv la lc S g) w0 P s w)=>redirectN_any hS.out w0 P w s h)
 have HTK:=Lib.hid (fun(t:ByteArray) (l:List Nat) (hl:SgI t l) w s (h:Mk (kN n lv la lc S g) w0 P s w) b (hb:isS n lv l s=b)=>next_any hS.out t l hl h b hb)
 have HBD:=Lib.hid (bodyN_any (w0:=w0) (P:=P) hS HL)
 have HDN:=Lib.hid (doneN_any (w0:=w0) (P:=P) hS HL)
 have HEA:=Lib.hid (eachN_any (w0:=w0) (P:=P) hS HL)
 have HCA:=Lib.hid (casesN_any (w0:=w0) (P:=P) hS HL)
 have HWq:=Lib.hid (wantN_any (n:=n) (lv:=lv) (la:=la) (lc:=lc) (S:=S) (g:=g) (w0:=w0) (P:=P) hS ⟨#[125]⟩ 125 (by decide+kernel))
 have HWp:=Lib.hid (wantN_any (n:=n) (lv:=lv) (la:=la) (lc:=lc) (S:=S) (g:=g) (w0:=w0) (P:=P) hS ⟨#[41]⟩ 41 (by decide+kernel))
 have HWt:=Lib.hid (wantN_any (n:=n) (lv:=lv) (la:=la) (lc:=lc) (S:=S) (g:=g) (w0:=w0) (P:=P) hS ⟨#[116]⟩ 116 (by decide+kernel))
 have HWf:=Lib.hid (wantN_any (n:=n) (lv:=lv) (la:=la) (lc:=lc) (S:=S) (g:=g) (w0:=w0) (P:=P) hS ⟨#[102]⟩ 102 (by decide+kernel))
 have HM:=Lib.hid hM
 clear hM hB hbt hz hx haa hd
 go_enter Tryz.func123,Tryz.ntmps123
 go_wp2
 go_quiet (fail)
 have HMQ:=Lib.hid (mk_drew HM.out nq)
 obtain⟨wq,hwq⟩:∃W,w.drewN nq=W:=⟨_,rfl⟩
 rw [hwq]at HMQ ⊢
 clear hwq c1 c3 hbb
 go_wp2
 go_loopw [3,4] (fun v3 v4 wr=>KdRl 4 wq v3 v4 wr) (fun _ v4 _=>7 - (intOf v4).toNat)
 case atStart=>exact⟨0,by omega,rfl,rfl,rfl⟩
 case round=>
  obtain⟨k,hk,rfl,rfl,rfl⟩:=hrel
  have hk7:k=0∨k=1∨k=2∨k=3∨k=4∨k=5∨k=6:=by omega
  rcases hk7 with rfl|rfl|rfl|rfl|rfl|rfl|rfl
  ·rw [show kdv 4 0=9 from rfl]
   go_wp2
   go_roundw
   case rel=>exact⟨1,by omega,rfl,rfl,rfl⟩
   case measure=>simp [intOf]
  ·rw [show kdv 4 1=9 from rfl]
   go_wp2
   go_roundw
   case rel=>exact⟨2,by omega,rfl,rfl,rfl⟩
   case measure=>simp [intOf]
  ·rw [show kdv 4 2=9 from rfl]
   go_wp2
   go_roundw
   case rel=>exact⟨3,by omega,rfl,rfl,rfl⟩
   case measure=>simp [intOf]
  ·rw [show kdv 4 3=9 from rfl]
   go_wp2
   go_roundw
   case rel=>exact⟨4,by omega,rfl,rfl,rfl⟩
   case measure=>simp [intOf]
  ·rw [show kdv 4 4=9 from rfl]
   go_wp2
   go_roundw
   case rel=>exact⟨5,by omega,rfl,rfl,rfl⟩
   case measure=>simp [intOf]
  ·rw [show kdv 4 5=13 from rfl]
   go_wp2
   go_roundw
   case rel=>exact⟨6,by omega,rfl,rfl,rfl⟩
   case measure=>simp [intOf]
  ·rw [show kdv 4 6=13 from rfl]
   go_wp2_with fail
   refine(begin_any 13 HMQ.out (pot_lenN HMQ.out (by omega)) (fun _=>by have:=HD.out;omega)).mono ?_
   rintro e w3 ⟨rfl,hM3⟩
   have HM3:Hid (Mk (kN n lv la lc S g) w0 P (bgn 13 true s) w3):=Lib.hid hM3
   have hp3:=pot_bgn 13 true s
   have ha3:(bgn 13 true s).a=s.a:=rfl
   clear hM3
   obtain⟨ap4,ax4,e3_4,f3_4,hw4,hM4⟩:=adv_all HM3.out (hlt)
   have HM4:=Lib.hid hM4
   clear hM4
   have hp4:=pot_nxt (bgn 13 true s)
   have ha4:(nxt (bgn 13 true s)).a=(bgn 13 true s).a+1:=rfl
   go_wp2_with fail
   refine(HEA.out _ _ HM4.out ⟨by omega,by omega⟩).mono ?_
   rintro e w6 ⟨rfl,s6,he6,hM6⟩
   have HM6:=Lib.hid hM6
   have HE6:=Lib.hid he6
   have ha6:=he6.kp.a
   have hp6:=potle he6 (by rfl) (c:=10) (of_decide_eq_true (by rfl))
   clear hM6 he6
   go_wp2
   go_loopw [] (fun wr=>Rl (kN n lv la lc S g) w0 P (redsP n lv) s6 20 wr) (fun wr=>n+1 - atQ g wr)
   case atStart=>exact⟨s6,HM6.out,by omega,Nat.le_refl _,fun _ h=>h⟩
   case round=>
    obtain⟨r,hMr,hpr,har,hk⟩:=hrel
    obtain⟨b,hb⟩:∃b,rdrT n lv r=b:=⟨_,rfl⟩
    have hc:=HRT.out _ _ hMr
    rw [hb]at hc
    have HC:=Lib.hid hc
    have HMR:=Lib.hid hMr
    have HB:=Lib.hid hb
    have HK:=Lib.hid hk
    clear hMr hb hk hc
    cases b with
    |false=>
     go_wp2_with fail
     refine(HC.out).mono ?_
     rintro e w20 ⟨rfl,hm20⟩
     have HM20:Hid (Mk (kN n lv la lc S g) w0 P r w20):=Lib.hid (by obtain⟨m,rfl⟩:=hm20;exact mk_drew HMR.out m)
     clear hm20
     have HE20:=Lib.hid (HK.out _ (.stop HB.out))
     have HEV21:Hid (Ev n lv (.seq .adv (.seq (eachP n lv) (redsP n lv))) (bgn 13 true s) r):=Lib.hid (.seq .adv (.seq (HE6.out) HE20.out))
     go_wp2_with fail
     refine(end_any (k:=13) (s:=s) HEV21.out HM20.out (fun _=>by have:=HD.out;omega)).mono ?_
     rintro e w21 ⟨rfl,hM21⟩
     have HM21:=Lib.hid hM21
     clear hM21
     go_wp2
     go_end0
     exact⟨rfl,_,.no (by rw [isS_one HX.out];rfl) (.no (by rw [isS_one HX.out];rfl) (.no (by rw [isS_one HX.out];rfl) (.no (by rw [isS_one HX.out];rfl) (.yes (by rw [isS_one HX.out];rfl) (.node HEV21.out))))),HM21.out⟩
    |true=>
     go_wp2_with fail
     refine(HC.out).mono ?_
     rintro e w20 ⟨rfl,hm20⟩
     have HM20:Hid (Mk (kN n lv la lc S g) w0 P r w20):=Lib.hid (by obtain⟨m,rfl⟩:=hm20;exact mk_drew HMR.out m)
     clear hm20
     go_wp2_with fail
     refine(HRD.out _ _ HM20.out ⟨HB.out,by omega⟩).mono ?_
     rintro e w21 ⟨rfl,s21,he21,hM21⟩
     have HM21:=Lib.hid hM21
     have HE21:=Lib.hid he21
     have ha21:=he21.kp.a
     have hp21:=potle he21 (by rfl) (c:= -28) (of_decide_eq_true (by rfl))
     clear hM21 he21
     go_wp2
     go_roundw
     case rel=>exact⟨_,HM21.out,by omega,by omega,fun s' he=>HK.out s' (.go HB.out HE21.out rfl .skip he)⟩
     case measure=>
      have e1:=atQ_of HM21.out
      have e2:=atQ_of HMR.out
      have:=HE21.out.red_lt
      have hmm:=HM21.out.ale
      change s21.a≤n at hmm
      rw [e1,e2]
      omega
set_option maxHeartbeats 8000000 in
set_option maxRecDepth 100000 in
theorem compN5 (hS:Hid (SgS n lv S)) {a0:Nat} (HL:LstN n lv la lc S g a0):Does (kN n lv la lc S g) w0 P 123 #[.pointer (some ⟨g,0,none⟩)] (cmpP n lv) (fun s=>sgA n lv s.a=99∧s.d<200∧a0≤s.a∧pot s≤20):=by
 intro w s hM ⟨hx,hd,ha,hp⟩
 have hlt:=sg_le (lv:=lv) (n:=n) (i:=s.a) (by omega)
 obtain⟨nv,hB,_⟩:=hM.own
 have hz:=hS.out.1
 have hbt:=hS.out.2 s.a hlt
 rw [hx]at hbt
 obtain⟨a,haa⟩:∃a,s.a=a:=⟨_,rfl⟩
 have c1:w.cell? ⟨g,1,none⟩=some (.string S):=hB.cell 1
 have c3:w.cell? ⟨g,3,none⟩=some (.int .i64 (s.a:Int)):=hB.cell 3
 rw [haa]at c3 hbt
 have hlt2:a<n:=by omega
 have q1':a<S.size:=by omega
 have q1:(a:Int)<(S.size:Int):=by omega
 have q0:(0:Int)≤(a:Int):=by omega
 have hbb:S[a].toNat=99:=by rw [←bt_eq q1',hbt]
 have HX:=Lib.hid hx
 have HD:=Lib.hid hd
 have HRD:=Lib.hid (redN_any (n:=n) (lv:=lv) (la:=la) (lc:=lc) (S:=S) (g:=g) (w0:=w0) (P:=P) hS)
 have HRT:=Lib.hid (fun w s (h:Mk (kN n lv la lc S g) w0 P s w)=>redirectN_any hS.out w0 P w s h)
 have HTK:=Lib.hid (fun(t:ByteArray) (l:List Nat) (hl:SgI t l) w s (h:Mk (kN n lv la lc S g) w0 P s w) b (hb:isS n lv l s=b)=>next_any hS.out t l hl h b hb)
 have HBD:=Lib.hid (bodyN_any (w0:=w0) (P:=P) hS HL)
 have HDN:=Lib.hid (doneN_any (w0:=w0) (P:=P) hS HL)
 have HEA:=Lib.hid (eachN_any (w0:=w0) (P:=P) hS HL)
 have HCA:=Lib.hid (casesN_any (w0:=w0) (P:=P) hS HL)
 have HWq:=Lib.hid (wantN_any (n:=n) (lv:=lv) (la:=la) (lc:=lc) (S:=S) (g:=g) (w0:=w0) (P:=P) hS ⟨#[125]⟩ 125 (by decide+kernel))
 have HWp:=Lib.hid (wantN_any (n:=n) (lv:=lv) (la:=la) (lc:=lc) (S:=S) (g:=g) (w0:=w0) (P:=P) hS ⟨#[41]⟩ 41 (by decide+kernel))
 have HWt:=Lib.hid (wantN_any (n:=n) (lv:=lv) (la:=la) (lc:=lc) (S:=S) (g:=g) (w0:=w0) (P:=P) hS ⟨#[116]⟩ 116 (by decide+kernel))
 have HWf:=Lib.hid (wantN_any (n:=n) (lv:=lv) (la:=la) (lc:=lc) (S:=S) (g:=g) (w0:=w0) (P:=P) hS ⟨#[102]⟩ 102 (by decide+kernel))
 have HM:=Lib.hid hM
 clear hM hB hbt hz hx haa hd
 go_enter Tryz.func123,Tryz.ntmps123
 go_wp2
 go_quiet (fail)
 have HMQ:=Lib.hid (mk_drew HM.out nq)
 obtain⟨wq,hwq⟩:∃W,w.drewN nq=W:=⟨_,rfl⟩
 rw [hwq]at HMQ ⊢
 clear hwq c1 c3 hbb
 go_wp2
 go_loopw [3,4] (fun v3 v4 wr=>KdRl 5 wq v3 v4 wr) (fun _ v4 _=>7 - (intOf v4).toNat)
 case atStart=>exact⟨0,by omega,rfl,rfl,rfl⟩
 case round=>
  obtain⟨k,hk,rfl,rfl,rfl⟩:=hrel
  have hk7:k=0∨k=1∨k=2∨k=3∨k=4∨k=5∨k=6:=by omega
  rcases hk7 with rfl|rfl|rfl|rfl|rfl|rfl|rfl
  ·rw [show kdv 5 0=9 from rfl]
   go_wp2
   go_roundw
   case rel=>exact⟨1,by omega,rfl,rfl,rfl⟩
   case measure=>simp [intOf]
  ·rw [show kdv 5 1=9 from rfl]
   go_wp2
   go_roundw
   case rel=>exact⟨2,by omega,rfl,rfl,rfl⟩
   case measure=>simp [intOf]
  ·rw [show kdv 5 2=9 from rfl]
   go_wp2
   go_roundw
   case rel=>exact⟨3,by omega,rfl,rfl,rfl⟩
   case measure=>simp [intOf]
  ·rw [show kdv 5 3=9 from rfl]
   go_wp2
   go_roundw
   case rel=>exact⟨4,by omega,rfl,rfl,rfl⟩
   case measure=>simp [intOf]
  ·rw [show kdv 5 4=9 from rfl]
   go_wp2
   go_roundw
   case rel=>exact⟨5,by omega,rfl,rfl,rfl⟩
   case measure=>simp [intOf]
  ·rw [show kdv 5 5=9 from rfl]
   go_wp2
   go_roundw
   case rel=>exact⟨6,by omega,rfl,rfl,rfl⟩
   case measure=>simp [intOf]
  ·rw [show kdv 5 6=14 from rfl]
   go_wp2_with fail
   refine(begin_any 14 HMQ.out (pot_lenN HMQ.out (by omega)) (fun _=>by have:=HD.out;omega)).mono ?_
   rintro e w3 ⟨rfl,hM3⟩
   have HM3:Hid (Mk (kN n lv la lc S g) w0 P (bgn 14 true s) w3):=Lib.hid hM3
   have hp3:=pot_bgn 14 true s
   have ha3:(bgn 14 true s).a=s.a:=rfl
   clear hM3
   obtain⟨ap4,ax4,e3_4,f3_4,hw4,hM4⟩:=adv_all HM3.out (hlt)
   have HM4:=Lib.hid hM4
   clear hM4
   have hp4:=pot_nxt (bgn 14 true s)
   have ha4:(nxt (bgn 14 true s)).a=(bgn 14 true s).a+1:=rfl
   go_wp2_with fail
   refine(HCA.out _ _ HM4.out ⟨by omega,by omega⟩).mono ?_
   rintro e w6 ⟨rfl,s6,he6,hM6⟩
   have HM6:=Lib.hid hM6
   have HE6:=Lib.hid he6
   have ha6:=he6.kp.a
   have hp6:=potle he6 (by rfl) (c:=10) (of_decide_eq_true (by rfl))
   clear hM6 he6
   go_wp2
   go_loopw [] (fun wr=>Rl (kN n lv la lc S g) w0 P (redsP n lv) s6 20 wr) (fun wr=>n+1 - atQ g wr)
   case atStart=>exact⟨s6,HM6.out,by omega,Nat.le_refl _,fun _ h=>h⟩
   case round=>
    obtain⟨r,hMr,hpr,har,hk⟩:=hrel
    obtain⟨b,hb⟩:∃b,rdrT n lv r=b:=⟨_,rfl⟩
    have hc:=HRT.out _ _ hMr
    rw [hb]at hc
    have HC:=Lib.hid hc
    have HMR:=Lib.hid hMr
    have HB:=Lib.hid hb
    have HK:=Lib.hid hk
    clear hMr hb hk hc
    cases b with
    |false=>
     go_wp2_with fail
     refine(HC.out).mono ?_
     rintro e w20 ⟨rfl,hm20⟩
     have HM20:Hid (Mk (kN n lv la lc S g) w0 P r w20):=Lib.hid (by obtain⟨m,rfl⟩:=hm20;exact mk_drew HMR.out m)
     clear hm20
     have HE20:=Lib.hid (HK.out _ (.stop HB.out))
     have HEV21:Hid (Ev n lv (.seq .adv (.seq (casP n lv) (redsP n lv))) (bgn 14 true s) r):=Lib.hid (.seq .adv (.seq (HE6.out) HE20.out))
     go_wp2_with fail
     refine(end_any (k:=14) (s:=s) HEV21.out HM20.out (fun _=>by have:=HD.out;omega)).mono ?_
     rintro e w21 ⟨rfl,hM21⟩
     have HM21:=Lib.hid hM21
     clear hM21
     go_wp2
     go_end0
     exact⟨rfl,_,.no (by rw [isS_one HX.out];rfl) (.no (by rw [isS_one HX.out];rfl) (.no (by rw [isS_one HX.out];rfl) (.no (by rw [isS_one HX.out];rfl) (.no (by rw [isS_one HX.out];rfl) (.node HEV21.out))))),HM21.out⟩
    |true=>
     go_wp2_with fail
     refine(HC.out).mono ?_
     rintro e w20 ⟨rfl,hm20⟩
     have HM20:Hid (Mk (kN n lv la lc S g) w0 P r w20):=Lib.hid (by obtain⟨m,rfl⟩:=hm20;exact mk_drew HMR.out m)
     clear hm20
     go_wp2_with fail
     refine(HRD.out _ _ HM20.out ⟨HB.out,by omega⟩).mono ?_
     rintro e w21 ⟨rfl,s21,he21,hM21⟩
     have HM21:=Lib.hid hM21
     have HE21:=Lib.hid he21
     have ha21:=he21.kp.a
     have hp21:=potle he21 (by rfl) (c:= -28) (of_decide_eq_true (by rfl))
     clear hM21 he21
     go_wp2
     go_roundw
     case rel=>exact⟨_,HM21.out,by omega,by omega,fun s' he=>HK.out s' (.go HB.out HE21.out rfl .skip he)⟩
     case measure=>
      have e1:=atQ_of HM21.out
      have e2:=atQ_of HMR.out
      have:=HE21.out.red_lt
      have hmm:=HM21.out.ale
      change s21.a≤n at hmm
      rw [e1,e2]
      omega
theorem compN_any (hS:Hid (SgS n lv S)) {a0:Nat} (HL:LstN n lv la lc S g a0):Does (kN n lv la lc S g) w0 P 123 #[.pointer (some ⟨g,0,none⟩)] (cmpP n lv) (fun s=>cmpT n lv s=true∧a0≤s.a∧pot s≤20):=by
 intro w s hM ⟨hc,ha,hp⟩
 unfold cmpT at hc
 rw [Bool.and_eq_true]at hc
 have hd:=of_decide_eq_true hc.2
 have h6:sgA n lv s.a=123∨sgA n lv s.a=40∨sgA n lv s.a=105∨sgA n lv s.a=119∨sgA n lv s.a=114∨sgA n lv s.a=99:=by simpa using hc.1
 rcases h6 with h|h|h|h|h|h
 ·exact compN0 hS HL w s hM ⟨h,hd,ha,hp⟩
 ·exact compN1 hS HL w s hM ⟨h,hd,ha,hp⟩
 ·exact compN2 hS HL w s hM ⟨h,hd,ha,hp⟩
 ·exact compN3 hS HL w s hM ⟨h,hd,ha,hp⟩
 ·exact compN4 hS HL w s hM ⟨h,hd,ha,hp⟩
 ·exact compN5 hS HL w s hM ⟨h,hd,ha,hp⟩
end
end Go.Proofs.YtkolpaonccmgiaaGreatDoor.Q

/- What the document's own pipe, andor and list of layer 13 (parse) leave, wherever they begin. Condition: at most 10,000 leaves. -/
import Derived.Test.YtkolpaonccmgiaaGreatDoorPbO
import Derived.Test.YtkolpaonccmgiaaGreatDoorSz
set_option linter.unusedVariables false
namespace Go.Proofs.YtkolpaonccmgiaaGreatDoor.Q
open Go.RowKit
section
variable {n:Nat} {lv:Nat→Lf} {la:Option Addr} {lc g:Nat} {S:ByteArray} {w0:World} {P:Nat→Prop}
set_option maxHeartbeats 16000000 in
set_option maxRecDepth 100000 in
theorem pipeN_any (hS:Hid (SgS n lv S)) {a0:Nat} (HL:LstN n lv la lc S g a0):Does (kN n lv la lc S g) w0 P 74 #[.pointer (some ⟨g,0,none⟩)] (pipP n lv) (fun s=>a0≤s.a∧pot s≤12):=by
 intro w s hM ⟨ha,hp⟩
 have HCO:=Lib.hid (commandN_any (w0:=w0) (P:=P) hS HL)
 have HM:=Lib.hid hM
 clear hM
 go_enter Tryz.func74,Tryz.ntmps74
 go_wp2_with fail
 refine(begin_any 4 HM.out (pot_lenN HM.out (by omega)) (fun h=>absurd h (by decide))).mono ?_
 rintro e w1 ⟨rfl,hM1⟩
 have HM1:Hid (Mk (kN n lv la lc S g) w0 P (bgn 4 false s) w1):=Lib.hid hM1
 have hp1:=pot_bgn 4 false s
 have ha1:(bgn 4 false s).a=s.a:=rfl
 clear hM1
 obtain⟨b2,hb2⟩:∃b,isS n lv [33] (bgn 4 false s)=b:=⟨_,rfl⟩
 have HC2:=Lib.hid (next_any hS.out ⟨#[33]⟩ [33] (by decide+kernel) HM1.out b2 hb2)
 have HB2:=Lib.hid hb2
 clear hb2
 cases b2 with
 |true=>
  go_wp2_with fail
  refine(HC2.out).mono ?_
  rintro e w3 ⟨rfl,hm3⟩
  have HM3:Hid (Mk (kN n lv la lc S g) w0 P (bgn 4 false s) w3):=Lib.hid (by obtain⟨m,rfl⟩:=hm3;exact mk_drew HM1.out m)
  clear hm3
  obtain⟨ap4,ax4,e3_4,f3_4,hw4,hM4⟩:=adv_all HM3.out (isS_le (lv:=lv) HB2.out (by decide))
  have HM4:=Lib.hid hM4
  clear hM4
  have hp4:=pot_nxt (bgn 4 false s)
  have ha4:(nxt (bgn 4 false s)).a=(bgn 4 false s).a+1:=rfl
  go_wp2_with fail
  refine(HCO.out _ _ HM4.out ⟨by omega,by omega⟩).mono ?_
  rintro e w5 ⟨rfl,s5,he5,hM5⟩
  have HM5:=Lib.hid hM5
  have HE5:=Lib.hid he5
  have ha5:=he5.kp.a
  have hp5:=potle he5 (by rfl) (c:=1) (of_decide_eq_true (by rfl))
  clear hM5 he5
  go_wp2
  go_loopw [] (fun wr=>Rl (kN n lv la lc S g) w0 P (.rep (isS n lv [124]) (.seq .adv (.seq (nlsP n lv) (comP n lv))) yesT .skip) s5 15 wr) (fun wr=>n+1 - atQ g wr)
  case atStart=>exact⟨s5,HM5.out,by omega,Nat.le_refl _,fun _ h=>h⟩
  case round=>
   obtain⟨r,hMr,hpr,har,hk⟩:=hrel
   have HK:=Lib.hid hk
   have HMR:=Lib.hid hMr
   clear hk hMr
   obtain⟨b6,hb6⟩:∃b,isS n lv [124] r=b:=⟨_,rfl⟩
   have HC6:=Lib.hid (next_any hS.out ⟨#[124]⟩ [124] (by decide+kernel) HMR.out b6 hb6)
   have HB6:=Lib.hid hb6
   clear hb6
   cases b6 with
   |true=>
    go_wp2_with fail
    refine(HC6.out).mono ?_
    rintro e w7 ⟨rfl,hm7⟩
    have HM7:Hid (Mk (kN n lv la lc S g) w0 P r w7):=Lib.hid (by obtain⟨m,rfl⟩:=hm7;exact mk_drew HMR.out m)
    clear hm7
    obtain⟨ap8,ax8,e3_8,f3_8,hw8,hM8⟩:=adv_all HM7.out (isS_le (lv:=lv) HB6.out (by decide))
    have HM8:=Lib.hid hM8
    clear hM8
    have hp8:=pot_nxt r
    have ha8:(nxt r).a=r.a+1:=rfl
    obtain⟨z9,hz9⟩:∃z,isS n lv [110] (nxt r)=z:=⟨_,rfl⟩
    have HZ9:=Lib.hid (linesN_any hS HM8.out z9 hz9)
    have HZB9:=Lib.hid hz9
    clear hz9
    go_wp2_with fail
    refine HZ9.out.mono ?_
    rintro e w9 ⟨m9,rfl,hmz9,s9,he9,hM9⟩
    have HM9:=Lib.hid hM9
    have HE9:=Lib.hid he9
    have HMZ9:=Lib.hid hmz9
    have ha9:=he9.kp.a
    have hp9:=potle he9 (by rfl) (c:=0) (of_decide_eq_true (by rfl))
    clear hM9 he9 hmz9
    go_wp2_with fail
    refine(HCO.out _ _ HM9.out ⟨by omega,by omega⟩).mono ?_
    rintro e w10 ⟨rfl,s10,he10,hM10⟩
    have HM10:=Lib.hid hM10
    have HE10:=Lib.hid he10
    have ha10:=he10.kp.a
    have hp10:=potle he10 (by rfl) (c:=1) (of_decide_eq_true (by rfl))
    clear hM10 he10
    go_wp2
    go_roundw
    case rel=>exact⟨_,HM10.out,by omega,by omega,fun s' he=>HK.out s' (.go HB6.out (.seq .adv (.seq HE9.out HE10.out)) rfl .skip he)⟩
    case measure=>
     have e1:=atQ_of HM10.out
     have e2:=atQ_of HMR.out
     have:=isS_le (lv:=lv) HB6.out (by decide)
     have hmm:=HM10.out.ale
     change s10.a≤n at hmm
     rw [e1,e2]
     omega
   |false=>
    go_wp2_with fail
    refine(HC6.out).mono ?_
    rintro e w7 ⟨rfl,hm7⟩
    have HM7:Hid (Mk (kN n lv la lc S g) w0 P r w7):=Lib.hid (by obtain⟨m,rfl⟩:=hm7;exact mk_drew HMR.out m)
    clear hm7
    have HE7:=Lib.hid (HK.out _ (.stop HB6.out))
    have HEV8:Hid (Ev n lv (pipbP n lv) (bgn 4 false s) r):=Lib.hid (.seq (.yes HB2.out .adv) (.seq HE5.out HE7.out))
    go_wp2_with fail
    refine(end_any (k:=4) (s:=s) HEV8.out HM7.out (fun h=>absurd h (by decide))).mono ?_
    rintro e w8 ⟨rfl,hM8⟩
    have HM8:=Lib.hid hM8
    clear hM8
    go_wp2
    go_end0
    exact⟨rfl,_,.node HEV8.out,HM8.out⟩
 |false=>
  go_wp2_with fail
  refine(HC2.out).mono ?_
  rintro e w3 ⟨rfl,hm3⟩
  have HM3:Hid (Mk (kN n lv la lc S g) w0 P (bgn 4 false s) w3):=Lib.hid (by obtain⟨m,rfl⟩:=hm3;exact mk_drew HM1.out m)
  clear hm3
  go_wp2_with fail
  refine(HCO.out _ _ HM3.out ⟨by omega,by omega⟩).mono ?_
  rintro e w5 ⟨rfl,s5,he5,hM5⟩
  have HM5:=Lib.hid hM5
  have HE5:=Lib.hid he5
  have ha5:=he5.kp.a
  have hp5:=potle he5 (by rfl) (c:=1) (of_decide_eq_true (by rfl))
  clear hM5 he5
  go_wp2
  go_loopw [] (fun wr=>Rl (kN n lv la lc S g) w0 P (.rep (isS n lv [124]) (.seq .adv (.seq (nlsP n lv) (comP n lv))) yesT .skip) s5 15 wr) (fun wr=>n+1 - atQ g wr)
  case atStart=>exact⟨s5,HM5.out,by omega,Nat.le_refl _,fun _ h=>h⟩
  case round=>
   obtain⟨r,hMr,hpr,har,hk⟩:=hrel
   have HK:=Lib.hid hk
   have HMR:=Lib.hid hMr
   clear hk hMr
   obtain⟨b6,hb6⟩:∃b,isS n lv [124] r=b:=⟨_,rfl⟩
   have HC6:=Lib.hid (next_any hS.out ⟨#[124]⟩ [124] (by decide+kernel) HMR.out b6 hb6)
   have HB6:=Lib.hid hb6
   clear hb6
   cases b6 with
   |true=>
    go_wp2_with fail
    refine(HC6.out).mono ?_
    rintro e w7 ⟨rfl,hm7⟩
    have HM7:Hid (Mk (kN n lv la lc S g) w0 P r w7):=Lib.hid (by obtain⟨m,rfl⟩:=hm7;exact mk_drew HMR.out m)
    clear hm7
    obtain⟨ap8,ax8,e3_8,f3_8,hw8,hM8⟩:=adv_all HM7.out (isS_le (lv:=lv) HB6.out (by decide))
    have HM8:=Lib.hid hM8
    clear hM8
    have hp8:=pot_nxt r
    have ha8:(nxt r).a=r.a+1:=rfl
    obtain⟨z9,hz9⟩:∃z,isS n lv [110] (nxt r)=z:=⟨_,rfl⟩
    have HZ9:=Lib.hid (linesN_any hS HM8.out z9 hz9)
    have HZB9:=Lib.hid hz9
    clear hz9
    go_wp2_with fail
    refine HZ9.out.mono ?_
    rintro e w9 ⟨m9,rfl,hmz9,s9,he9,hM9⟩
    have HM9:=Lib.hid hM9
    have HE9:=Lib.hid he9
    have HMZ9:=Lib.hid hmz9
    have ha9:=he9.kp.a
    have hp9:=potle he9 (by rfl) (c:=0) (of_decide_eq_true (by rfl))
    clear hM9 he9 hmz9
    go_wp2_with fail
    refine(HCO.out _ _ HM9.out ⟨by omega,by omega⟩).mono ?_
    rintro e w10 ⟨rfl,s10,he10,hM10⟩
    have HM10:=Lib.hid hM10
    have HE10:=Lib.hid he10
    have ha10:=he10.kp.a
    have hp10:=potle he10 (by rfl) (c:=1) (of_decide_eq_true (by rfl))
    clear hM10 he10
    go_wp2
    go_roundw
    case rel=>exact⟨_,HM10.out,by omega,by omega,fun s' he=>HK.out s' (.go HB6.out (.seq .adv (.seq HE9.out HE10.out)) rfl .skip he)⟩
    case measure=>
     have e1:=atQ_of HM10.out
     have e2:=atQ_of HMR.out
     have:=isS_le (lv:=lv) HB6.out (by decide)
     have hmm:=HM10.out.ale
     change s10.a≤n at hmm
     rw [e1,e2]
     omega
   |false=>
    go_wp2_with fail
    refine(HC6.out).mono ?_
    rintro e w7 ⟨rfl,hm7⟩
    have HM7:Hid (Mk (kN n lv la lc S g) w0 P r w7):=Lib.hid (by obtain⟨m,rfl⟩:=hm7;exact mk_drew HMR.out m)
    clear hm7
    have HE7:=Lib.hid (HK.out _ (.stop HB6.out))
    have HEV8:Hid (Ev n lv (pipbP n lv) (bgn 4 false s) r):=Lib.hid (.seq (.no HB2.out .skip) (.seq HE5.out HE7.out))
    go_wp2_with fail
    refine(end_any (k:=4) (s:=s) HEV8.out HM7.out (fun h=>absurd h (by decide))).mono ?_
    rintro e w8 ⟨rfl,hM8⟩
    have HM8:=Lib.hid hM8
    clear hM8
    go_wp2
    go_end0
    exact⟨rfl,_,.node HEV8.out,HM8.out⟩
set_option maxHeartbeats 16000000 in
set_option maxRecDepth 100000 in
theorem andorN_any (hS:Hid (SgS n lv S)) {a0:Nat} (HL:LstN n lv la lc S g a0):Does (kN n lv la lc S g) w0 P 46 #[.pointer (some ⟨g,0,none⟩)] (andP n lv) (fun s=>a0≤s.a∧pot s≤11):=by
 intro w s hM ⟨ha,hp⟩
 have HMI:=Lib.hid (noneN_any (n:=n) (lv:=lv) (la:=la) (lc:=lc) (S:=S) (g:=g) (w0:=w0) (P:=P))
 have HPT:=Lib.hid (fun w s (h:Mk (kN n lv la lc S g) w0 P s w)=>pipN_any hS.out w0 P w s h)
 have HPP:=Lib.hid (pipeN_any (w0:=w0) (P:=P) hS HL)
 have HM:=Lib.hid hM
 clear hM
 go_enter Tryz.func46,Tryz.ntmps46
 go_wp2_with fail
 refine(begin_any 3 HM.out (pot_lenN HM.out (by omega)) (fun h=>absurd h (by decide))).mono ?_
 rintro e w1 ⟨rfl,hM1⟩
 have HM1:Hid (Mk (kN n lv la lc S g) w0 P (bgn 3 false s) w1):=Lib.hid hM1
 have hp1:=pot_bgn 3 false s
 have ha1:(bgn 3 false s).a=s.a:=rfl
 clear hM1
 go_wp2_with fail
 refine(HPP.out _ _ HM1.out ⟨by omega,by omega⟩).mono ?_
 rintro e w2 ⟨rfl,s2,he2,hM2⟩
 have HM2:=Lib.hid hM2
 have HE2:=Lib.hid he2
 have ha2:=he2.kp.a
 have hp2:=potle he2 (by rfl) (c:=2) (of_decide_eq_true (by rfl))
 clear hM2 he2
 go_wp2
 go_loopw [] (fun wr=>Rl (kN n lv la lc S g) w0 P (.rep (isS n lv [97,111]) (.seq .adv (.seq (nlsP n lv) (.ite (pipT n lv) (pipP n lv) missP))) yesT .skip) s2 14 wr) (fun wr=>n+1 - atQ g wr)
 case atStart=>exact⟨s2,HM2.out,by omega,Nat.le_refl _,fun _ h=>h⟩
 case round=>
  obtain⟨r,hMr,hpr,har,hk⟩:=hrel
  have HK:=Lib.hid hk
  have HMR:=Lib.hid hMr
  clear hk hMr
  obtain⟨b3,hb3⟩:∃b,isS n lv [97,111] r=b:=⟨_,rfl⟩
  have HC3:=Lib.hid (next_any hS.out ⟨#[97,111]⟩ [97,111] (by decide+kernel) HMR.out b3 hb3)
  have HB3:=Lib.hid hb3
  clear hb3
  cases b3 with
  |true=>
   go_wp2_with fail
   refine(HC3.out).mono ?_
   rintro e w4 ⟨rfl,hm4⟩
   have HM4:Hid (Mk (kN n lv la lc S g) w0 P r w4):=Lib.hid (by obtain⟨m,rfl⟩:=hm4;exact mk_drew HMR.out m)
   clear hm4
   obtain⟨ap5,ax5,e3_5,f3_5,hw5,hM5⟩:=adv_all HM4.out (isS_le (lv:=lv) HB3.out (by decide))
   have HM5:=Lib.hid hM5
   clear hM5
   have hp5:=pot_nxt r
   have ha5:(nxt r).a=r.a+1:=rfl
   obtain⟨z6,hz6⟩:∃z,isS n lv [110] (nxt r)=z:=⟨_,rfl⟩
   have HZ6:=Lib.hid (linesN_any hS HM5.out z6 hz6)
   have HZB6:=Lib.hid hz6
   clear hz6
   go_wp2_with fail
   refine HZ6.out.mono ?_
   rintro e w6 ⟨m6,rfl,hmz6,s6,he6,hM6⟩
   have HM6:=Lib.hid hM6
   have HE6:=Lib.hid he6
   have HMZ6:=Lib.hid hmz6
   have ha6:=he6.kp.a
   have hp6:=potle he6 (by rfl) (c:=0) (of_decide_eq_true (by rfl))
   clear hM6 he6 hmz6
   obtain⟨b,hb⟩:∃b,pipT n lv s6=b:=⟨_,rfl⟩
   have hc:=HPT.out _ _ HM6.out
   rw [hb]at hc
   have HC:=Lib.hid hc
   have HB:=Lib.hid hb
   clear hb hc
   cases b with
   |true=>
    go_wp2_with fail
    refine(HC.out).mono ?_
    rintro e w7 ⟨rfl,hm7⟩
    have HM7:Hid (Mk (kN n lv la lc S g) w0 P s6 w7):=Lib.hid (by obtain⟨m,rfl⟩:=hm7;exact mk_drew HM6.out m)
    clear hm7
    go_wp2_with fail
    refine(HPP.out _ _ HM7.out ⟨by omega,by omega⟩).mono ?_
    rintro e w8 ⟨rfl,s8,he8,hM8⟩
    have HM8:=Lib.hid hM8
    have HE8:=Lib.hid he8
    have ha8:=he8.kp.a
    have hp8:=potle he8 (by rfl) (c:=2) (of_decide_eq_true (by rfl))
    clear hM8 he8
    go_wp2
    go_roundw
    case rel=>exact⟨_,HM8.out,by omega,by omega,fun s' he=>HK.out s' (.go HB3.out (.seq .adv (.seq HE6.out (.yes HB.out HE8.out))) rfl .skip he)⟩
    case measure=>
     have e1:=atQ_of HM8.out
     have e2:=atQ_of HMR.out
     have:=isS_le (lv:=lv) HB3.out (by decide)
     have hmm:=HM8.out.ale
     change s8.a≤n at hmm
     rw [e1,e2]
     omega
   |false=>
    go_wp2_with fail
    refine(HC.out).mono ?_
    rintro e w7 ⟨rfl,hm7⟩
    have HM7:Hid (Mk (kN n lv la lc S g) w0 P s6 w7):=Lib.hid (by obtain⟨m,rfl⟩:=hm7;exact mk_drew HM6.out m)
    clear hm7
    go_wp2_with fail
    refine(HMI.out _ _ HM7.out (pot_lenN HM7.out (by omega))).mono ?_
    rintro e w8 ⟨rfl,s8,he8,hM8⟩
    have HM8:=Lib.hid hM8
    have HE8:=Lib.hid he8
    have ha8:=he8.kp.a
    have hp8:=potle he8 (by rfl) (c:=1) (of_decide_eq_true (by rfl))
    clear hM8 he8
    go_wp2
    go_roundw
    case rel=>exact⟨_,HM8.out,by omega,by omega,fun s' he=>HK.out s' (.go HB3.out (.seq .adv (.seq HE6.out (.no HB.out HE8.out))) rfl .skip he)⟩
    case measure=>
     have e1:=atQ_of HM8.out
     have e2:=atQ_of HMR.out
     have:=isS_le (lv:=lv) HB3.out (by decide)
     have hmm:=HM8.out.ale
     change s8.a≤n at hmm
     rw [e1,e2]
     omega
  |false=>
   go_wp2_with fail
   refine(HC3.out).mono ?_
   rintro e w4 ⟨rfl,hm4⟩
   have HM4:Hid (Mk (kN n lv la lc S g) w0 P r w4):=Lib.hid (by obtain⟨m,rfl⟩:=hm4;exact mk_drew HMR.out m)
   clear hm4
   have HE4:=Lib.hid (HK.out _ (.stop HB3.out))
   have HEV5:Hid (Ev n lv (andbP n lv) (bgn 3 false s) r):=Lib.hid (.seq HE2.out HE4.out)
   go_wp2_with fail
   refine(end_any (k:=3) (s:=s) HEV5.out HM4.out (fun h=>absurd h (by decide))).mono ?_
   rintro e w5 ⟨rfl,hM5⟩
   have HM5:=Lib.hid hM5
   clear hM5
   go_wp2
   go_end0
   exact⟨rfl,_,.node HEV5.out,HM5.out⟩
set_option maxHeartbeats 16000000 in
set_option maxRecDepth 100000 in
theorem listN_any (hS:Hid (SgS n lv S)) {a0:Nat} (HL:LstN n lv la lc S g a0):Does (kN n lv la lc S g) w0 P 34 #[.pointer (some ⟨g,0,none⟩)] (listP n lv) (fun s=>a0≤s.a∧pot s≤10):=by
 intro w s hM ⟨ha,hp⟩
 have HPT:=Lib.hid (fun w s (h:Mk (kN n lv la lc S g) w0 P s w)=>pipN_any hS.out w0 P w s h)
 have HAN:=Lib.hid (andorN_any (w0:=w0) (P:=P) hS HL)
 have HM:=Lib.hid hM
 clear hM
 go_enter Tryz.func34,Tryz.ntmps34
 go_wp2_with fail
 refine(begin_any 2 HM.out (pot_lenN HM.out (by omega)) (fun h=>absurd h (by decide))).mono ?_
 rintro e w1 ⟨rfl,hM1⟩
 have HM1:Hid (Mk (kN n lv la lc S g) w0 P (bgn 2 false s) w1):=Lib.hid hM1
 have hp1:=pot_bgn 2 false s
 have ha1:(bgn 2 false s).a=s.a:=rfl
 clear hM1
 go_wp2_with fail
 refine(HAN.out _ _ HM1.out ⟨by omega,by omega⟩).mono ?_
 rintro e w2 ⟨rfl,s2,he2,hM2⟩
 have HM2:=Lib.hid hM2
 have HE2:=Lib.hid he2
 have ha2:=he2.kp.a
 have hp2:=potle he2 (by rfl) (c:=3) (of_decide_eq_true (by rfl))
 clear hM2 he2
 go_wp2
 go_loopw [] (fun wr=>Rl (kN n lv la lc S g) w0 P (.rep (isS n lv [59,38,110]) (.seq .adv (nlsP n lv)) (pipT n lv) (andP n lv)) s2 14 wr) (fun wr=>n+1 - atQ g wr)
 case atStart=>exact⟨s2,HM2.out,by omega,Nat.le_refl _,fun _ h=>h⟩
 case round=>
  obtain⟨r,hMr,hpr,har,hk⟩:=hrel
  have HK:=Lib.hid hk
  have HMR:=Lib.hid hMr
  clear hk hMr
  obtain⟨b3,hb3⟩:∃b,isS n lv [59,38] r=b:=⟨_,rfl⟩
  have HC3:=Lib.hid (next_any hS.out ⟨#[59,38]⟩ [59,38] (by decide+kernel) HMR.out b3 hb3)
  have HB3:=Lib.hid hb3
  clear hb3
  cases b3 with
  |true=>
   have h2:isS n lv [59,38,110] r=true:=by
    have:=HB3.out
    unfold isS at this ⊢
    simp only [List.contains_cons,List.contains_nil,Bool.or_false]at this ⊢
    rw [←Bool.or_assoc,this,Bool.true_or]
   have H2:=Lib.hid h2
   clear h2
   go_wp2_with fail
   refine(HC3.out).mono ?_
   rintro e w4 ⟨rfl,hm4⟩
   have HM4:Hid (Mk (kN n lv la lc S g) w0 P r w4):=Lib.hid (by obtain⟨m,rfl⟩:=hm4;exact mk_drew HMR.out m)
   clear hm4
   obtain⟨ap5,ax5,e3_5,f3_5,hw5,hM5⟩:=adv_all HM4.out (isS_le (lv:=lv) HB3.out (by decide))
   have HM5:=Lib.hid hM5
   clear hM5
   have hp5:=pot_nxt r
   have ha5:(nxt r).a=r.a+1:=rfl
   obtain⟨z6,hz6⟩:∃z,isS n lv [110] (nxt r)=z:=⟨_,rfl⟩
   have HZ6:=Lib.hid (linesN_any hS HM5.out z6 hz6)
   have HZB6:=Lib.hid hz6
   clear hz6
   go_wp2_with fail
   refine HZ6.out.mono ?_
   rintro e w6 ⟨m6,rfl,hmz6,s6,he6,hM6⟩
   have HM6:=Lib.hid hM6
   have HE6:=Lib.hid he6
   have HMZ6:=Lib.hid hmz6
   have ha6:=he6.kp.a
   have hp6:=potle he6 (by rfl) (c:=0) (of_decide_eq_true (by rfl))
   clear hM6 he6 hmz6
   have hr6:r.a<s6.a:=by omega
   have HEV:Hid (Ev n lv (.seq .adv (nlsP n lv)) r s6):=Lib.hid (.seq .adv HE6.out)
   obtain⟨b,hb⟩:∃b,pipT n lv s6=b:=⟨_,rfl⟩
   have hc:=HPT.out _ _ HM6.out
   rw [hb]at hc
   have HC:=Lib.hid hc
   have HB:=Lib.hid hb
   clear hb hc
   cases b with
   |false=>
    go_wp2_with fail
    refine(HC.out).mono ?_
    rintro e w7 ⟨rfl,hm7⟩
    have HM7:Hid (Mk (kN n lv la lc S g) w0 P s6 w7):=Lib.hid (by obtain⟨m,rfl⟩:=hm7;exact mk_drew HM6.out m)
    clear hm7
    have HE8:=Lib.hid (HK.out _ (.out H2.out HEV.out HB.out))
    have HEV9:Hid (Ev n lv (lsbP n lv) (bgn 2 false s) s6):=Lib.hid (.seq HE2.out HE8.out)
    go_wp2_with fail
    refine(end_any (k:=2) (s:=s) HEV9.out HM7.out (fun h=>absurd h (by decide))).mono ?_
    rintro e w9 ⟨rfl,hM9⟩
    have HM9:=Lib.hid hM9
    clear hM9
    go_wp2
    try rw [Exit.noGoto_normal]
    go_end0
    exact⟨rfl,_,.node HEV9.out,HM9.out⟩
   |true=>
    go_wp2_with fail
    refine(HC.out).mono ?_
    rintro e w7 ⟨rfl,hm7⟩
    have HM7:Hid (Mk (kN n lv la lc S g) w0 P s6 w7):=Lib.hid (by obtain⟨m,rfl⟩:=hm7;exact mk_drew HM6.out m)
    clear hm7
    go_wp2_with fail
    refine(HAN.out _ _ HM7.out ⟨by omega,by omega⟩).mono ?_
    rintro e w8 ⟨rfl,s8,he8,hM8⟩
    have HM8:=Lib.hid hM8
    have HE8:=Lib.hid he8
    have ha8:=he8.kp.a
    have hp8:=potle he8 (by rfl) (c:=3) (of_decide_eq_true (by rfl))
    clear hM8 he8
    go_wp2
    go_roundw
    case rel=>exact⟨_,HM8.out,by omega,by omega,fun s' he=>HK.out s' (.go H2.out HEV.out HB.out HE8.out he)⟩
    case measure=>
     have e1:=atQ_of HM8.out
     have e2:=atQ_of HMR.out
     have:=hr6
     have hmm:=HM8.out.ale
     change s8.a≤n at hmm
     rw [e1,e2]
     omega
  |false=>
   go_wp2_with fail
   refine(HC3.out).mono ?_
   rintro e w4 ⟨rfl,hm4⟩
   have HM4:Hid (Mk (kN n lv la lc S g) w0 P r w4):=Lib.hid (by obtain⟨m,rfl⟩:=hm4;exact mk_drew HMR.out m)
   clear hm4
   obtain⟨z6,hz6⟩:∃z,isS n lv [110] r=z:=⟨_,rfl⟩
   have HZ6:=Lib.hid (linesN_any hS HM4.out z6 hz6)
   have HZB6:=Lib.hid hz6
   clear hz6
   go_wp2_with fail
   refine HZ6.out.mono ?_
   rintro e w6 ⟨m6,rfl,hmz6,s6,he6,hM6⟩
   have HM6:=Lib.hid hM6
   have HE6:=Lib.hid he6
   have HMZ6:=Lib.hid hmz6
   have ha6:=he6.kp.a
   have hp6:=potle he6 (by rfl) (c:=0) (of_decide_eq_true (by rfl))
   clear hM6 he6 hmz6
   have hz6:=HZB6.out
   have h2:isS n lv [59,38,110] r=z6:=by
    have:=HB3.out
    unfold isS at this hz6 ⊢
    simp only [List.contains_cons,List.contains_nil,Bool.or_false]at this hz6 ⊢
    rw [←Bool.or_assoc,this,hz6,Bool.false_or]
   have H2:=Lib.hid h2
   clear h2 hz6
   rcases HMZ6.out with⟨e1,e2⟩|⟨e1,e2⟩
   ·subst e1
    subst e2
    have hs6:s6=r:=nls_no HE6.out HZB6.out
    subst hs6
    have HE8:=Lib.hid (HK.out _ (.stop H2.out))
    have HEV9:Hid (Ev n lv (lsbP n lv) (bgn 2 false s) s6):=Lib.hid (.seq HE2.out HE8.out)
    go_wp2_with fail
    refine(end_any (k:=2) (s:=s) HEV9.out HM6.out (fun h=>absurd h (by decide))).mono ?_
    rintro e w9 ⟨rfl,hM9⟩
    have HM9:=Lib.hid hM9
    clear hM9
    go_wp2
    try rw [Exit.noGoto_normal]
    go_end0
    exact⟨rfl,_,.node HEV9.out,HM9.out⟩
   ·subst e2
    have m1:((m6:Int)==0)=false:=by simp;omega
    have HEV:Hid (Ev n lv (.seq .adv (nlsP n lv)) r s6):=Lib.hid (nls_go HE6.out HZB6.out)
    have hr6:r.a<s6.a:=by
     cases HEV.out with
     |seq h1 h2=>
      cases h1
      exact h2.kp.a
    have hp6b:=potle HEV.out (by rfl) (c:= -30) (of_decide_eq_true (by rfl))
    obtain⟨b,hb⟩:∃b,pipT n lv s6=b:=⟨_,rfl⟩
    have hc:=HPT.out _ _ HM6.out
    rw [hb]at hc
    have HC:=Lib.hid hc
    have HB:=Lib.hid hb
    clear hb hc
    cases b with
    |false=>
     go_wp2_with fail
     refine(HC.out).mono ?_
     rintro e w7 ⟨rfl,hm7⟩
     have HM7:Hid (Mk (kN n lv la lc S g) w0 P s6 w7):=Lib.hid (by obtain⟨m,rfl⟩:=hm7;exact mk_drew HM6.out m)
     clear hm7
     have HE8:=Lib.hid (HK.out _ (.out H2.out HEV.out HB.out))
     have HEV9:Hid (Ev n lv (lsbP n lv) (bgn 2 false s) s6):=Lib.hid (.seq HE2.out HE8.out)
     go_wp2_with fail
     refine(end_any (k:=2) (s:=s) HEV9.out HM7.out (fun h=>absurd h (by decide))).mono ?_
     rintro e w9 ⟨rfl,hM9⟩
     have HM9:=Lib.hid hM9
     clear hM9
     go_wp2
     try rw [Exit.noGoto_normal]
     go_end0
     exact⟨rfl,_,.node HEV9.out,HM9.out⟩
    |true=>
     go_wp2_with fail
     refine(HC.out).mono ?_
     rintro e w7 ⟨rfl,hm7⟩
     have HM7:Hid (Mk (kN n lv la lc S g) w0 P s6 w7):=Lib.hid (by obtain⟨m,rfl⟩:=hm7;exact mk_drew HM6.out m)
     clear hm7
     go_wp2_with fail
     refine(HAN.out _ _ HM7.out ⟨by omega,by omega⟩).mono ?_
     rintro e w8 ⟨rfl,s8,he8,hM8⟩
     have HM8:=Lib.hid hM8
     have HE8:=Lib.hid he8
     have ha8:=he8.kp.a
     have hp8:=potle he8 (by rfl) (c:=3) (of_decide_eq_true (by rfl))
     clear hM8 he8
     go_wp2
     go_roundw
     case rel=>exact⟨_,HM8.out,by omega,by omega,fun s' he=>HK.out s' (.go H2.out HEV.out HB.out HE8.out he)⟩
     case measure=>
      have e1:=atQ_of HM8.out
      have e2:=atQ_of HMR.out
      have:=hr6
      have hmm:=HM8.out.ale
      change s8.a≤n at hmm
      rw [e1,e2]
      omega
theorem lstN_ok (hS:Hid (SgS n lv S)) (a0:Nat):LstN n lv la lc S g a0:=by
 obtain⟨m,hm⟩:∃m,n - a0=m:=⟨_,rfl⟩
 induction m using Nat.strongRecOn generalizing a0 with
 |_ m ih=>
  intro w0 P w s hM ⟨ha,hp,hq⟩
  have hn:=pip_le hp
  have hs:LstN n lv la lc S g s.a:=ih (n - s.a) (by omega) s.a rfl
  exact listN_any hS hs w s hM ⟨Nat.le_refl _,hq⟩
end
end Go.Proofs.YtkolpaonccmgiaaGreatDoor.Q

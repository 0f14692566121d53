/- What the document's own cases of layer 13 (parse) leave. Condition: at most 10,000 leaves. -/
import Derived.Test.YtkolpaonccmgiaaGreatDoorPbL
set_option linter.unusedVariables false
namespace Go.Proofs.YtkolpaonccmgiaaGreatDoor.Q
open Go.RowKit
section
variable {n:Nat} {lv:Nat→Lf} {la:Option Addr} {lc g:Nat} {S:ByteArray} {w0:World} {P:Nat→Prop}
def boV:Value→Nat
 | .bool true=>1
 |_=>0
def CsRl (n:Nat) (lv:Nat→Lf) (la:Option Addr) (lc:Nat) (S:ByteArray) (g:Nat) (w0:World) (P:Nat→Prop) (s:PS) (v:Value) (wr:World):Prop:=
 ∃(mo:Bool) (r:PS),v=.bool mo∧Mk (kN n lv la lc S g) w0 P r wr∧pot r≤(cond mo 2 15)∧s.a≤r.a∧(mo=true→∀s',Ev n lv (itmsP n lv) r s'→Ev n lv (itmsP n lv) s s')∧(mo=false→Ev n lv (itmsP n lv) s r)
theorem itm40 {s:PS} (h:isS n lv [40] s=true):itmT n lv s=true:=by
 unfold itmT
 unfold isS at h
 simp only [List.contains_cons,List.contains_nil,Bool.or_false]at h
 rw [h,Bool.true_or]
theorem itm_of {s:PS} (h:isS n lv [40] s=false) (y z:Bool) (hy:wrdT n lv s=y) (hz:isS n lv [122] s=z):itmT n lv s=(y && !z):=by
 unfold itmT
 unfold isS at h hz
 simp only [List.contains_cons,List.contains_nil,Bool.or_false]at h hz
 rw [h,hy,hz,Bool.false_or]
set_option maxHeartbeats 16000000 in
set_option maxRecDepth 100000 in
theorem casesN_any (hS:Hid (SgS n lv S)) {a0:Nat} (HL:LstN n lv la lc S g a0):Does (kN n lv la lc S g) w0 P 155 #[.pointer (some ⟨g,0,none⟩)] (casP n lv) (fun s=>a0<s.a∧pot s≤0):=by
 intro w s hM ⟨ha,hp⟩
 have HWN:=Lib.hid (wordN_any (n:=n) (lv:=lv) (la:=la) (lc:=lc) (S:=S) (g:=g) (w0:=w0) (P:=P) hS)
 have HPT:=Lib.hid (fun w s (h:Mk (kN n lv la lc S g) w0 P s w)=>pipN_any hS.out w0 P w s h)
 have HLL:=Lib.hid (HL w0 P)
 have HWk:=Lib.hid (wantN_any (n:=n) (lv:=lv) (la:=la) (lc:=lc) (S:=S) (g:=g) (w0:=w0) (P:=P) hS ⟨#[107]⟩ 107 (by decide+kernel))
 have HWz:=Lib.hid (wantN_any (n:=n) (lv:=lv) (la:=la) (lc:=lc) (S:=S) (g:=g) (w0:=w0) (P:=P) hS ⟨#[122]⟩ 122 (by decide+kernel))
 have HWp:=Lib.hid (wantN_any (n:=n) (lv:=lv) (la:=la) (lc:=lc) (S:=S) (g:=g) (w0:=w0) (P:=P) hS ⟨#[41]⟩ 41 (by decide+kernel))
 have HM:=Lib.hid hM
 clear hM
 go_enter Tryz.func155,Tryz.ntmps155
 go_wp2_with fail
 refine(HWN.out _ _ HM.out (by omega)).mono ?_
 rintro e w1 ⟨rfl,s1,he1,hM1⟩
 have HM1:=Lib.hid hM1
 have HE1:=Lib.hid he1
 have ha1:=he1.kp.a
 have hp1:=potle he1 (by rfl) (c:=1) (of_decide_eq_true (by rfl))
 clear hM1 he1
 obtain⟨z2,hz2⟩:∃z,isS n lv [110] s1=z:=⟨_,rfl⟩
 have HZ2:=Lib.hid (linesN_any hS HM1.out z2 hz2)
 have HZB2:=Lib.hid hz2
 clear hz2
 go_wp2_with fail
 refine HZ2.out.mono ?_
 rintro e w2 ⟨m2,rfl,hmz2,s2,he2,hM2⟩
 have HM2:=Lib.hid hM2
 have HE2:=Lib.hid he2
 have HMZ2:=Lib.hid hmz2
 have ha2:=he2.kp.a
 have hp2:=potle he2 (by rfl) (c:=0) (of_decide_eq_true (by rfl))
 clear hM2 he2 hmz2
 go_wp2_with fail
 refine(HWk.out _ _ HM2.out (pot_lenN HM2.out (by omega))).mono ?_
 rintro e w3 ⟨rfl,s3,he3,hM3⟩
 have HM3:=Lib.hid hM3
 have HE3:=Lib.hid he3
 have ha3:=he3.kp.a
 have hp3:=potle he3 (by rfl) (c:=1) (of_decide_eq_true (by rfl))
 clear hM3 he3
 obtain⟨z4,hz4⟩:∃z,isS n lv [110] s3=z:=⟨_,rfl⟩
 have HZ4:=Lib.hid (linesN_any hS HM3.out z4 hz4)
 have HZB4:=Lib.hid hz4
 clear hz4
 go_wp2_with fail
 refine HZ4.out.mono ?_
 rintro e w4 ⟨m4,rfl,hmz4,s4,he4,hM4⟩
 have HM4:=Lib.hid hM4
 have HE4:=Lib.hid he4
 have HMZ4:=Lib.hid hmz4
 have ha4:=he4.kp.a
 have hp4:=potle he4 (by rfl) (c:=0) (of_decide_eq_true (by rfl))
 clear hM4 he4 hmz4
 go_wp2
 go_loopw [2] (fun v wr=>CsRl n lv la lc S g w0 P s4 v wr) (fun v wr=>2*(n+1 - atQ g wr)+boV v)
 case atStart=>exact⟨true,s4,rfl,HM4.out,by show pot s4≤2;omega,Nat.le_refl _,fun _ _ h=>h,fun h=>by cases h⟩
 case round=>
  obtain⟨mo,r,rfl,hMr,hpr,har,hk1,hk2⟩:=hrel
  have HMR0:=Lib.hid hMr
  have HK1:=Lib.hid hk1
  have HK2:=Lib.hid hk2
  clear hMr hk1 hk2
  obtain⟨y5,hy5⟩:∃y,(mo && itmT n lv r)=y:=⟨_,rfl⟩
  have HY5:=Lib.hid hy5
  have c0_5:=now_F HMR0.out
  have c3_5:=(now_at HMR0.out).1
  go_wp2
  go_cut [47]from 12 to 48 (fun v wx=>v=.bool y5∧Mk (kN n lv la lc S g) w0 P r wx)
  case first=>
   cases mo with
   |false=>
    obtain rfl:y5=false:=by rw [←hy5];rfl
    clear hy5
    go_wp2
    go_quiet (fail)
    have HMQ5:=Lib.hid (mk_drew HMR0.out nq)
    go_wp2_with fail
    go_meet
    case rel=>exact⟨rfl,HMQ5.out⟩
   |true=>
    rw [Bool.true_and]at hy5
    have HNa:=Lib.hid (fun m b (hb:isS n lv [40] r=b)=>next_any hS.out ⟨#[40]⟩ [40] (by decide+kernel) (mk_drew HMR0.out m) b hb)
    have HNz:=Lib.hid (fun m b (hb:isS n lv [122] r=b)=>next_any hS.out ⟨#[122]⟩ [122] (by decide+kernel) (mk_drew HMR0.out m) b hb)
    obtain⟨b40,hb40⟩:∃b,isS n lv [40] r=b:=⟨_,rfl⟩
    have H40:=Lib.hid (fun m=>HNa.out m b40 hb40)
    cases b40 with
    |true=>
     obtain rfl:y5=true:=by rw [←hy5];exact itm40 hb40
     clear HNa HNz hb40 hy5
     go_wp2
     go_quiet (exact Calls.quiet_of (H40.out _))
     have HMQ5:=Lib.hid (mk_drew HMR0.out nq)
     go_wp2_with fail
     go_meet
     case rel=>exact⟨rfl,HMQ5.out⟩
    |false=>
     obtain⟨z,hz⟩:∃z,isS n lv [122] r=z:=⟨_,rfl⟩
     have HZZ:=Lib.hid (fun m=>HNz.out m z hz)
     have hit:=fun y hy=>itm_of (lv:=lv) hb40 y z hy hz
     have HIT:=Lib.hid hit
     clear HNa HNz hb40 hz hit
     by_cases hlt5:r.a<n
     ·obtain⟨lb,lo,hla5,k0_5,k1_5⟩:=leafN HMR0.out hlt5
      have hsz5:=lf_small HMR0.out.st.sml r.a
      change(lfA n lv r.a).s.size≤100 at hsz5
      obtain⟨a5,haa5⟩:∃a,r.a=a:=⟨_,rfl⟩
      obtain⟨k5,hkk5⟩:∃k,(lfA n lv r.a).k=k:=⟨_,rfl⟩
      obtain⟨t5,htt5⟩:∃t,(lfA n lv r.a).s=t:=⟨_,rfl⟩
      have hyw5:wrdT n lv r=decide (k5=6):=by unfold wrdT;rw [hkk5]
      have hyn5:namT n lv r=(decide (k5=6)&& isNm t5):=by unfold namT;rw [hyw5,htt5]
      rw [hkk5]at k0_5
      rw [htt5]at k1_5 hsz5
      rw [haa5]at c3_5 k0_5 k1_5
      rw [hla5]at c0_5
      have q0_5:(0:Int)≤(a5:Int):=by omega
      have q1_5:(a5:Int)<(n:Int):=by omega
      have q2_5:decide (a5<n)=true:=by simp;omega
      have q3_5:decide ((a5:Int)<(n:Int))=true:=decide_eq_true q1_5
      clear hkk5 htt5 hla5 haa5
      rw [HIT.out _ hyw5]at hy5
      clear hyn5 hyw5 hsz5 k1_5
      by_cases h6_5:k5=6
      ·rw [decide_eq_true h6_5,Bool.true_and]at hy5
       subst h6_5
       cases z with
       |true=>
        obtain rfl:y5=false:=by rw [←hy5];rfl
        clear hy5
        go_wp2
        go_quiet (first|with_reducible exact Calls.quiet_of (H40.out _)|with_reducible exact Calls.quiet_of (HZZ.out _))
        have HMQ5:=Lib.hid (mk_drew HMR0.out nq)
        go_wp2_with fail
        go_meet
        case rel=>exact⟨rfl,HMQ5.out⟩
       |false=>
        obtain rfl:y5=true:=by rw [←hy5];rfl
        clear hy5
        go_wp2
        go_quiet (first|with_reducible exact Calls.quiet_of (H40.out _)|with_reducible exact Calls.quiet_of (HZZ.out _))
        have HMQ5:=Lib.hid (mk_drew HMR0.out nq)
        go_wp2_with fail
        go_meet
        case rel=>exact⟨rfl,HMQ5.out⟩
      ·obtain rfl:y5=false:=by rw [←hy5,decide_eq_false h6_5];rfl
       have u6_5:(k5==6)=false:=by simpa using h6_5
       clear hy5 h6_5
       go_wp2
       go_quiet (exact Calls.quiet_of (H40.out _))
       have HMQ5:=Lib.hid (mk_drew HMR0.out nq)
       go_wp2_with fail
       go_meet
       case rel=>exact⟨rfl,HMQ5.out⟩
     ·have hw0:wrdT n lv r=false:=by
       cases e:wrdT n lv r with
       |false=>rfl
       |true=>have:=wrd_le e;omega
      obtain rfl:y5=false:=by rw [←hy5,HIT.out _ hw0];rfl
      obtain⟨a5,haa5⟩:∃a,r.a=a:=⟨_,rfl⟩
      rw [haa5]at c3_5
      have q1_5:¬(a5:Int)<(n:Int):=by omega
      have q2_5:decide (a5<n)=false:=by simp;omega
      have q3_5:decide ((a5:Int)<(n:Int))=false:=decide_eq_false q1_5
      clear haa5 hy5 hw0
      go_wp2
      go_quiet (exact Calls.quiet_of (H40.out _))
      have HMQ5:=Lib.hid (mk_drew HMR0.out nq)
      go_wp2_with fail
      go_meet
      case rel=>exact⟨rfl,HMQ5.out⟩
  case rest=>
   obtain⟨rfl,hMc5⟩:=hcut
   have HMQ5:=Lib.hid hMc5
   clear c0_5 c3_5 hMc5 hy5
   obtain⟨wq5,hwq5⟩:∃W,W=wc:=⟨_,rfl⟩
   rw [←hwq5]at HMQ5 ⊢
   clear hwq5
   cases y5 with
   |true=>
    obtain⟨rfl,hI⟩:mo=true∧itmT n lv r=true:=by have:=HY5.out;rwa [Bool.and_eq_true]at this
    have HI:=Lib.hid hI
    change pot r≤2 at hpr
    clear hI
    go_wp2_with fail
    refine(begin_any 15 HMQ5.out (pot_lenN HMQ5.out (by omega)) (fun h=>absurd h (by decide))).mono ?_
    rintro e w6 ⟨rfl,hM6⟩
    have HM6:Hid (Mk (kN n lv la lc S g) w0 P (bgn 15 false r) w6):=Lib.hid hM6
    have hp6:=pot_bgn 15 false r
    have ha6:(bgn 15 false r).a=r.a:=rfl
    clear hM6
    obtain⟨b7,hb7⟩:∃b,isS n lv [40] (bgn 15 false r)=b:=⟨_,rfl⟩
    have HC7:=Lib.hid (next_any hS.out ⟨#[40]⟩ [40] (by decide+kernel) HM6.out b7 hb7)
    have HB7:=Lib.hid hb7
    clear hb7
    cases b7 with
    |true=>
     go_wp2_with fail
     refine(HC7.out).mono ?_
     rintro e w6 ⟨rfl,hm6⟩
     have HM6x:Hid (Mk (kN n lv la lc S g) w0 P (bgn 15 false r) w6):=Lib.hid (by obtain⟨m,rfl⟩:=hm6;exact mk_drew HM6.out m)
     clear hm6
     obtain⟨ap7,ax7,e3_7,f3_7,hw7,hM7⟩:=adv_all HM6x.out (isS_le (lv:=lv) HB7.out (by decide))
     have HM7:=Lib.hid hM7
     clear hM7
     have hp7:=pot_nxt (bgn 15 false r)
     have ha7:(nxt (bgn 15 false r)).a=(bgn 15 false r).a+1:=rfl
     go_wp2_with fail
     refine(HWN.out _ _ HM7.out (by omega)).mono ?_
     rintro e w8 ⟨rfl,s8,he8,hM8⟩
     have HM8:=Lib.hid hM8
     have HE8:=Lib.hid he8
     have ha8:=he8.kp.a
     have hp8:=potle he8 (by rfl) (c:=1) (of_decide_eq_true (by rfl))
     clear hM8 he8
     go_wp2
     go_loopw [] (fun wr=>Rl (kN n lv la lc S g) w0 P (.rep (isS n lv [124]) (.seq .adv (wonP n lv)) yesT .skip) s8 6 wr) (fun wr=>n+1 - atQ g wr)
     case atStart=>exact⟨s8,HM8.out,by omega,Nat.le_refl _,fun _ h=>h⟩
     case round=>
      obtain⟨q,hMq,hpq,haq,hkq⟩:=hrel
      have HKQ:=Lib.hid hkq
      have HMR:=Lib.hid hMq
      clear hkq hMq
      obtain⟨b9,hb9⟩:∃b,isS n lv [124] q=b:=⟨_,rfl⟩
      have HC9:=Lib.hid (next_any hS.out ⟨#[124]⟩ [124] (by decide+kernel) HMR.out b9 hb9)
      have HB9:=Lib.hid hb9
      clear hb9
      cases b9 with
      |true=>
       go_wp2_with fail
       refine(HC9.out).mono ?_
       rintro e w9 ⟨rfl,hm9⟩
       have HM9:Hid (Mk (kN n lv la lc S g) w0 P q w9):=Lib.hid (by obtain⟨m,rfl⟩:=hm9;exact mk_drew HMR.out m)
       clear hm9
       obtain⟨ap10,ax10,e3_10,f3_10,hw10,hM10⟩:=adv_all HM9.out (isS_le (lv:=lv) HB9.out (by decide))
       have HM10:=Lib.hid hM10
       clear hM10
       have hp10:=pot_nxt q
       have ha10:(nxt q).a=q.a+1:=rfl
       go_wp2_with fail
       refine(HWN.out _ _ HM10.out (by omega)).mono ?_
       rintro e w11 ⟨rfl,s11,he11,hM11⟩
       have HM11:=Lib.hid hM11
       have HE11:=Lib.hid he11
       have ha11:=he11.kp.a
       have hp11:=potle he11 (by rfl) (c:=1) (of_decide_eq_true (by rfl))
       clear hM11 he11
       go_wp2
       go_roundw
       case rel=>exact⟨_,HM11.out,by omega,by omega,fun s' he=>HKQ.out s' (.go HB9.out (.seq .adv HE11.out) rfl .skip he)⟩
       case measure=>
        have e1:=atQ_of HM11.out
        have e2:=atQ_of HMR.out
        have:=isS_le (lv:=lv) HB9.out (by decide)
        have hmm:=HM11.out.ale
        change s11.a≤n at hmm
        rw [e1,e2]
        omega
      |false=>
       go_wp2_with fail
       refine(HC9.out).mono ?_
       rintro e w9 ⟨rfl,hm9⟩
       have HM9:Hid (Mk (kN n lv la lc S g) w0 P q w9):=Lib.hid (by obtain⟨m,rfl⟩:=hm9;exact mk_drew HMR.out m)
       clear hm9
       have HE9:=Lib.hid (HKQ.out _ (.stop HB9.out))
       go_wp2_with fail
       refine(HWp.out _ _ HM9.out (pot_lenN HM9.out (by omega))).mono ?_
       rintro e w10 ⟨rfl,s10,he10,hM10⟩
       have HM10:=Lib.hid hM10
       have HE10:=Lib.hid he10
       have ha10:=he10.kp.a
       have hp10:=potle he10 (by rfl) (c:=1) (of_decide_eq_true (by rfl))
       clear hM10 he10
       obtain⟨z11,hz11⟩:∃z,isS n lv [110] s10=z:=⟨_,rfl⟩
       have HZ11:=Lib.hid (linesN_any hS HM10.out z11 hz11)
       have HZB11:=Lib.hid hz11
       clear hz11
       go_wp2_with fail
       refine HZ11.out.mono ?_
       rintro e w11 ⟨m11,rfl,hmz11,s11,he11,hM11⟩
       have HM11:=Lib.hid hM11
       have HE11:=Lib.hid he11
       have HMZ11:=Lib.hid hmz11
       have ha11:=he11.kp.a
       have hp11:=potle he11 (by rfl) (c:=0) (of_decide_eq_true (by rfl))
       clear hM11 he11 hmz11
       obtain⟨b,hb⟩:∃b,pipT n lv s11=b:=⟨_,rfl⟩
       have hc:=HPT.out _ _ HM11.out
       rw [hb]at hc
       have HC:=Lib.hid hc
       have HB:=Lib.hid hb
       clear hb hc
       cases b with
       |true=>
        go_wp2_with fail
        refine(HC.out).mono ?_
        rintro e w12 ⟨rfl,hm12⟩
        have HM12:Hid (Mk (kN n lv la lc S g) w0 P s11 w12):=Lib.hid (by obtain⟨m,rfl⟩:=hm12;exact mk_drew HM11.out m)
        clear hm12
        go_wp2_with fail
        refine(HLL.out _ _ HM12.out ⟨by omega,HB.out,by omega⟩).mono ?_
        rintro e w13 ⟨rfl,s13,he13,hM13⟩
        have HM13:=Lib.hid hM13
        have HE13:=Lib.hid he13
        have ha13:=he13.kp.a
        have hp13:=potle he13 (by rfl) (c:=4) (of_decide_eq_true (by rfl))
        clear hM13 he13
        have HEV14:Hid (Ev n lv (itemP n lv) (bgn 15 false r) s13):=Lib.hid (.seq (.yes HB7.out .adv) (.seq HE8.out (.seq HE9.out (.seq HE10.out (.seq HE11.out (.yes HB.out (.lst HE13.out)))))))
        go_wp2_with fail
        refine(end_any (k:=15) (s:=r) HEV14.out HM13.out (fun h=>absurd h (by decide))).mono ?_
        rintro e w14 ⟨rfl,hM14⟩
        have HM14:=Lib.hid hM14
        clear hM14
        have hpf:pot (fin 15 r s13)=pot s13:=by simp only [pot,fin,List.length_set]
        have haf:(fin 15 r s13).a=s13.a:=rfl
        obtain⟨b15,hb15⟩:∃b,isS n lv [121] (fin 15 r s13)=b:=⟨_,rfl⟩
        have HC15:=Lib.hid (next_any hS.out ⟨#[121]⟩ [121] (by decide+kernel) HM14.out b15 hb15)
        have HB15:=Lib.hid hb15
        clear hb15
        cases b15 with
        |false=>
         go_wp2_with fail
         refine(HC15.out).mono ?_
         rintro e w16 ⟨rfl,hm16⟩
         have HM16:Hid (Mk (kN n lv la lc S g) w0 P (fin 15 r s13) w16):=Lib.hid (by obtain⟨m,rfl⟩:=hm16;exact mk_drew HM14.out m)
         clear hm16
         have HE16:=Lib.hid (HK1.out (by trivial) _ (.out HI.out (.node HEV14.out) HB15.out))
         go_wp2
         go_roundw
         case rel=>exact⟨false,_,rfl,HM16.out,by show pot _≤15;omega,by omega,(fun h=>by cases h),fun _=>HE16.out⟩
         case measure=>
          have e1:=atQ_of HM16.out
          have e2:=atQ_of HMR0.out
          simp only [boV]
          rw [e1,e2]
          omega
        |true=>
         go_wp2_with fail
         refine(HC15.out).mono ?_
         rintro e w16 ⟨rfl,hm16⟩
         have HM16:Hid (Mk (kN n lv la lc S g) w0 P (fin 15 r s13) w16):=Lib.hid (by obtain⟨m,rfl⟩:=hm16;exact mk_drew HM14.out m)
         clear hm16
         obtain⟨ap17,ax17,e3_17,f3_17,hw17,hM17⟩:=adv_all HM16.out (isS_le (lv:=lv) HB15.out (by decide))
         have HM17:=Lib.hid hM17
         clear hM17
         have hp17:=pot_nxt (fin 15 r s13)
         have ha17:(nxt (fin 15 r s13)).a=(fin 15 r s13).a+1:=rfl
         obtain⟨z18,hz18⟩:∃z,isS n lv [110] (nxt (fin 15 r s13))=z:=⟨_,rfl⟩
         have HZ18:=Lib.hid (linesN_any hS HM17.out z18 hz18)
         have HZB18:=Lib.hid hz18
         clear hz18
         go_wp2_with fail
         refine HZ18.out.mono ?_
         rintro e w18 ⟨m18,rfl,hmz18,s18,he18,hM18⟩
         have HM18:=Lib.hid hM18
         have HE18:=Lib.hid he18
         have HMZ18:=Lib.hid hmz18
         have ha18:=he18.kp.a
         have hp18:=potle he18 (by rfl) (c:=0) (of_decide_eq_true (by rfl))
         clear hM18 he18 hmz18
         go_wp2
         go_roundw
         case rel=>exact⟨true,_,rfl,HM18.out,by show pot _≤2;omega,by omega,fun _ s' he=>HK1.out (by trivial) s' (.go HI.out (.node HEV14.out) HB15.out (.seq .adv HE18.out) he),fun h=>by cases h⟩
         case measure=>
          have e1:=atQ_of HM18.out
          have e2:=atQ_of HMR0.out
          have:=isS_le (lv:=lv) HB15.out (by decide)
          simp only [boV]
          rw [e1,e2]
          omega
       |false=>
        go_wp2_with fail
        refine(HC.out).mono ?_
        rintro e w12 ⟨rfl,hm12⟩
        have HM12:Hid (Mk (kN n lv la lc S g) w0 P s11 w12):=Lib.hid (by obtain⟨m,rfl⟩:=hm12;exact mk_drew HM11.out m)
        clear hm12
        have HM13:=HM12
        have ha13:s11.a≤s11.a:=Nat.le_refl _
        have hp13:pot s11≤pot s11:=Int.le_refl _
        have HEV14:Hid (Ev n lv (itemP n lv) (bgn 15 false r) s11):=Lib.hid (.seq (.yes HB7.out .adv) (.seq HE8.out (.seq HE9.out (.seq HE10.out (.seq HE11.out (.no HB.out .skip))))))
        go_wp2_with fail
        refine(end_any (k:=15) (s:=r) HEV14.out HM13.out (fun h=>absurd h (by decide))).mono ?_
        rintro e w14 ⟨rfl,hM14⟩
        have HM14:=Lib.hid hM14
        clear hM14
        have hpf:pot (fin 15 r s11)=pot s11:=by simp only [pot,fin,List.length_set]
        have haf:(fin 15 r s11).a=s11.a:=rfl
        obtain⟨b15,hb15⟩:∃b,isS n lv [121] (fin 15 r s11)=b:=⟨_,rfl⟩
        have HC15:=Lib.hid (next_any hS.out ⟨#[121]⟩ [121] (by decide+kernel) HM14.out b15 hb15)
        have HB15:=Lib.hid hb15
        clear hb15
        cases b15 with
        |false=>
         go_wp2_with fail
         refine(HC15.out).mono ?_
         rintro e w16 ⟨rfl,hm16⟩
         have HM16:Hid (Mk (kN n lv la lc S g) w0 P (fin 15 r s11) w16):=Lib.hid (by obtain⟨m,rfl⟩:=hm16;exact mk_drew HM14.out m)
         clear hm16
         have HE16:=Lib.hid (HK1.out (by trivial) _ (.out HI.out (.node HEV14.out) HB15.out))
         go_wp2
         go_roundw
         case rel=>exact⟨false,_,rfl,HM16.out,by show pot _≤15;omega,by omega,(fun h=>by cases h),fun _=>HE16.out⟩
         case measure=>
          have e1:=atQ_of HM16.out
          have e2:=atQ_of HMR0.out
          simp only [boV]
          rw [e1,e2]
          omega
        |true=>
         go_wp2_with fail
         refine(HC15.out).mono ?_
         rintro e w16 ⟨rfl,hm16⟩
         have HM16:Hid (Mk (kN n lv la lc S g) w0 P (fin 15 r s11) w16):=Lib.hid (by obtain⟨m,rfl⟩:=hm16;exact mk_drew HM14.out m)
         clear hm16
         obtain⟨ap17,ax17,e3_17,f3_17,hw17,hM17⟩:=adv_all HM16.out (isS_le (lv:=lv) HB15.out (by decide))
         have HM17:=Lib.hid hM17
         clear hM17
         have hp17:=pot_nxt (fin 15 r s11)
         have ha17:(nxt (fin 15 r s11)).a=(fin 15 r s11).a+1:=rfl
         obtain⟨z18,hz18⟩:∃z,isS n lv [110] (nxt (fin 15 r s11))=z:=⟨_,rfl⟩
         have HZ18:=Lib.hid (linesN_any hS HM17.out z18 hz18)
         have HZB18:=Lib.hid hz18
         clear hz18
         go_wp2_with fail
         refine HZ18.out.mono ?_
         rintro e w18 ⟨m18,rfl,hmz18,s18,he18,hM18⟩
         have HM18:=Lib.hid hM18
         have HE18:=Lib.hid he18
         have HMZ18:=Lib.hid hmz18
         have ha18:=he18.kp.a
         have hp18:=potle he18 (by rfl) (c:=0) (of_decide_eq_true (by rfl))
         clear hM18 he18 hmz18
         go_wp2
         go_roundw
         case rel=>exact⟨true,_,rfl,HM18.out,by show pot _≤2;omega,by omega,fun _ s' he=>HK1.out (by trivial) s' (.go HI.out (.node HEV14.out) HB15.out (.seq .adv HE18.out) he),fun h=>by cases h⟩
         case measure=>
          have e1:=atQ_of HM18.out
          have e2:=atQ_of HMR0.out
          have:=isS_le (lv:=lv) HB15.out (by decide)
          simp only [boV]
          rw [e1,e2]
          omega
    |false=>
     go_wp2_with fail
     refine(HC7.out).mono ?_
     rintro e w7 ⟨rfl,hm7⟩
     have HM7:Hid (Mk (kN n lv la lc S g) w0 P (bgn 15 false r) w7):=Lib.hid (by obtain⟨m,rfl⟩:=hm7;exact mk_drew HM6.out m)
     clear hm7
     have hp7:pot (bgn 15 false r)≤pot (bgn 15 false r):=Int.le_refl _
     have ha7:(bgn 15 false r).a=r.a:=rfl
     go_wp2_with fail
     refine(HWN.out _ _ HM7.out (by omega)).mono ?_
     rintro e w8 ⟨rfl,s8,he8,hM8⟩
     have HM8:=Lib.hid hM8
     have HE8:=Lib.hid he8
     have ha8:=he8.kp.a
     have hp8:=potle he8 (by rfl) (c:=1) (of_decide_eq_true (by rfl))
     clear hM8 he8
     go_wp2
     go_loopw [] (fun wr=>Rl (kN n lv la lc S g) w0 P (.rep (isS n lv [124]) (.seq .adv (wonP n lv)) yesT .skip) s8 6 wr) (fun wr=>n+1 - atQ g wr)
     case atStart=>exact⟨s8,HM8.out,by omega,Nat.le_refl _,fun _ h=>h⟩
     case round=>
      obtain⟨q,hMq,hpq,haq,hkq⟩:=hrel
      have HKQ:=Lib.hid hkq
      have HMR:=Lib.hid hMq
      clear hkq hMq
      obtain⟨b9,hb9⟩:∃b,isS n lv [124] q=b:=⟨_,rfl⟩
      have HC9:=Lib.hid (next_any hS.out ⟨#[124]⟩ [124] (by decide+kernel) HMR.out b9 hb9)
      have HB9:=Lib.hid hb9
      clear hb9
      cases b9 with
      |true=>
       go_wp2_with fail
       refine(HC9.out).mono ?_
       rintro e w9 ⟨rfl,hm9⟩
       have HM9:Hid (Mk (kN n lv la lc S g) w0 P q w9):=Lib.hid (by obtain⟨m,rfl⟩:=hm9;exact mk_drew HMR.out m)
       clear hm9
       obtain⟨ap10,ax10,e3_10,f3_10,hw10,hM10⟩:=adv_all HM9.out (isS_le (lv:=lv) HB9.out (by decide))
       have HM10:=Lib.hid hM10
       clear hM10
       have hp10:=pot_nxt q
       have ha10:(nxt q).a=q.a+1:=rfl
       go_wp2_with fail
       refine(HWN.out _ _ HM10.out (by omega)).mono ?_
       rintro e w11 ⟨rfl,s11,he11,hM11⟩
       have HM11:=Lib.hid hM11
       have HE11:=Lib.hid he11
       have ha11:=he11.kp.a
       have hp11:=potle he11 (by rfl) (c:=1) (of_decide_eq_true (by rfl))
       clear hM11 he11
       go_wp2
       go_roundw
       case rel=>exact⟨_,HM11.out,by omega,by omega,fun s' he=>HKQ.out s' (.go HB9.out (.seq .adv HE11.out) rfl .skip he)⟩
       case measure=>
        have e1:=atQ_of HM11.out
        have e2:=atQ_of HMR.out
        have:=isS_le (lv:=lv) HB9.out (by decide)
        have hmm:=HM11.out.ale
        change s11.a≤n at hmm
        rw [e1,e2]
        omega
      |false=>
       go_wp2_with fail
       refine(HC9.out).mono ?_
       rintro e w9 ⟨rfl,hm9⟩
       have HM9:Hid (Mk (kN n lv la lc S g) w0 P q w9):=Lib.hid (by obtain⟨m,rfl⟩:=hm9;exact mk_drew HMR.out m)
       clear hm9
       have HE9:=Lib.hid (HKQ.out _ (.stop HB9.out))
       go_wp2_with fail
       refine(HWp.out _ _ HM9.out (pot_lenN HM9.out (by omega))).mono ?_
       rintro e w10 ⟨rfl,s10,he10,hM10⟩
       have HM10:=Lib.hid hM10
       have HE10:=Lib.hid he10
       have ha10:=he10.kp.a
       have hp10:=potle he10 (by rfl) (c:=1) (of_decide_eq_true (by rfl))
       clear hM10 he10
       obtain⟨z11,hz11⟩:∃z,isS n lv [110] s10=z:=⟨_,rfl⟩
       have HZ11:=Lib.hid (linesN_any hS HM10.out z11 hz11)
       have HZB11:=Lib.hid hz11
       clear hz11
       go_wp2_with fail
       refine HZ11.out.mono ?_
       rintro e w11 ⟨m11,rfl,hmz11,s11,he11,hM11⟩
       have HM11:=Lib.hid hM11
       have HE11:=Lib.hid he11
       have HMZ11:=Lib.hid hmz11
       have ha11:=he11.kp.a
       have hp11:=potle he11 (by rfl) (c:=0) (of_decide_eq_true (by rfl))
       clear hM11 he11 hmz11
       obtain⟨b,hb⟩:∃b,pipT n lv s11=b:=⟨_,rfl⟩
       have hc:=HPT.out _ _ HM11.out
       rw [hb]at hc
       have HC:=Lib.hid hc
       have HB:=Lib.hid hb
       clear hb hc
       cases b with
       |true=>
        go_wp2_with fail
        refine(HC.out).mono ?_
        rintro e w12 ⟨rfl,hm12⟩
        have HM12:Hid (Mk (kN n lv la lc S g) w0 P s11 w12):=Lib.hid (by obtain⟨m,rfl⟩:=hm12;exact mk_drew HM11.out m)
        clear hm12
        go_wp2_with fail
        refine(HLL.out _ _ HM12.out ⟨by omega,HB.out,by omega⟩).mono ?_
        rintro e w13 ⟨rfl,s13,he13,hM13⟩
        have HM13:=Lib.hid hM13
        have HE13:=Lib.hid he13
        have ha13:=he13.kp.a
        have hp13:=potle he13 (by rfl) (c:=4) (of_decide_eq_true (by rfl))
        clear hM13 he13
        have HEV14:Hid (Ev n lv (itemP n lv) (bgn 15 false r) s13):=Lib.hid (.seq (.no HB7.out .skip) (.seq HE8.out (.seq HE9.out (.seq HE10.out (.seq HE11.out (.yes HB.out (.lst HE13.out)))))))
        go_wp2_with fail
        refine(end_any (k:=15) (s:=r) HEV14.out HM13.out (fun h=>absurd h (by decide))).mono ?_
        rintro e w14 ⟨rfl,hM14⟩
        have HM14:=Lib.hid hM14
        clear hM14
        have hpf:pot (fin 15 r s13)=pot s13:=by simp only [pot,fin,List.length_set]
        have haf:(fin 15 r s13).a=s13.a:=rfl
        obtain⟨b15,hb15⟩:∃b,isS n lv [121] (fin 15 r s13)=b:=⟨_,rfl⟩
        have HC15:=Lib.hid (next_any hS.out ⟨#[121]⟩ [121] (by decide+kernel) HM14.out b15 hb15)
        have HB15:=Lib.hid hb15
        clear hb15
        cases b15 with
        |false=>
         go_wp2_with fail
         refine(HC15.out).mono ?_
         rintro e w16 ⟨rfl,hm16⟩
         have HM16:Hid (Mk (kN n lv la lc S g) w0 P (fin 15 r s13) w16):=Lib.hid (by obtain⟨m,rfl⟩:=hm16;exact mk_drew HM14.out m)
         clear hm16
         have HE16:=Lib.hid (HK1.out (by trivial) _ (.out HI.out (.node HEV14.out) HB15.out))
         go_wp2
         go_roundw
         case rel=>exact⟨false,_,rfl,HM16.out,by show pot _≤15;omega,by omega,(fun h=>by cases h),fun _=>HE16.out⟩
         case measure=>
          have e1:=atQ_of HM16.out
          have e2:=atQ_of HMR0.out
          simp only [boV]
          rw [e1,e2]
          omega
        |true=>
         go_wp2_with fail
         refine(HC15.out).mono ?_
         rintro e w16 ⟨rfl,hm16⟩
         have HM16:Hid (Mk (kN n lv la lc S g) w0 P (fin 15 r s13) w16):=Lib.hid (by obtain⟨m,rfl⟩:=hm16;exact mk_drew HM14.out m)
         clear hm16
         obtain⟨ap17,ax17,e3_17,f3_17,hw17,hM17⟩:=adv_all HM16.out (isS_le (lv:=lv) HB15.out (by decide))
         have HM17:=Lib.hid hM17
         clear hM17
         have hp17:=pot_nxt (fin 15 r s13)
         have ha17:(nxt (fin 15 r s13)).a=(fin 15 r s13).a+1:=rfl
         obtain⟨z18,hz18⟩:∃z,isS n lv [110] (nxt (fin 15 r s13))=z:=⟨_,rfl⟩
         have HZ18:=Lib.hid (linesN_any hS HM17.out z18 hz18)
         have HZB18:=Lib.hid hz18
         clear hz18
         go_wp2_with fail
         refine HZ18.out.mono ?_
         rintro e w18 ⟨m18,rfl,hmz18,s18,he18,hM18⟩
         have HM18:=Lib.hid hM18
         have HE18:=Lib.hid he18
         have HMZ18:=Lib.hid hmz18
         have ha18:=he18.kp.a
         have hp18:=potle he18 (by rfl) (c:=0) (of_decide_eq_true (by rfl))
         clear hM18 he18 hmz18
         go_wp2
         go_roundw
         case rel=>exact⟨true,_,rfl,HM18.out,by show pot _≤2;omega,by omega,fun _ s' he=>HK1.out (by trivial) s' (.go HI.out (.node HEV14.out) HB15.out (.seq .adv HE18.out) he),fun h=>by cases h⟩
         case measure=>
          have e1:=atQ_of HM18.out
          have e2:=atQ_of HMR0.out
          have:=isS_le (lv:=lv) HB15.out (by decide)
          simp only [boV]
          rw [e1,e2]
          omega
       |false=>
        go_wp2_with fail
        refine(HC.out).mono ?_
        rintro e w12 ⟨rfl,hm12⟩
        have HM12:Hid (Mk (kN n lv la lc S g) w0 P s11 w12):=Lib.hid (by obtain⟨m,rfl⟩:=hm12;exact mk_drew HM11.out m)
        clear hm12
        have HM13:=HM12
        have ha13:s11.a≤s11.a:=Nat.le_refl _
        have hp13:pot s11≤pot s11:=Int.le_refl _
        have HEV14:Hid (Ev n lv (itemP n lv) (bgn 15 false r) s11):=Lib.hid (.seq (.no HB7.out .skip) (.seq HE8.out (.seq HE9.out (.seq HE10.out (.seq HE11.out (.no HB.out .skip))))))
        go_wp2_with fail
        refine(end_any (k:=15) (s:=r) HEV14.out HM13.out (fun h=>absurd h (by decide))).mono ?_
        rintro e w14 ⟨rfl,hM14⟩
        have HM14:=Lib.hid hM14
        clear hM14
        have hpf:pot (fin 15 r s11)=pot s11:=by simp only [pot,fin,List.length_set]
        have haf:(fin 15 r s11).a=s11.a:=rfl
        obtain⟨b15,hb15⟩:∃b,isS n lv [121] (fin 15 r s11)=b:=⟨_,rfl⟩
        have HC15:=Lib.hid (next_any hS.out ⟨#[121]⟩ [121] (by decide+kernel) HM14.out b15 hb15)
        have HB15:=Lib.hid hb15
        clear hb15
        cases b15 with
        |false=>
         go_wp2_with fail
         refine(HC15.out).mono ?_
         rintro e w16 ⟨rfl,hm16⟩
         have HM16:Hid (Mk (kN n lv la lc S g) w0 P (fin 15 r s11) w16):=Lib.hid (by obtain⟨m,rfl⟩:=hm16;exact mk_drew HM14.out m)
         clear hm16
         have HE16:=Lib.hid (HK1.out (by trivial) _ (.out HI.out (.node HEV14.out) HB15.out))
         go_wp2
         go_roundw
         case rel=>exact⟨false,_,rfl,HM16.out,by show pot _≤15;omega,by omega,(fun h=>by cases h),fun _=>HE16.out⟩
         case measure=>
          have e1:=atQ_of HM16.out
          have e2:=atQ_of HMR0.out
          simp only [boV]
          rw [e1,e2]
          omega
        |true=>
         go_wp2_with fail
         refine(HC15.out).mono ?_
         rintro e w16 ⟨rfl,hm16⟩
         have HM16:Hid (Mk (kN n lv la lc S g) w0 P (fin 15 r s11) w16):=Lib.hid (by obtain⟨m,rfl⟩:=hm16;exact mk_drew HM14.out m)
         clear hm16
         obtain⟨ap17,ax17,e3_17,f3_17,hw17,hM17⟩:=adv_all HM16.out (isS_le (lv:=lv) HB15.out (by decide))
         have HM17:=Lib.hid hM17
         clear hM17
         have hp17:=pot_nxt (fin 15 r s11)
         have ha17:(nxt (fin 15 r s11)).a=(fin 15 r s11).a+1:=rfl
         obtain⟨z18,hz18⟩:∃z,isS n lv [110] (nxt (fin 15 r s11))=z:=⟨_,rfl⟩
         have HZ18:=Lib.hid (linesN_any hS HM17.out z18 hz18)
         have HZB18:=Lib.hid hz18
         clear hz18
         go_wp2_with fail
         refine HZ18.out.mono ?_
         rintro e w18 ⟨m18,rfl,hmz18,s18,he18,hM18⟩
         have HM18:=Lib.hid hM18
         have HE18:=Lib.hid he18
         have HMZ18:=Lib.hid hmz18
         have ha18:=he18.kp.a
         have hp18:=potle he18 (by rfl) (c:=0) (of_decide_eq_true (by rfl))
         clear hM18 he18 hmz18
         go_wp2
         go_roundw
         case rel=>exact⟨true,_,rfl,HM18.out,by show pot _≤2;omega,by omega,fun _ s' he=>HK1.out (by trivial) s' (.go HI.out (.node HEV14.out) HB15.out (.seq .adv HE18.out) he),fun h=>by cases h⟩
         case measure=>
          have e1:=atQ_of HM18.out
          have e2:=atQ_of HMR0.out
          have:=isS_le (lv:=lv) HB15.out (by decide)
          simp only [boV]
          rw [e1,e2]
          omega
   |false=>
    have HE5:Hid (Ev n lv (itmsP n lv) s4 r):=Lib.hid (by
     have h:=HY5.out
     cases mo with
     |false=>exact HK2.out (by trivial)
     |true=>exact HK1.out (by trivial) _ (.stop (by rwa [Bool.true_and]at h)))
    have hpr9:pot r≤15:=by
     cases mo with
     |false=>exact hpr
     |true=>have h2:pot r≤2:=hpr;omega
    clear hpr
    go_wp2_with fail
    refine(HWz.out _ _ HMQ5.out (pot_lenN HMQ5.out (by omega))).mono ?_
    rintro e w6 ⟨rfl,s6,he6,hM6⟩
    have HM6:=Lib.hid hM6
    have HE6:=Lib.hid he6
    have ha6:=he6.kp.a
    have hp6:=potle he6 (by rfl) (c:=1) (of_decide_eq_true (by rfl))
    clear hM6 he6
    go_wp2
    go_end0
    exact⟨rfl,_,.seq HE1.out (.seq HE2.out (.seq HE3.out (.seq HE4.out (.seq (HE5.out) HE6.out)))),HM6.out⟩
end
end Go.Proofs.YtkolpaonccmgiaaGreatDoor.Q

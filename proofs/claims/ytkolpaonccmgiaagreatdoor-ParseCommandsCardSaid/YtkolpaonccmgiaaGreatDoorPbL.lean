/- What the document's own loop and cases of layer 13 (parse) leave. Condition: at most 10,000 leaves. -/
import Derived.Test.YtkolpaonccmgiaaGreatDoorSf
set_option linter.unusedVariables false
namespace Go.Proofs.YtkolpaonccmgiaaGreatDoor.Q
open Go.RowKit
section
variable {n:Nat} {lv:Nat→Lf} {la:Option Addr} {lc g:Nat} {S:ByteArray} {w0:World} {P:Nat→Prop}
set_option maxHeartbeats 16000000 in
set_option maxRecDepth 100000 in
theorem eachN_any (hS:Hid (SgS n lv S)) {a0:Nat} (HL:LstN n lv la lc S g a0):Does (kN n lv la lc S g) w0 P 154 #[.pointer (some ⟨g,0,none⟩)] (eachP n lv) (fun s=>a0<s.a∧pot s≤0):=by
 intro w s hM ⟨ha,hp⟩
 have HMI:=Lib.hid (noneN_any (n:=n) (lv:=lv) (la:=la) (lc:=lc) (S:=S) (g:=g) (w0:=w0) (P:=P))
 have HON:=Lib.hid (fun k hk=>oneN_any (n:=n) (lv:=lv) (la:=la) (lc:=lc) (S:=S) (g:=g) (w0:=w0) (P:=P) k hk)
 have HDN:=Lib.hid (doneN_any (w0:=w0) (P:=P) hS HL)
 have HM:=Lib.hid hM
 clear hM
 go_enter Tryz.func154,Tryz.ntmps154
 obtain⟨y1,hy1⟩:∃y,namT n lv s=y:=⟨_,rfl⟩
 have HY1:=Lib.hid hy1
 have c0_1:=now_F HM.out
 have c3_1:=(now_at HM.out).1
 go_wp2
 go_cut [39]from 2 to 40 (fun v wx=>v=.bool y1∧Mk (kN n lv la lc S g) w0 P s wx)
 case first=>
  by_cases hlt1:s.a<n
  ·obtain⟨lb,lo,hla1,k0_1,k1_1⟩:=leafN HM.out hlt1
   have hsz1:=lf_small HM.out.st.sml s.a
   change(lfA n lv s.a).s.size≤100 at hsz1
   obtain⟨a1,haa1⟩:∃a,s.a=a:=⟨_,rfl⟩
   obtain⟨k1,hkk1⟩:∃k,(lfA n lv s.a).k=k:=⟨_,rfl⟩
   obtain⟨t1,htt1⟩:∃t,(lfA n lv s.a).s=t:=⟨_,rfl⟩
   have hyw1:wrdT n lv s=decide (k1=6):=by unfold wrdT;rw [hkk1]
   have hyn1:namT n lv s=(decide (k1=6)&& isNm t1):=by unfold namT;rw [hyw1,htt1]
   rw [hkk1]at k0_1
   rw [htt1]at k1_1 hsz1
   rw [haa1]at c3_1 k0_1 k1_1
   rw [hla1]at c0_1
   have q0_1:(0:Int)≤(a1:Int):=by omega
   have q1_1:(a1:Int)<(n:Int):=by omega
   have q2_1:decide (a1<n)=true:=by simp;omega
   have q3_1:decide ((a1:Int)<(n:Int))=true:=decide_eq_true q1_1
   clear hkk1 htt1 hla1 haa1
   rw [hyn1]at hy1
   have HIN1:=Lib.hid (fun W=>refisname_any t1 W (by omega))
   clear hyn1 hyw1 hsz1
   by_cases h6_1:k1=6
   ·rw [decide_eq_true h6_1,Bool.true_and]at hy1
    rw [hy1]at HIN1
    subst h6_1
    clear hy1
    go_wp2
    go_quiet (exact Calls.quiet_of_same (HIN1.out _))
    have HMQ1:=Lib.hid (mk_drew HM.out nq)
    go_wp2_with fail
    go_meet
    case rel=>exact⟨rfl,HMQ1.out⟩
   ·obtain rfl:y1=false:=by rw [←hy1,decide_eq_false h6_1];rfl
    have u6_1:(k1==6)=false:=by simpa using h6_1
    clear hy1 h6_1
    go_wp2
    go_quiet (fail)
    have HMQ1:=Lib.hid (mk_drew HM.out nq)
    go_wp2_with fail
    go_meet
    case rel=>exact⟨rfl,HMQ1.out⟩
  ·obtain⟨a1,haa1⟩:∃a,s.a=a:=⟨_,rfl⟩
   obtain rfl:y1=false:=by
    rw [←hy1]
    cases e:wrdT n lv s with
    |false=>first|rfl|(unfold namT;rw [e];rfl)
    |true=>have:=wrd_le e;omega
   rw [haa1]at c3_1
   have q1_1:¬(a1:Int)<(n:Int):=by omega
   have q2_1:decide (a1<n)=false:=by simp;omega
   have q3_1:decide ((a1:Int)<(n:Int))=false:=decide_eq_false q1_1
   clear haa1 hy1
   go_wp2
   go_quiet (fail)
   have HMQ1:=Lib.hid (mk_drew HM.out nq)
   go_wp2_with fail
   go_meet
   case rel=>exact⟨rfl,HMQ1.out⟩
 case rest=>
  obtain⟨rfl,hMc1⟩:=hcut
  have HMQ1:=Lib.hid hMc1
  clear c0_1 c3_1 hMc1 hy1
  obtain⟨wq1,hwq1⟩:∃W,W=wc:=⟨_,rfl⟩
  rw [←hwq1]at HMQ1 ⊢
  clear hwq1
  cases y1 with
  |true=>
   have hlt1:s.a<n:=wrd_le (show wrdT n lv s=true from by have:=HY1.out;unfold namT at this;rw [Bool.and_eq_true]at this;exact this.1)
   have HLT1:=Lib.hid hlt1
   go_wp2_with fail
   refine(HON.out 7 rfl _ _ HMQ1.out ⟨HLT1.out,pot_lenN HMQ1.out (by omega)⟩).mono ?_
   rintro e w2 ⟨rfl,s2,he2,hM2⟩
   have HM2:=Lib.hid hM2
   have HE2:=Lib.hid he2
   have ha2:=he2.kp.a
   have hp2:=potle he2 (by rfl) (c:= -29) (of_decide_eq_true (by rfl))
   clear hM2 he2
   have HV2:=Lib.hid (show Ev n lv (.ite (namT n lv) wordP missP) s s2 from .yes HY1.out HE2.out)
   obtain⟨b5,hb5⟩:∃b,isS n lv [59] s2=b:=⟨_,rfl⟩
   have HC5:=Lib.hid (next_any hS.out ⟨#[59]⟩ [59] (by decide+kernel) HM2.out b5 hb5)
   have HB5:=Lib.hid hb5
   clear hb5
   cases b5 with
   |true=>
    go_wp2_with fail
    refine(HC5.out).mono ?_
    rintro e w6 ⟨rfl,hm6⟩
    have HM6:Hid (Mk (kN n lv la lc S g) w0 P s2 w6):=Lib.hid (by obtain⟨m,rfl⟩:=hm6;exact mk_drew HM2.out m)
    clear hm6
    obtain⟨ap7,ax7,e3_7,f3_7,hw7,hM7⟩:=adv_all HM6.out (isS_le (lv:=lv) HB5.out (by decide))
    have HM7:=Lib.hid hM7
    clear hM7
    have hp7:=pot_nxt s2
    have ha7:(nxt s2).a=s2.a+1:=rfl
    obtain⟨z8,hz8⟩:∃z,isS n lv [110] (nxt s2)=z:=⟨_,rfl⟩
    have HZ8:=Lib.hid (linesN_any hS HM7.out z8 hz8)
    have HZB8:=Lib.hid hz8
    clear hz8
    go_wp2_with fail
    refine HZ8.out.mono ?_
    rintro e w8 ⟨m8,rfl,hmz8,s8,he8,hM8⟩
    have HM8:=Lib.hid hM8
    have HE8:=Lib.hid he8
    have HMZ8:=Lib.hid hmz8
    have ha8:=he8.kp.a
    have hp8:=potle he8 (by rfl) (c:=0) (of_decide_eq_true (by rfl))
    clear hM8 he8 hmz8
    go_wp2_with fail
    refine(HDN.out _ _ HM8.out ⟨by omega,by omega⟩).mono ?_
    rintro e w9 ⟨rfl,s9,he9,hM9⟩
    have HM9:=Lib.hid hM9
    have HE9:=Lib.hid he9
    have ha9:=he9.kp.a
    clear hM9 he9
    go_wp2
    go_end0
    exact⟨rfl,_,.seq (HV2.out) (.seq (.yes HB5.out (.seq .adv HE8.out)) HE9.out),HM9.out⟩
   |false=>
    go_wp2_with fail
    refine(HC5.out).mono ?_
    rintro e w6 ⟨rfl,hm6⟩
    have HM6:Hid (Mk (kN n lv la lc S g) w0 P s2 w6):=Lib.hid (by obtain⟨m,rfl⟩:=hm6;exact mk_drew HM2.out m)
    clear hm6
    obtain⟨z7,hz7⟩:∃z,isS n lv [110] s2=z:=⟨_,rfl⟩
    have HZ7:=Lib.hid (linesN_any hS HM6.out z7 hz7)
    have HZB7:=Lib.hid hz7
    clear hz7
    go_wp2_with fail
    refine HZ7.out.mono ?_
    rintro e w7 ⟨m7,rfl,hmz7,s7,he7,hM7⟩
    have HM7:=Lib.hid hM7
    have HE7:=Lib.hid he7
    have HMZ7:=Lib.hid hmz7
    have ha7:=he7.kp.a
    have hp7:=potle he7 (by rfl) (c:=0) (of_decide_eq_true (by rfl))
    clear hM7 he7 hmz7
    obtain⟨b8,hb8⟩:∃b,isS n lv [107] s7=b:=⟨_,rfl⟩
    have HC8:=Lib.hid (next_any hS.out ⟨#[107]⟩ [107] (by decide+kernel) HM7.out b8 hb8)
    have HB8:=Lib.hid hb8
    clear hb8
    cases b8 with
    |false=>
     go_wp2_with fail
     refine(HC8.out).mono ?_
     rintro e w9 ⟨rfl,hm9⟩
     have HM9:Hid (Mk (kN n lv la lc S g) w0 P s7 w9):=Lib.hid (by obtain⟨m,rfl⟩:=hm9;exact mk_drew HM7.out m)
     clear hm9
     go_wp2_with fail
     refine(HDN.out _ _ HM9.out ⟨by omega,by omega⟩).mono ?_
     rintro e w10 ⟨rfl,s10,he10,hM10⟩
     have HM10:=Lib.hid hM10
     have HE10:=Lib.hid he10
     have ha10:=he10.kp.a
     clear hM10 he10
     go_wp2
     go_end0
     exact⟨rfl,_,.seq (HV2.out) (.seq (.no HB5.out (.seq HE7.out (.no HB8.out .skip))) HE10.out),HM10.out⟩
    |true=>
     go_wp2_with fail
     refine(HC8.out).mono ?_
     rintro e w8 ⟨rfl,hm8⟩
     have HM8:Hid (Mk (kN n lv la lc S g) w0 P s7 w8):=Lib.hid (by obtain⟨m,rfl⟩:=hm8;exact mk_drew HM7.out m)
     clear hm8
     obtain⟨ap9,ax9,e3_9,f3_9,hw9,hM9⟩:=adv_all HM8.out (isS_le (lv:=lv) HB8.out (by decide))
     have HM9:=Lib.hid hM9
     clear hM9
     have hp9:=pot_nxt s7
     have ha9:(nxt s7).a=s7.a+1:=rfl
     go_wp2
     go_loopw [] (fun wr=>Rl (kN n lv la lc S g) w0 P (.rep (wrdT n lv) wordP yesT .skip) (nxt s7) 0 wr) (fun wr=>n+1 - atQ g wr)
     case atStart=>exact⟨(nxt s7),HM9.out,by omega,Nat.le_refl _,fun _ h=>h⟩
     case round=>
      obtain⟨r,hMr,hpr,har,hk⟩:=hrel
      have HK:=Lib.hid hk
      have HMR:=Lib.hid hMr
      clear hk hMr
      obtain⟨y10,hy10⟩:∃y,wrdT n lv r=y:=⟨_,rfl⟩
      have HY10:=Lib.hid hy10
      have c0_10:=now_F HMR.out
      have c3_10:=(now_at HMR.out).1
      go_wp2
      go_cut [91]from 68 to 92 (fun v wx=>v=.bool y10∧Mk (kN n lv la lc S g) w0 P r wx)
      case first=>
       by_cases hlt10:r.a<n
       ·obtain⟨lb,lo,hla10,k0_10,k1_10⟩:=leafN HMR.out hlt10
        have hsz10:=lf_small HMR.out.st.sml r.a
        change(lfA n lv r.a).s.size≤100 at hsz10
        obtain⟨a10,haa10⟩:∃a,r.a=a:=⟨_,rfl⟩
        obtain⟨k10,hkk10⟩:∃k,(lfA n lv r.a).k=k:=⟨_,rfl⟩
        obtain⟨t10,htt10⟩:∃t,(lfA n lv r.a).s=t:=⟨_,rfl⟩
        have hyw10:wrdT n lv r=decide (k10=6):=by unfold wrdT;rw [hkk10]
        have hyn10:namT n lv r=(decide (k10=6)&& isNm t10):=by unfold namT;rw [hyw10,htt10]
        rw [hkk10]at k0_10
        rw [htt10]at k1_10 hsz10
        rw [haa10]at c3_10 k0_10 k1_10
        rw [hla10]at c0_10
        have q0_10:(0:Int)≤(a10:Int):=by omega
        have q1_10:(a10:Int)<(n:Int):=by omega
        have q2_10:decide (a10<n)=true:=by simp;omega
        have q3_10:decide ((a10:Int)<(n:Int))=true:=decide_eq_true q1_10
        clear hkk10 htt10 hla10 haa10
        rw [hyw10]at hy10
        clear hyn10 hyw10 hsz10 k1_10
        by_cases h6_10:k10=6
        ·obtain rfl:y10=true:=by rw [←hy10];exact decide_eq_true h6_10
         subst h6_10
         clear hy10
         go_wp2
         go_quiet (fail)
         have HMQ10:=Lib.hid (mk_drew HMR.out nq)
         go_wp2_with fail
         go_meet
         case rel=>exact⟨rfl,HMQ10.out⟩
        ·obtain rfl:y10=false:=by rw [←hy10];exact decide_eq_false h6_10
         have u6_10:(k10==6)=false:=by simpa using h6_10
         clear hy10 h6_10
         go_wp2
         go_quiet (fail)
         have HMQ10:=Lib.hid (mk_drew HMR.out nq)
         go_wp2_with fail
         go_meet
         case rel=>exact⟨rfl,HMQ10.out⟩
       ·obtain⟨a10,haa10⟩:∃a,r.a=a:=⟨_,rfl⟩
        obtain rfl:y10=false:=by
         rw [←hy10]
         cases e:wrdT n lv r with
         |false=>first|rfl|(unfold namT;rw [e];rfl)
         |true=>have:=wrd_le e;omega
        rw [haa10]at c3_10
        have q1_10:¬(a10:Int)<(n:Int):=by omega
        have q2_10:decide (a10<n)=false:=by simp;omega
        have q3_10:decide ((a10:Int)<(n:Int))=false:=decide_eq_false q1_10
        clear haa10 hy10
        go_wp2
        go_quiet (fail)
        have HMQ10:=Lib.hid (mk_drew HMR.out nq)
        go_wp2_with fail
        go_meet
        case rel=>exact⟨rfl,HMQ10.out⟩
      case rest=>
       obtain⟨rfl,hMc10⟩:=hcut
       have HMQ10:=Lib.hid hMc10
       clear c0_10 c3_10 hMc10 hy10
       obtain⟨wq10,hwq10⟩:∃W,W=wc:=⟨_,rfl⟩
       rw [←hwq10]at HMQ10 ⊢
       clear hwq10
       cases y10 with
       |true=>
        go_wp2_with fail
        refine(HON.out 7 rfl _ _ HMQ10.out ⟨wrd_le HY10.out,pot_lenN HMQ10.out (by omega)⟩).mono ?_
        rintro e w11 ⟨rfl,s11,he11,hM11⟩
        have HM11:=Lib.hid hM11
        have HE11:=Lib.hid he11
        have ha11:=he11.kp.a
        have hp11:=potle he11 (by rfl) (c:= -29) (of_decide_eq_true (by rfl))
        clear hM11 he11
        go_wp2
        go_roundw
        case rel=>exact⟨_,HM11.out,by omega,by omega,fun s' he=>HK.out s' (.go HY10.out HE11.out rfl .skip he)⟩
        case measure=>
         have e1:=atQ_of HM11.out
         have e2:=atQ_of HMR.out
         have:=HE11.out.word_lt
         have hmm:=HM11.out.ale
         change s11.a≤n at hmm
         rw [e1,e2]
         omega
       |false=>
        obtain⟨b12,hb12⟩:∃b,isS n lv [59] r=b:=⟨_,rfl⟩
        have HC12:=Lib.hid (next_any hS.out ⟨#[59]⟩ [59] (by decide+kernel) HMQ10.out b12 hb12)
        have HB12:=Lib.hid hb12
        clear hb12
        have HE10:=Lib.hid (HK.out _ (.stop HY10.out))
        cases b12 with
        |true=>
         have h2:isS n lv [59,110] r=true:=by
          have:=HB12.out
          unfold isS at this ⊢
          simp only [List.contains_cons,List.contains_nil,Bool.or_false]at this ⊢
          rw [this,Bool.true_or]
         have H2:=Lib.hid h2
         clear h2
         go_wp2_with fail
         refine(HC12.out).mono ?_
         rintro e w13 ⟨rfl,hm13⟩
         have HM13:Hid (Mk (kN n lv la lc S g) w0 P r w13):=Lib.hid (by obtain⟨m,rfl⟩:=hm13;exact mk_drew HMQ10.out m)
         clear hm13
         obtain⟨ap14,ax14,e3_14,f3_14,hw14,hM14⟩:=adv_all HM13.out (isS_le (lv:=lv) HB12.out (by decide))
         have HM14:=Lib.hid hM14
         clear hM14
         have hp14:=pot_nxt r
         have ha14:(nxt r).a=r.a+1:=rfl
         obtain⟨z15,hz15⟩:∃z,isS n lv [110] (nxt r)=z:=⟨_,rfl⟩
         have HZ15:=Lib.hid (linesN_any hS HM14.out z15 hz15)
         have HZB15:=Lib.hid hz15
         clear hz15
         go_wp2_with fail
         refine HZ15.out.mono ?_
         rintro e w15 ⟨m15,rfl,hmz15,s15,he15,hM15⟩
         have HM15:=Lib.hid hM15
         have HE15:=Lib.hid he15
         have HMZ15:=Lib.hid hmz15
         have ha15:=he15.kp.a
         have hp15:=potle he15 (by rfl) (c:=0) (of_decide_eq_true (by rfl))
         clear hM15 he15 hmz15
         go_wp2_with fail
         refine(HDN.out _ _ HM15.out ⟨by omega,by omega⟩).mono ?_
         rintro e w16 ⟨rfl,s16,he16,hM16⟩
         have HM16:=Lib.hid hM16
         have HE16:=Lib.hid he16
         have ha16:=he16.kp.a
         clear hM16 he16
         go_wp2
         go_end0
         exact⟨rfl,_,.seq (HV2.out) (.seq (.no HB5.out (.seq HE7.out (.yes HB8.out (.seq .adv (.seq HE10.out (.yes H2.out (.seq .adv HE15.out))))))) HE16.out),HM16.out⟩
        |false=>
         go_wp2_with fail
         refine(HC12.out).mono ?_
         rintro e w13 ⟨rfl,hm13⟩
         have HM13:Hid (Mk (kN n lv la lc S g) w0 P r w13):=Lib.hid (by obtain⟨m,rfl⟩:=hm13;exact mk_drew HMQ10.out m)
         clear hm13
         obtain⟨z14,hz14⟩:∃z,isS n lv [110] r=z:=⟨_,rfl⟩
         have HZ14:=Lib.hid (linesN_any hS HM13.out z14 hz14)
         have HZB14:=Lib.hid hz14
         clear hz14
         go_wp2_with fail
         refine HZ14.out.mono ?_
         rintro e w14 ⟨m14,rfl,hmz14,s14,he14,hM14⟩
         have HM14:=Lib.hid hM14
         have HE14:=Lib.hid he14
         have HMZ14:=Lib.hid hmz14
         have ha14:=he14.kp.a
         have hp14:=potle he14 (by rfl) (c:=0) (of_decide_eq_true (by rfl))
         clear hM14 he14 hmz14
         have hz14:=HZB14.out
         have h2:isS n lv [59,110] r=z14:=by
          have:=HB12.out
          unfold isS at this hz14 ⊢
          simp only [List.contains_cons,List.contains_nil,Bool.or_false]at this hz14 ⊢
          rw [this,hz14,Bool.false_or]
         have H2:=Lib.hid h2
         clear h2 hz14
         rcases HMZ14.out with⟨e1,e2⟩|⟨e1,e2⟩
         ·subst e1
          subst e2
          go_wp2_with fail
          refine(HMI.out _ _ HM14.out (pot_lenN HM14.out (by omega))).mono ?_
          rintro e w15 ⟨rfl,s15,he15,hM15⟩
          have HM15:=Lib.hid hM15
          have HE15:=Lib.hid he15
          have ha15:=he15.kp.a
          have hp15:=potle he15 (by rfl) (c:=1) (of_decide_eq_true (by rfl))
          clear hM15 he15
          go_wp2_with fail
          refine(HDN.out _ _ HM15.out ⟨by omega,by omega⟩).mono ?_
          rintro e w16 ⟨rfl,s16,he16,hM16⟩
          have HM16:=Lib.hid hM16
          have HE16:=Lib.hid he16
          have ha16:=he16.kp.a
          clear hM16 he16
          have hs14:s14=r:=nls_no HE14.out HZB14.out
          subst hs14
          go_wp2
          go_end0
          exact⟨rfl,_,.seq (HV2.out) (.seq (.no HB5.out (.seq HE7.out (.yes HB8.out (.seq .adv (.seq HE10.out (.no H2.out HE15.out)))))) HE16.out),HM16.out⟩
         ·subst e2
          have m1:((m14:Int)==0)=false:=by simp;omega
          go_wp2_with fail
          refine(HDN.out _ _ HM14.out ⟨by omega,by omega⟩).mono ?_
          rintro e w15 ⟨rfl,s15,he15,hM15⟩
          have HM15:=Lib.hid hM15
          have HE15:=Lib.hid he15
          have ha15:=he15.kp.a
          clear hM15 he15
          go_wp2
          go_end0
          exact⟨rfl,_,.seq (HV2.out) (.seq (.no HB5.out (.seq HE7.out (.yes HB8.out (.seq .adv (.seq HE10.out (.yes H2.out (nls_go HE14.out HZB14.out))))))) HE15.out),HM15.out⟩
  |false=>
   go_wp2_with fail
   refine(HMI.out _ _ HMQ1.out (pot_lenN HMQ1.out (by omega))).mono ?_
   rintro e w2 ⟨rfl,s2,he2,hM2⟩
   have HM2:=Lib.hid hM2
   have HE2:=Lib.hid he2
   have ha2:=he2.kp.a
   have hp2:=potle he2 (by rfl) (c:=1) (of_decide_eq_true (by rfl))
   clear hM2 he2
   have HV2:=Lib.hid (show Ev n lv (.ite (namT n lv) wordP missP) s s2 from .no HY1.out HE2.out)
   obtain⟨b5,hb5⟩:∃b,isS n lv [59] s2=b:=⟨_,rfl⟩
   have HC5:=Lib.hid (next_any hS.out ⟨#[59]⟩ [59] (by decide+kernel) HM2.out b5 hb5)
   have HB5:=Lib.hid hb5
   clear hb5
   cases b5 with
   |true=>
    go_wp2_with fail
    refine(HC5.out).mono ?_
    rintro e w6 ⟨rfl,hm6⟩
    have HM6:Hid (Mk (kN n lv la lc S g) w0 P s2 w6):=Lib.hid (by obtain⟨m,rfl⟩:=hm6;exact mk_drew HM2.out m)
    clear hm6
    obtain⟨ap7,ax7,e3_7,f3_7,hw7,hM7⟩:=adv_all HM6.out (isS_le (lv:=lv) HB5.out (by decide))
    have HM7:=Lib.hid hM7
    clear hM7
    have hp7:=pot_nxt s2
    have ha7:(nxt s2).a=s2.a+1:=rfl
    obtain⟨z8,hz8⟩:∃z,isS n lv [110] (nxt s2)=z:=⟨_,rfl⟩
    have HZ8:=Lib.hid (linesN_any hS HM7.out z8 hz8)
    have HZB8:=Lib.hid hz8
    clear hz8
    go_wp2_with fail
    refine HZ8.out.mono ?_
    rintro e w8 ⟨m8,rfl,hmz8,s8,he8,hM8⟩
    have HM8:=Lib.hid hM8
    have HE8:=Lib.hid he8
    have HMZ8:=Lib.hid hmz8
    have ha8:=he8.kp.a
    have hp8:=potle he8 (by rfl) (c:=0) (of_decide_eq_true (by rfl))
    clear hM8 he8 hmz8
    go_wp2_with fail
    refine(HDN.out _ _ HM8.out ⟨by omega,by omega⟩).mono ?_
    rintro e w9 ⟨rfl,s9,he9,hM9⟩
    have HM9:=Lib.hid hM9
    have HE9:=Lib.hid he9
    have ha9:=he9.kp.a
    clear hM9 he9
    go_wp2
    go_end0
    exact⟨rfl,_,.seq (HV2.out) (.seq (.yes HB5.out (.seq .adv HE8.out)) HE9.out),HM9.out⟩
   |false=>
    go_wp2_with fail
    refine(HC5.out).mono ?_
    rintro e w6 ⟨rfl,hm6⟩
    have HM6:Hid (Mk (kN n lv la lc S g) w0 P s2 w6):=Lib.hid (by obtain⟨m,rfl⟩:=hm6;exact mk_drew HM2.out m)
    clear hm6
    obtain⟨z7,hz7⟩:∃z,isS n lv [110] s2=z:=⟨_,rfl⟩
    have HZ7:=Lib.hid (linesN_any hS HM6.out z7 hz7)
    have HZB7:=Lib.hid hz7
    clear hz7
    go_wp2_with fail
    refine HZ7.out.mono ?_
    rintro e w7 ⟨m7,rfl,hmz7,s7,he7,hM7⟩
    have HM7:=Lib.hid hM7
    have HE7:=Lib.hid he7
    have HMZ7:=Lib.hid hmz7
    have ha7:=he7.kp.a
    have hp7:=potle he7 (by rfl) (c:=0) (of_decide_eq_true (by rfl))
    clear hM7 he7 hmz7
    obtain⟨b8,hb8⟩:∃b,isS n lv [107] s7=b:=⟨_,rfl⟩
    have HC8:=Lib.hid (next_any hS.out ⟨#[107]⟩ [107] (by decide+kernel) HM7.out b8 hb8)
    have HB8:=Lib.hid hb8
    clear hb8
    cases b8 with
    |false=>
     go_wp2_with fail
     refine(HC8.out).mono ?_
     rintro e w9 ⟨rfl,hm9⟩
     have HM9:Hid (Mk (kN n lv la lc S g) w0 P s7 w9):=Lib.hid (by obtain⟨m,rfl⟩:=hm9;exact mk_drew HM7.out m)
     clear hm9
     go_wp2_with fail
     refine(HDN.out _ _ HM9.out ⟨by omega,by omega⟩).mono ?_
     rintro e w10 ⟨rfl,s10,he10,hM10⟩
     have HM10:=Lib.hid hM10
     have HE10:=Lib.hid he10
     have ha10:=he10.kp.a
     clear hM10 he10
     go_wp2
     go_end0
     exact⟨rfl,_,.seq (HV2.out) (.seq (.no HB5.out (.seq HE7.out (.no HB8.out .skip))) HE10.out),HM10.out⟩
    |true=>
     go_wp2_with fail
     refine(HC8.out).mono ?_
     rintro e w8 ⟨rfl,hm8⟩
     have HM8:Hid (Mk (kN n lv la lc S g) w0 P s7 w8):=Lib.hid (by obtain⟨m,rfl⟩:=hm8;exact mk_drew HM7.out m)
     clear hm8
     obtain⟨ap9,ax9,e3_9,f3_9,hw9,hM9⟩:=adv_all HM8.out (isS_le (lv:=lv) HB8.out (by decide))
     have HM9:=Lib.hid hM9
     clear hM9
     have hp9:=pot_nxt s7
     have ha9:(nxt s7).a=s7.a+1:=rfl
     go_wp2
     go_loopw [] (fun wr=>Rl (kN n lv la lc S g) w0 P (.rep (wrdT n lv) wordP yesT .skip) (nxt s7) 0 wr) (fun wr=>n+1 - atQ g wr)
     case atStart=>exact⟨(nxt s7),HM9.out,by omega,Nat.le_refl _,fun _ h=>h⟩
     case round=>
      obtain⟨r,hMr,hpr,har,hk⟩:=hrel
      have HK:=Lib.hid hk
      have HMR:=Lib.hid hMr
      clear hk hMr
      obtain⟨y10,hy10⟩:∃y,wrdT n lv r=y:=⟨_,rfl⟩
      have HY10:=Lib.hid hy10
      have c0_10:=now_F HMR.out
      have c3_10:=(now_at HMR.out).1
      go_wp2
      go_cut [91]from 68 to 92 (fun v wx=>v=.bool y10∧Mk (kN n lv la lc S g) w0 P r wx)
      case first=>
       by_cases hlt10:r.a<n
       ·obtain⟨lb,lo,hla10,k0_10,k1_10⟩:=leafN HMR.out hlt10
        have hsz10:=lf_small HMR.out.st.sml r.a
        change(lfA n lv r.a).s.size≤100 at hsz10
        obtain⟨a10,haa10⟩:∃a,r.a=a:=⟨_,rfl⟩
        obtain⟨k10,hkk10⟩:∃k,(lfA n lv r.a).k=k:=⟨_,rfl⟩
        obtain⟨t10,htt10⟩:∃t,(lfA n lv r.a).s=t:=⟨_,rfl⟩
        have hyw10:wrdT n lv r=decide (k10=6):=by unfold wrdT;rw [hkk10]
        have hyn10:namT n lv r=(decide (k10=6)&& isNm t10):=by unfold namT;rw [hyw10,htt10]
        rw [hkk10]at k0_10
        rw [htt10]at k1_10 hsz10
        rw [haa10]at c3_10 k0_10 k1_10
        rw [hla10]at c0_10
        have q0_10:(0:Int)≤(a10:Int):=by omega
        have q1_10:(a10:Int)<(n:Int):=by omega
        have q2_10:decide (a10<n)=true:=by simp;omega
        have q3_10:decide ((a10:Int)<(n:Int))=true:=decide_eq_true q1_10
        clear hkk10 htt10 hla10 haa10
        rw [hyw10]at hy10
        clear hyn10 hyw10 hsz10 k1_10
        by_cases h6_10:k10=6
        ·obtain rfl:y10=true:=by rw [←hy10];exact decide_eq_true h6_10
         subst h6_10
         clear hy10
         go_wp2
         go_quiet (fail)
         have HMQ10:=Lib.hid (mk_drew HMR.out nq)
         go_wp2_with fail
         go_meet
         case rel=>exact⟨rfl,HMQ10.out⟩
        ·obtain rfl:y10=false:=by rw [←hy10];exact decide_eq_false h6_10
         have u6_10:(k10==6)=false:=by simpa using h6_10
         clear hy10 h6_10
         go_wp2
         go_quiet (fail)
         have HMQ10:=Lib.hid (mk_drew HMR.out nq)
         go_wp2_with fail
         go_meet
         case rel=>exact⟨rfl,HMQ10.out⟩
       ·obtain⟨a10,haa10⟩:∃a,r.a=a:=⟨_,rfl⟩
        obtain rfl:y10=false:=by
         rw [←hy10]
         cases e:wrdT n lv r with
         |false=>first|rfl|(unfold namT;rw [e];rfl)
         |true=>have:=wrd_le e;omega
        rw [haa10]at c3_10
        have q1_10:¬(a10:Int)<(n:Int):=by omega
        have q2_10:decide (a10<n)=false:=by simp;omega
        have q3_10:decide ((a10:Int)<(n:Int))=false:=decide_eq_false q1_10
        clear haa10 hy10
        go_wp2
        go_quiet (fail)
        have HMQ10:=Lib.hid (mk_drew HMR.out nq)
        go_wp2_with fail
        go_meet
        case rel=>exact⟨rfl,HMQ10.out⟩
      case rest=>
       obtain⟨rfl,hMc10⟩:=hcut
       have HMQ10:=Lib.hid hMc10
       clear c0_10 c3_10 hMc10 hy10
       obtain⟨wq10,hwq10⟩:∃W,W=wc:=⟨_,rfl⟩
       rw [←hwq10]at HMQ10 ⊢
       clear hwq10
       cases y10 with
       |true=>
        go_wp2_with fail
        refine(HON.out 7 rfl _ _ HMQ10.out ⟨wrd_le HY10.out,pot_lenN HMQ10.out (by omega)⟩).mono ?_
        rintro e w11 ⟨rfl,s11,he11,hM11⟩
        have HM11:=Lib.hid hM11
        have HE11:=Lib.hid he11
        have ha11:=he11.kp.a
        have hp11:=potle he11 (by rfl) (c:= -29) (of_decide_eq_true (by rfl))
        clear hM11 he11
        go_wp2
        go_roundw
        case rel=>exact⟨_,HM11.out,by omega,by omega,fun s' he=>HK.out s' (.go HY10.out HE11.out rfl .skip he)⟩
        case measure=>
         have e1:=atQ_of HM11.out
         have e2:=atQ_of HMR.out
         have:=HE11.out.word_lt
         have hmm:=HM11.out.ale
         change s11.a≤n at hmm
         rw [e1,e2]
         omega
       |false=>
        obtain⟨b12,hb12⟩:∃b,isS n lv [59] r=b:=⟨_,rfl⟩
        have HC12:=Lib.hid (next_any hS.out ⟨#[59]⟩ [59] (by decide+kernel) HMQ10.out b12 hb12)
        have HB12:=Lib.hid hb12
        clear hb12
        have HE10:=Lib.hid (HK.out _ (.stop HY10.out))
        cases b12 with
        |true=>
         have h2:isS n lv [59,110] r=true:=by
          have:=HB12.out
          unfold isS at this ⊢
          simp only [List.contains_cons,List.contains_nil,Bool.or_false]at this ⊢
          rw [this,Bool.true_or]
         have H2:=Lib.hid h2
         clear h2
         go_wp2_with fail
         refine(HC12.out).mono ?_
         rintro e w13 ⟨rfl,hm13⟩
         have HM13:Hid (Mk (kN n lv la lc S g) w0 P r w13):=Lib.hid (by obtain⟨m,rfl⟩:=hm13;exact mk_drew HMQ10.out m)
         clear hm13
         obtain⟨ap14,ax14,e3_14,f3_14,hw14,hM14⟩:=adv_all HM13.out (isS_le (lv:=lv) HB12.out (by decide))
         have HM14:=Lib.hid hM14
         clear hM14
         have hp14:=pot_nxt r
         have ha14:(nxt r).a=r.a+1:=rfl
         obtain⟨z15,hz15⟩:∃z,isS n lv [110] (nxt r)=z:=⟨_,rfl⟩
         have HZ15:=Lib.hid (linesN_any hS HM14.out z15 hz15)
         have HZB15:=Lib.hid hz15
         clear hz15
         go_wp2_with fail
         refine HZ15.out.mono ?_
         rintro e w15 ⟨m15,rfl,hmz15,s15,he15,hM15⟩
         have HM15:=Lib.hid hM15
         have HE15:=Lib.hid he15
         have HMZ15:=Lib.hid hmz15
         have ha15:=he15.kp.a
         have hp15:=potle he15 (by rfl) (c:=0) (of_decide_eq_true (by rfl))
         clear hM15 he15 hmz15
         go_wp2_with fail
         refine(HDN.out _ _ HM15.out ⟨by omega,by omega⟩).mono ?_
         rintro e w16 ⟨rfl,s16,he16,hM16⟩
         have HM16:=Lib.hid hM16
         have HE16:=Lib.hid he16
         have ha16:=he16.kp.a
         clear hM16 he16
         go_wp2
         go_end0
         exact⟨rfl,_,.seq (HV2.out) (.seq (.no HB5.out (.seq HE7.out (.yes HB8.out (.seq .adv (.seq HE10.out (.yes H2.out (.seq .adv HE15.out))))))) HE16.out),HM16.out⟩
        |false=>
         go_wp2_with fail
         refine(HC12.out).mono ?_
         rintro e w13 ⟨rfl,hm13⟩
         have HM13:Hid (Mk (kN n lv la lc S g) w0 P r w13):=Lib.hid (by obtain⟨m,rfl⟩:=hm13;exact mk_drew HMQ10.out m)
         clear hm13
         obtain⟨z14,hz14⟩:∃z,isS n lv [110] r=z:=⟨_,rfl⟩
         have HZ14:=Lib.hid (linesN_any hS HM13.out z14 hz14)
         have HZB14:=Lib.hid hz14
         clear hz14
         go_wp2_with fail
         refine HZ14.out.mono ?_
         rintro e w14 ⟨m14,rfl,hmz14,s14,he14,hM14⟩
         have HM14:=Lib.hid hM14
         have HE14:=Lib.hid he14
         have HMZ14:=Lib.hid hmz14
         have ha14:=he14.kp.a
         have hp14:=potle he14 (by rfl) (c:=0) (of_decide_eq_true (by rfl))
         clear hM14 he14 hmz14
         have hz14:=HZB14.out
         have h2:isS n lv [59,110] r=z14:=by
          have:=HB12.out
          unfold isS at this hz14 ⊢
          simp only [List.contains_cons,List.contains_nil,Bool.or_false]at this hz14 ⊢
          rw [this,hz14,Bool.false_or]
         have H2:=Lib.hid h2
         clear h2 hz14
         rcases HMZ14.out with⟨e1,e2⟩|⟨e1,e2⟩
         ·subst e1
          subst e2
          go_wp2_with fail
          refine(HMI.out _ _ HM14.out (pot_lenN HM14.out (by omega))).mono ?_
          rintro e w15 ⟨rfl,s15,he15,hM15⟩
          have HM15:=Lib.hid hM15
          have HE15:=Lib.hid he15
          have ha15:=he15.kp.a
          have hp15:=potle he15 (by rfl) (c:=1) (of_decide_eq_true (by rfl))
          clear hM15 he15
          go_wp2_with fail
          refine(HDN.out _ _ HM15.out ⟨by omega,by omega⟩).mono ?_
          rintro e w16 ⟨rfl,s16,he16,hM16⟩
          have HM16:=Lib.hid hM16
          have HE16:=Lib.hid he16
          have ha16:=he16.kp.a
          clear hM16 he16
          have hs14:s14=r:=nls_no HE14.out HZB14.out
          subst hs14
          go_wp2
          go_end0
          exact⟨rfl,_,.seq (HV2.out) (.seq (.no HB5.out (.seq HE7.out (.yes HB8.out (.seq .adv (.seq HE10.out (.no H2.out HE15.out)))))) HE16.out),HM16.out⟩
         ·subst e2
          have m1:((m14:Int)==0)=false:=by simp;omega
          go_wp2_with fail
          refine(HDN.out _ _ HM14.out ⟨by omega,by omega⟩).mono ?_
          rintro e w15 ⟨rfl,s15,he15,hM15⟩
          have HM15:=Lib.hid hM15
          have HE15:=Lib.hid he15
          have ha15:=he15.kp.a
          clear hM15 he15
          go_wp2
          go_end0
          exact⟨rfl,_,.seq (HV2.out) (.seq (.no HB5.out (.seq HE7.out (.yes HB8.out (.seq .adv (.seq HE10.out (.yes H2.out (nls_go HE14.out HZB14.out))))))) HE15.out),HM15.out⟩
end
end Go.Proofs.YtkolpaonccmgiaaGreatDoor.Q

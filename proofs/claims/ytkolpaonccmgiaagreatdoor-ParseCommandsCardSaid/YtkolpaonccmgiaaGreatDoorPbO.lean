/- What the document's own command of layer 13 (parse) leaves. Condition: at most 10,000 leaves. -/
import Derived.Test.YtkolpaonccmgiaaGreatDoorPbN
import Derived.Test.YtkolpaonccmgiaaGreatDoorSy
set_option linter.unusedVariables false
namespace Go.Proofs.YtkolpaonccmgiaaGreatDoor.Q
open Go.RowKit
section
variable {n:Nat} {lv:Nat→Lf} {la:Option Addr} {lc g:Nat} {S:ByteArray} {w0:World} {P:Nat→Prop}
def SwRl (n:Nat) (lv:Nat→Lf) (la:Option Addr) (lc:Nat) (S:ByteArray) (g:Nat) (w0:World) (P:Nat→Prop) (s:PS) (c:Int) (v:Value) (wr:World):Prop:=
 ∃(m:Nat) (r:PS),v=.int .i64 (m:Int)∧Mk (kN n lv la lc S g) w0 P r wr∧pot r≤c∧s.a≤r.a∧m≤r.a∧(m=0→∀s',Ev n lv (simbP n lv) r s'→Ev n lv (simbP n lv) s s')∧(0<m→∀s',Ev n lv (sm2P n lv) r s'→Ev n lv (simbP n lv) s s')
theorem fn_x {s:PS} (h:fnT n lv s=true):sgA n lv s.a=120∧isNm (lfA n lv s.a).s=true∧sgA n lv (s.a+1)=40∧s.d<200:=by
 unfold fnT at h
 simp only [Bool.and_eq_true,beq_iff_eq,decide_eq_true_eq]at h
 exact⟨h.1.1.1,h.1.1.2,h.1.2,h.2⟩
set_option maxHeartbeats 16000000 in
set_option maxRecDepth 100000 in
theorem commandN_any (hS:Hid (SgS n lv S)) {a0:Nat} (HL:LstN n lv la lc S g a0):Does (kN n lv la lc S g) w0 P 103 #[.pointer (some ⟨g,0,none⟩)] (comP n lv) (fun s=>a0≤s.a∧pot s≤15):=by
 intro w s hM ⟨ha,hp⟩
 have HMI:=Lib.hid (noneN_any (n:=n) (lv:=lv) (la:=la) (lc:=lc) (S:=S) (g:=g) (w0:=w0) (P:=P))
 have HON:=Lib.hid (fun k hk=>oneN_any (n:=n) (lv:=lv) (la:=la) (lc:=lc) (S:=S) (g:=g) (w0:=w0) (P:=P) k hk)
 have HRD:=Lib.hid (redN_any (n:=n) (lv:=lv) (la:=la) (lc:=lc) (S:=S) (g:=g) (w0:=w0) (P:=P) hS)
 have HRT:=Lib.hid (fun w s (h:Mk (kN n lv la lc S g) w0 P s w)=>redirectN_any hS.out w0 P w s h)
 have HCT:=Lib.hid (fun w s (h:Mk (kN n lv la lc S g) w0 P s w)=>cmpN_any hS.out w0 P w s h)
 have HWp:=Lib.hid (wantN_any (n:=n) (lv:=lv) (la:=la) (lc:=lc) (S:=S) (g:=g) (w0:=w0) (P:=P) hS ⟨#[41]⟩ 41 (by decide+kernel))
 have HCO:=Lib.hid (compN_any (w0:=w0) (P:=P) hS HL)
 have HCC:=Lib.hid (fun w s (h:Mk (kN n lv la lc S g) w0 P s w)=>cmdN_any hS.out w0 P w s h)
 have HM:=Lib.hid hM
 clear hM
 obtain⟨z,hz⟩:∃z,cmdT n lv s=z:=⟨_,rfl⟩
 have hc1:=HCC.out _ _ HM.out
 rw [hz]at hc1
 have HC1:=Lib.hid hc1
 have HCM:=Lib.hid hz
 clear hc1 hz
 cases z with
 |false=>
  have hcx:cmpT n lv s=false∧fnT n lv s=false:=by
   have h:=HCM.out
   unfold cmdT at h
   simp only [Bool.or_eq_false_iff]at h
   refine⟨h.2,?_⟩
   unfold fnT
   rw [h.1.1]
   rfl
  have HX:=Lib.hid hcx
  clear hcx
  go_enter Tryz.func103,Tryz.ntmps103
  go_wp2_with fail
  refine(HC1.out).mono ?_
  rintro e w1 ⟨rfl,hm1⟩
  have HM1:Hid (Mk (kN n lv la lc S g) w0 P s w1):=Lib.hid (by obtain⟨m,rfl⟩:=hm1;exact mk_drew HM.out m)
  clear hm1
  go_wp2_with fail
  refine(HMI.out _ _ HM1.out (pot_lenN HM1.out (by omega))).mono ?_
  rintro e w2 ⟨rfl,s2,he2,hM2⟩
  have HM2:=Lib.hid hM2
  have HE2:=Lib.hid he2
  have ha2:=he2.kp.a
  have hp2:=potle he2 (by rfl) (c:=1) (of_decide_eq_true (by rfl))
  clear hM2 he2
  go_wp2
  refine bodyPost_ret (v:=.tuple #[]) (results_none rfl _ _ _) rfl ?_
  exact⟨rfl,_,.no HX.out.1 (.no HX.out.2 (.no HCM.out HE2.out)),HM2.out⟩
 |true=>
  obtain⟨x,hx⟩:∃x,cmpT n lv s=x:=⟨_,rfl⟩
  have hc2:=fun W (h:Mk (kN n lv la lc S g) w0 P s W)=>HCT.out W s h
  rw [hx]at hc2
  have HC2:=Lib.hid hc2
  have HCX:=Lib.hid hx
  clear hc2 hx
  cases x with
  |true=>
   go_enter Tryz.func103,Tryz.ntmps103
   go_wp2_with fail
   refine(HC1.out).mono ?_
   rintro e w1 ⟨rfl,hm1⟩
   have HM1:Hid (Mk (kN n lv la lc S g) w0 P s w1):=Lib.hid (by obtain⟨m,rfl⟩:=hm1;exact mk_drew HM.out m)
   clear hm1
   go_wp2_with fail
   refine(HC2.out _ HM1.out).mono ?_
   rintro e w2 ⟨rfl,hm2⟩
   have HM2:Hid (Mk (kN n lv la lc S g) w0 P s w2):=Lib.hid (by obtain⟨m,rfl⟩:=hm2;exact mk_drew HM1.out m)
   clear hm2
   go_wp2_with fail
   refine(HCO.out _ _ HM2.out ⟨HCX.out,by omega,by omega⟩).mono ?_
   rintro e w3 ⟨rfl,s3,he3,hM3⟩
   have HM3:=Lib.hid hM3
   have HE3:=Lib.hid he3
   have ha3:=he3.kp.a
   clear hM3 he3
   go_wp2
   refine bodyPost_ret (v:=.tuple #[]) (results_none rfl _ _ _) rfl ?_
   exact⟨rfl,_,.yes HCX.out HE3.out,HM3.out⟩
  |false=>
   go_enter Tryz.func103,Tryz.ntmps103
   go_wp2_with fail
   refine(HC1.out).mono ?_
   rintro e w1 ⟨rfl,hm1⟩
   have HM1:Hid (Mk (kN n lv la lc S g) w0 P s w1):=Lib.hid (by obtain⟨m,rfl⟩:=hm1;exact mk_drew HM.out m)
   clear hm1
   go_wp2_with fail
   refine(HC2.out _ HM1.out).mono ?_
   rintro e w3 ⟨rfl,hm3⟩
   have HM3:Hid (Mk (kN n lv la lc S g) w0 P s w3):=Lib.hid (by obtain⟨m,rfl⟩:=hm3;exact mk_drew HM1.out m)
   clear hm3
   obtain⟨y4,hy4⟩:∃y,fnT n lv s=y:=⟨_,rfl⟩
   have HY4:=Lib.hid hy4
   have c0_4:=now_F HM3.out
   have c3_4:=(now_at HM3.out).1
   go_wp2
   go_cut [62]from 14 to 63 (fun v wx=>v=.bool y4∧Mk (kN n lv la lc S g) w0 P s wx)
   case first=>
    have hmk:=HM3.out
    obtain⟨nv,hB,_⟩:=hmk.own
    have c1:w3.cell? ⟨g,1,none⟩=some (.string S):=hB.cell 1
    have c5:w3.cell? ⟨g,5,none⟩=some (.int .i64 (s.d:Int)):=hB.cell 5
    have hale:=hmk.ale
    change s.a≤n at hale
    have hnn:=hmk.st.nle
    change n≤10000 at hnn
    have hz:=hS.out.1
    have hbts:=hS.out.2
    unfold fnT at hy4
    obtain⟨b120,hb120⟩:∃b,isS n lv [120] s=b:=⟨_,rfl⟩
    have HX120:=Lib.hid (fun m=>next_any hS.out _ _ sgi_x (mk_drew HM3.out m) b120 hb120)
    rw [show(sgA n lv s.a==120)=b120 from by rw [←hb120,isS_one rfl]]at hy4
    clear hmk hB
    cases b120 with
    |false=>
     obtain rfl:y4=false:=by rw [←hy4];rfl
     clear hy4 hb120
     go_wp2
     go_quiet (exact Calls.quiet_of (HX120.out _))
     have HMQ4:=Lib.hid (mk_drew HM3.out nq)
     go_wp2_with fail
     go_meet
     case rel=>exact⟨rfl,HMQ4.out⟩
    |true=>
     have hlt:=isS_le (lv:=lv) hb120 (by decide)
     obtain⟨lb,lo,hla,k0,k1⟩:=leafN HM3.out hlt
     have hsz:=lf_small HM3.out.st.sml s.a
     change(lfA n lv s.a).s.size≤100 at hsz
     obtain⟨t,htt⟩:∃t,(lfA n lv s.a).s=t:=⟨_,rfl⟩
     obtain⟨v,hv⟩:∃v,isNm t=v:=⟨_,rfl⟩
     have hin:=fun W=>refisname_any t W (by rw [←htt];omega)
     rw [hv]at hin
     have HIN:=Lib.hid hin
     obtain⟨d,hd⟩:∃d,s.d=d:=⟨_,rfl⟩
     obtain⟨a,haa⟩:∃a,s.a=a:=⟨_,rfl⟩
     obtain⟨a1,ha1⟩:∃a1,a+1=a1:=⟨_,rfl⟩
     have hw:IntKind.i64.wrap ((a:Int)+1)=(a1:Int):=by rw [IntWalk.i64_in _ (by omega),←ha1];rfl
     rw [htt]at k1
     rw [htt,hv,hd,haa,ha1,Bool.true_and]at hy4
     rw [haa]at c3_4 k1 hlt
     rw [hla]at c0_4
     rw [hd]at c5
     have q0:(0:Int)≤(a:Int):=by omega
     have q1:(a:Int)<(n:Int):=by omega
     have w0':(0:Int)≤(a1:Int):=by omega
     clear hb120 hla k0 htt hv hin hd haa hsz
     by_cases hlt1:a1<n
     ·have hbt:=hbts a1 hlt1
      have q1':a1<S.size:=by omega
      have u1:(a1:Int)<(S.size:Int):=by omega
      have u2:decide ((a1:Int)<(S.size:Int))=true:=decide_eq_true u1
      have u3:decide (a1<S.size)=true:=decide_eq_true q1'
      obtain⟨y,hyy⟩:∃y,sgA n lv a1=y:=⟨_,rfl⟩
      rw [hyy]at hbt hy4
      have hbb:S[a1].toNat=y:=by rw [←bt_eq q1',hbt]
      clear hbt hyy ha1
      by_cases h40:y=40
      ·subst h40
       by_cases hd2:d<200
       ·have u4:(d:Int)<200:=by omega
        have u5:decide ((d:Int)<200)=true:=decide_eq_true u4
        obtain rfl:y4=v:=by rw [←hy4,decide_eq_true hd2];simp
        clear hy4
        go_wp2
        go_quiet (first|with_reducible exact Calls.quiet_of (HX120.out _)|with_reducible exact Calls.quiet_of_same (HIN.out _))
        have HMQ4:=Lib.hid (mk_drew HM3.out nq)
        go_wp2_with fail
        go_meet
        case rel=>exact⟨rfl,HMQ4.out⟩
       ·have u4:¬(d:Int)<200:=by omega
        have u5:decide ((d:Int)<200)=false:=decide_eq_false u4
        obtain rfl:y4=false:=by rw [←hy4,decide_eq_false hd2,Bool.and_false]
        clear hy4
        go_wp2
        go_quiet (exact Calls.quiet_of (HX120.out _))
        have HMQ4:=Lib.hid (mk_drew HM3.out nq)
        go_wp2_with fail
        go_meet
        case rel=>exact⟨rfl,HMQ4.out⟩
      ·have u4:((y:Int)==40)=false:=by simp;omega
       obtain rfl:y4=false:=by
        rw [←hy4,show(y==40)=false from by simpa using h40]
        simp
       clear hy4 h40
       go_wp2
       go_quiet (exact Calls.quiet_of (HX120.out _))
       have HMQ4:=Lib.hid (mk_drew HM3.out nq)
       go_wp2_with fail
       go_meet
       case rel=>exact⟨rfl,HMQ4.out⟩
     ·have u1:¬(a1:Int)<(S.size:Int):=by omega
      have u2:decide ((a1:Int)<(S.size:Int))=false:=decide_eq_false u1
      have u3:decide (a1<S.size)=false:=by simp;omega
      have e2:(sgA n lv a1==40)=false:=by
       have:sgA n lv a1≠40:=fun e=>by
        have:=sg_le (lv:=lv) (n:=n) (i:=a1) (by omega)
        omega
       simpa using this
      obtain rfl:y4=false:=by rw [←hy4,e2];simp
      clear hy4 e2 ha1
      go_wp2
      go_quiet (exact Calls.quiet_of (HX120.out _))
      have HMQ4:=Lib.hid (mk_drew HM3.out nq)
      go_wp2_with fail
      go_meet
      case rel=>exact⟨rfl,HMQ4.out⟩
   case rest=>
    obtain⟨rfl,hMc4⟩:=hcut
    have HMQ4:=Lib.hid hMc4
    clear c0_4 c3_4 hMc4 hy4
    obtain⟨wq4,hwq4⟩:∃W,W=wc:=⟨_,rfl⟩
    rw [←hwq4]at HMQ4 ⊢
    clear hwq4
    cases y4 with
    |true=>
     have HFN:=Lib.hid (fn_x HY4.out)
     go_wp2_with fail
     refine(begin_any 16 HMQ4.out (pot_lenN HMQ4.out (by omega)) (fun _=>by have:=HFN.out.2.2.2;omega)).mono ?_
     rintro e w8 ⟨rfl,hM8⟩
     have HM8:Hid (Mk (kN n lv la lc S g) w0 P (bgn 16 true s) w8):=Lib.hid hM8
     have hp8:=pot_bgn 16 true s
     have ha8:(bgn 16 true s).a=s.a:=rfl
     clear hM8
     have hlt1:=sg_le (lv:=lv) (n:=n) (i:=s.a) (by have:=HFN.out.1;omega)
     have hlt2:=sg_le (lv:=lv) (n:=n) (i:=s.a+1) (by have:=HFN.out.2.2.1;omega)
     have HLT:=Lib.hid (And.intro hlt1 hlt2)
     clear hlt1 hlt2
     go_wp2_with fail
     refine(HON.out 7 rfl _ _ HM8.out ⟨HLT.out.1,pot_lenN HM8.out (by omega)⟩).mono ?_
     rintro e w9 ⟨rfl,s9,he9,hM9⟩
     have hp9:=potle he9 (by rfl) (c:= -29) (of_decide_eq_true (by rfl))
     have ha9:s9.a=s.a+1:=by cases he9 with|node h=>cases h;rfl
     have HM9:=Lib.hid hM9
     have HE9:=Lib.hid he9
     clear hM9 he9
     obtain⟨ap10,ax10,e3_10,f3_10,hw10,hM10⟩:=adv_all HM9.out (by have:=HLT.out.2;omega)
     have HM10:=Lib.hid hM10
     clear hM10
     have hp10:=pot_nxt s9
     have ha10:(nxt s9).a=s9.a+1:=rfl
     go_wp2_with fail
     refine(HWp.out _ _ HM10.out (pot_lenN HM10.out (by omega))).mono ?_
     rintro e w11 ⟨rfl,s11,he11,hM11⟩
     have HM11:=Lib.hid hM11
     have HE11:=Lib.hid he11
     have ha11:=he11.kp.a
     have hp11:=potle he11 (by rfl) (c:=1) (of_decide_eq_true (by rfl))
     clear hM11 he11
     obtain⟨z12,hz12⟩:∃z,isS n lv [110] s11=z:=⟨_,rfl⟩
     have HZ12:=Lib.hid (linesN_any hS HM11.out z12 hz12)
     have HZB12:=Lib.hid hz12
     clear hz12
     go_wp2_with fail
     refine HZ12.out.mono ?_
     rintro e w12 ⟨m12,rfl,hmz12,s12,he12,hM12⟩
     have HM12:=Lib.hid hM12
     have HE12:=Lib.hid he12
     have HMZ12:=Lib.hid hmz12
     have ha12:=he12.kp.a
     have hp12:=potle he12 (by rfl) (c:=0) (of_decide_eq_true (by rfl))
     clear hM12 he12 hmz12
     obtain⟨b,hb⟩:∃b,cmpT n lv s12=b:=⟨_,rfl⟩
     have hc:=HCT.out _ _ HM12.out
     rw [hb]at hc
     have HC:=Lib.hid hc
     have HB:=Lib.hid hb
     clear hb hc
     cases b with
     |true=>
      go_wp2_with fail
      refine(HC.out).mono ?_
      rintro e w13 ⟨rfl,hm13⟩
      have HM13:Hid (Mk (kN n lv la lc S g) w0 P s12 w13):=Lib.hid (by obtain⟨m,rfl⟩:=hm13;exact mk_drew HM12.out m)
      clear hm13
      go_wp2_with fail
      refine(HCO.out _ _ HM13.out ⟨HB.out,by omega,by omega⟩).mono ?_
      rintro e w14 ⟨rfl,s14,he14,hM14⟩
      have HM14:=Lib.hid hM14
      have HE14:=Lib.hid he14
      have ha14:=he14.kp.a
      clear hM14 he14
      have HEV15:Hid (Ev n lv (fnbP n lv) (bgn 16 true s) s14):=Lib.hid (.seq HE9.out (.seq .adv (.seq HE11.out (.seq HE12.out (.yes HB.out HE14.out)))))
      go_wp2_with fail
      refine(end_any (k:=16) (s:=s) HEV15.out HM14.out (fun _=>by have:=HFN.out.2.2.2;omega)).mono ?_
      rintro e w15 ⟨rfl,hM15⟩
      have HM15:=Lib.hid hM15
      clear hM15
      go_wp2
      refine bodyPost_ret (v:=.tuple #[]) (results_none rfl _ _ _) rfl ?_
      exact⟨rfl,_,.no HCX.out (.yes HY4.out (.node HEV15.out)),HM15.out⟩
     |false=>
      go_wp2_with fail
      refine(HC.out).mono ?_
      rintro e w13 ⟨rfl,hm13⟩
      have HM13:Hid (Mk (kN n lv la lc S g) w0 P s12 w13):=Lib.hid (by obtain⟨m,rfl⟩:=hm13;exact mk_drew HM12.out m)
      clear hm13
      go_wp2_with fail
      refine(HMI.out _ _ HM13.out (pot_lenN HM13.out (by omega))).mono ?_
      rintro e w14 ⟨rfl,s14,he14,hM14⟩
      have HM14:=Lib.hid hM14
      have HE14:=Lib.hid he14
      have ha14:=he14.kp.a
      have hp14:=potle he14 (by rfl) (c:=1) (of_decide_eq_true (by rfl))
      clear hM14 he14
      have HEV15:Hid (Ev n lv (fnbP n lv) (bgn 16 true s) s14):=Lib.hid (.seq HE9.out (.seq .adv (.seq HE11.out (.seq HE12.out (.no HB.out HE14.out)))))
      go_wp2_with fail
      refine(end_any (k:=16) (s:=s) HEV15.out HM14.out (fun _=>by have:=HFN.out.2.2.2;omega)).mono ?_
      rintro e w15 ⟨rfl,hM15⟩
      have HM15:=Lib.hid hM15
      clear hM15
      go_wp2
      refine bodyPost_ret (v:=.tuple #[]) (results_none rfl _ _ _) rfl ?_
      exact⟨rfl,_,.no HCX.out (.yes HY4.out (.node HEV15.out)),HM15.out⟩
    |false=>
     go_wp2_with fail
     refine(begin_any 5 HMQ4.out (pot_lenN HMQ4.out (by omega)) (fun h=>absurd h (by decide))).mono ?_
     rintro e w8 ⟨rfl,hM8⟩
     have HM8:Hid (Mk (kN n lv la lc S g) w0 P (bgn 5 false s) w8):=Lib.hid hM8
     have hp8:=pot_bgn 5 false s
     have ha8:(bgn 5 false s).a=s.a:=rfl
     clear hM8
     go_wp2
     go_loopw [4] (fun v wr=>SwRl n lv la lc S g w0 P (bgn 5 false s) 60 v wr) (fun _ wr=>n+1 - atQ g wr)
     case atStart=>exact⟨0,_,rfl,HM8.out,by omega,Nat.le_refl _,Nat.zero_le _,fun _ _ h=>h,fun h=>absurd h (Nat.lt_irrefl 0)⟩
     case round=>
      obtain⟨m,r,rfl,hMr,hpr,har,hmr,hk1,hk2⟩:=hrel
      have hale:=hMr.ale
      have hnle:=hMr.st.nle
      change r.a≤n at hale
      change n≤10000 at hnle
      have HK1:=Lib.hid hk1
      have HK2:=Lib.hid hk2
      have HMR:=Lib.hid hMr
      obtain⟨rr,hrr⟩:∃b,rdrT n lv r=b:=⟨_,rfl⟩
      have hc:=HRT.out _ _ hMr
      rw [hrr]at hc
      have HC:=Lib.hid hc
      have HRR:=Lib.hid hrr
      clear hMr hk1 hk2 hc hrr
      cases rr with
      |true=>
       go_wp2_with fail
       refine(HC.out).mono ?_
       rintro e w9 ⟨rfl,hm9⟩
       have HM9:Hid (Mk (kN n lv la lc S g) w0 P r w9):=Lib.hid (by obtain⟨m,rfl⟩:=hm9;exact mk_drew HMR.out m)
       clear hm9
       go_wp2_with fail
       refine(HRD.out _ _ HM9.out ⟨HRR.out,by omega⟩).mono ?_
       rintro e w10 ⟨rfl,s10,he10,hM10⟩
       have HM10:=Lib.hid hM10
       have HE10:=Lib.hid he10
       have ha10:=he10.kp.a
       have hp10:=potle he10 (by rfl) (c:= -28) (of_decide_eq_true (by rfl))
       clear hM10 he10
       go_wp2
       go_roundw
       case rel=>exact⟨m,_,rfl,HM10.out,by omega,by omega,by(have:=HE10.out.red_lt;omega),fun e s' h=>HK1.out e _ (sm_red HRR.out HE10.out h),fun e s' h=>HK2.out e _ (sm2_red HRR.out HE10.out h)⟩
       case measure=>
        have e1:=atQ_of HM10.out
        have e2:=atQ_of HMR.out
        have:=HE10.out.red_lt
        have hmm:=HM10.out.ale
        change s10.a≤n at hmm
        rw [e1,e2]
        omega
      |false=>
       go_wp2_with fail
       refine(HC.out).mono ?_
       rintro e w9 ⟨rfl,hm9⟩
       have HM9:Hid (Mk (kN n lv la lc S g) w0 P r w9):=Lib.hid (by obtain⟨m,rfl⟩:=hm9;exact mk_drew HMR.out m)
       clear hm9
       obtain⟨y10,hy10⟩:∃y,wrdT n lv r=y:=⟨_,rfl⟩
       have HY10:=Lib.hid hy10
       have c0_10:=now_F HM9.out
       have c3_10:=(now_at HM9.out).1
       go_wp2
       go_cut [117]from 94 to 118 (fun v wx=>v=.bool y10∧Mk (kN n lv la lc S g) w0 P r wx)
       case first=>
        by_cases hlt10:r.a<n
        ·obtain⟨lb,lo,hla10,k0_10,k1_10⟩:=leafN HM9.out hlt10
         have hsz10:=lf_small HM9.out.st.sml r.a
         change(lfA n lv r.a).s.size≤100 at hsz10
         obtain⟨a10,haa10⟩:∃a,r.a=a:=⟨_,rfl⟩
         obtain⟨k10,hkk10⟩:∃k,(lfA n lv r.a).k=k:=⟨_,rfl⟩
         obtain⟨t10,htt10⟩:∃t,(lfA n lv r.a).s=t:=⟨_,rfl⟩
         have hyw10:wrdT n lv r=decide (k10=6):=by unfold wrdT;rw [hkk10]
         have hyn10:namT n lv r=(decide (k10=6)&& isNm t10):=by unfold namT;rw [hyw10,htt10]
         rw [hkk10]at k0_10
         rw [htt10]at k1_10 hsz10
         rw [haa10]at c3_10 k0_10 k1_10
         rw [hla10]at c0_10
         have q0_10:(0:Int)≤(a10:Int):=by omega
         have q1_10:(a10:Int)<(n:Int):=by omega
         have q2_10:decide (a10<n)=true:=by simp;omega
         have q3_10:decide ((a10:Int)<(n:Int))=true:=decide_eq_true q1_10
         clear hkk10 htt10 hla10 haa10
         rw [hyw10]at hy10
         clear hyn10 hyw10 hsz10 k1_10
         by_cases h6_10:k10=6
         ·obtain rfl:y10=true:=by rw [←hy10];exact decide_eq_true h6_10
          subst h6_10
          clear hy10
          go_wp2
          go_quiet (fail)
          have HMQ10:=Lib.hid (mk_drew HM9.out nq)
          go_wp2_with fail
          go_meet
          case rel=>exact⟨rfl,HMQ10.out⟩
         ·obtain rfl:y10=false:=by rw [←hy10];exact decide_eq_false h6_10
          have u6_10:(k10==6)=false:=by simpa using h6_10
          clear hy10 h6_10
          go_wp2
          go_quiet (fail)
          have HMQ10:=Lib.hid (mk_drew HM9.out nq)
          go_wp2_with fail
          go_meet
          case rel=>exact⟨rfl,HMQ10.out⟩
        ·obtain⟨a10,haa10⟩:∃a,r.a=a:=⟨_,rfl⟩
         obtain rfl:y10=false:=by
          rw [←hy10]
          cases e:wrdT n lv r with
          |false=>first|rfl|(unfold namT;rw [e];rfl)
          |true=>have:=wrd_le e;omega
         rw [haa10]at c3_10
         have q1_10:¬(a10:Int)<(n:Int):=by omega
         have q2_10:decide (a10<n)=false:=by simp;omega
         have q3_10:decide ((a10:Int)<(n:Int))=false:=decide_eq_false q1_10
         clear haa10 hy10
         go_wp2
         go_quiet (fail)
         have HMQ10:=Lib.hid (mk_drew HM9.out nq)
         go_wp2_with fail
         go_meet
         case rel=>exact⟨rfl,HMQ10.out⟩
       case rest=>
        obtain⟨rfl,hMc10⟩:=hcut
        have HMQ10:=Lib.hid hMc10
        clear c0_10 c3_10 hMc10 hy10
        obtain⟨wq10,hwq10⟩:∃W,W=wc:=⟨_,rfl⟩
        rw [←hwq10]at HMQ10 ⊢
        clear hwq10
        cases y10 with
        |true=>
         obtain⟨y11,hy11⟩:∃y,(decide (m=0)&& decide (0<assignN (lfA n lv r.a).s))=y:=⟨_,rfl⟩
         have HY11:=Lib.hid hy11
         have c0_11:=now_F HMQ10.out
         have c3_11:=(now_at HMQ10.out).1
         go_wp2
         go_cut [134]from 118 to 135 (fun v wx=>v=.bool y11∧Mk (kN n lv la lc S g) w0 P r wx)
         case first=>
          obtain⟨lb,lo,hla,k0,k1⟩:=leafN HMQ10.out (wrd_le HY10.out)
          have hsz:=lf_small HMQ10.out.st.sml r.a
          change(lfA n lv r.a).s.size≤100 at hsz
          have hlt:=wrd_le HY10.out
          obtain⟨a,haa⟩:∃a,r.a=a:=⟨_,rfl⟩
          obtain⟨t,htt⟩:∃t,(lfA n lv r.a).s=t:=⟨_,rfl⟩
          rw [htt]at k1 hsz hy11
          rw [haa]at c3_11 k1 hlt
          rw [hla]at c0_11
          have q0:(0:Int)≤(a:Int):=by omega
          have q1:(a:Int)<(n:Int):=by omega
          have HAS:=Lib.hid (fun W=>refassign_any t W (by omega))
          obtain⟨z,hz⟩:∃z,assignN t=z:=⟨_,rfl⟩
          rw [hz]at HAS hy11
          clear hla htt haa k0 hz
          by_cases hm0:m=0
          ·subst hm0
           by_cases hz0:0<z
           ·obtain rfl:y11=true:=by rw [←hy11];simp [hz0]
            have u1:(0:Int)<(z:Int):=by omega
            have u2:decide (0<z)=true:=decide_eq_true hz0
            clear hy11
            go_wp2
            go_quiet (exact Calls.quiet_of_same (HAS.out _))
            have HMQ11:=Lib.hid (mk_drew HMQ10.out nq)
            go_wp2_with fail
            go_meet
            case rel=>exact⟨rfl,HMQ11.out⟩
           ·obtain rfl:y11=false:=by rw [←hy11];simp [hz0]
            have u1:¬(0:Int)<(z:Int):=by omega
            have u2:decide (0<z)=false:=decide_eq_false hz0
            clear hy11
            go_wp2
            go_quiet (exact Calls.quiet_of_same (HAS.out _))
            have HMQ11:=Lib.hid (mk_drew HMQ10.out nq)
            go_wp2_with fail
            go_meet
            case rel=>exact⟨rfl,HMQ11.out⟩
          ·obtain rfl:y11=false:=by rw [←hy11];simp [hm0]
           have u1:((m:Int)==0)=false:=by simp;omega
           clear hy11
           go_wp2
           go_quiet (fail)
           have HMQ11:=Lib.hid (mk_drew HMQ10.out nq)
           go_wp2_with fail
           go_meet
           case rel=>exact⟨rfl,HMQ11.out⟩
         case rest=>
          obtain⟨rfl,hMc11⟩:=hcut
          have HMQ11:=Lib.hid hMc11
          clear c0_11 c3_11 hMc11 hy11
          obtain⟨wq11,hwq11⟩:∃W,W=wc:=⟨_,rfl⟩
          rw [←hwq11]at HMQ11 ⊢
          clear hwq11
          cases y11 with
          |true=>
           obtain⟨hm0,hz0⟩:m=0∧decide (0<assignN (lfA n lv r.a).s)=true:=by
            have h:=HY11.out
            simp only [Bool.and_eq_true,decide_eq_true_eq]at h
            exact⟨h.1,decide_eq_true h.2⟩
           have HA:=Lib.hid (asg_of (lv:=lv) true true HY10.out hz0)
           have HM00:=Lib.hid hm0
           clear hz0
           subst hm0
           go_wp2_with fail
           refine(HON.out 6 rfl _ _ HMQ11.out ⟨wrd_le HY10.out,pot_lenN HMQ11.out (by omega)⟩).mono ?_
           rintro e w12 ⟨rfl,s12,he12,hM12⟩
           have HM12:=Lib.hid hM12
           have HE12:=Lib.hid he12
           have ha12:=he12.kp.a
           have hp12:=potle he12 (by rfl) (c:= -29) (of_decide_eq_true (by rfl))
           clear hM12 he12
           go_wp2
           go_roundw
           case rel=>exact⟨0,_,rfl,HM12.out,by omega,by omega,by(have:=HE12.out.word_lt;omega),fun _ s' h=>HK1.out (by trivial) _ (sm_asg HRR.out HA.out HE12.out h),(fun h=>absurd h (Nat.lt_irrefl 0))⟩
           case measure=>
            have e1:=atQ_of HM12.out
            have e2:=atQ_of HMR.out
            have:=HE12.out.word_lt
            have hmm:=HM12.out.ale
            change s12.a≤n at hmm
            rw [e1,e2]
            omega
          |false=>
           have hwm:IntKind.i64.wrap ((m:Int)+1)=((m+1:Nat):Int):=by rw [IntWalk.i64_in _ (by omega)];rfl
           have HF:Hid (∀s',Ev n lv (sm2P n lv) r s'→Ev n lv (simbP n lv) (bgn 5 false s) s'):=Lib.hid (by
            by_cases hm0:m=0
            ·have h:=HY11.out
             have hz0:decide (0<assignN (lfA n lv r.a).s)=false:=by
              rw [hm0]at h
              simpa using h
             exact fun s' h=>HK1.out hm0 _ (sm_word HRR.out (asg_of (lv:=lv) true false HY10.out hz0) h)
            ·exact fun s' h=>HK2.out (by omega) _ h)
           go_wp2_with fail
           refine(HON.out 7 rfl _ _ HMQ11.out ⟨wrd_le HY10.out,pot_lenN HMQ11.out (by omega)⟩).mono ?_
           rintro e w12 ⟨rfl,s12,he12,hM12⟩
           have HM12:=Lib.hid hM12
           have HE12:=Lib.hid he12
           have ha12:=he12.kp.a
           have hp12:=potle he12 (by rfl) (c:= -29) (of_decide_eq_true (by rfl))
           clear hM12 he12
           go_wp2
           go_roundw
           case rel=>exact⟨m+1,_,rfl,HM12.out,by omega,by omega,by(have:=HE12.out.word_lt;omega),(fun h=>absurd h (Nat.succ_ne_zero m)),fun _ s' h=>HF.out _ (sm2_word HRR.out HY10.out HE12.out h)⟩
           case measure=>
            have e1:=atQ_of HM12.out
            have e2:=atQ_of HMR.out
            have:=HE12.out.word_lt
            have hmm:=HM12.out.ale
            change s12.a≤n at hmm
            rw [e1,e2]
            omega
        |false=>
         have HE10:Hid (Ev n lv (simbP n lv) (bgn 5 false s) r):=Lib.hid (by
          by_cases hm0:m=0
          ·exact HK1.out hm0 _ (sm_word HRR.out (asg_of (lv:=lv) false _ HY10.out rfl) (sm2_end HRR.out HY10.out))
          ·exact HK2.out (by omega) _ (sm2_end HRR.out HY10.out))
         have HEV12:Hid (Ev n lv (simbP n lv) (bgn 5 false s) r):=Lib.hid (HE10.out)
         go_wp2_with fail
         refine(end_any (k:=5) (s:=s) HEV12.out HMQ10.out (fun h=>absurd h (by decide))).mono ?_
         rintro e w12 ⟨rfl,hM12⟩
         have HM12:=Lib.hid hM12
         clear hM12
         go_wp2
         try rw [Exit.noGoto_normal]
         go_end0
         exact⟨rfl,_,.no HCX.out (.no HY4.out (.yes HCM.out (.node HEV12.out))),HM12.out⟩
end
end Go.Proofs.YtkolpaonccmgiaaGreatDoor.Q

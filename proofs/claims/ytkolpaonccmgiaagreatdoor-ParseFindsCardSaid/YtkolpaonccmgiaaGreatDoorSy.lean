/- What simple, function, form, compound and command  -/
import Derived.Test.YtkolpaonccmgiaaGreatDoorSx
import Derived.Laws.EntriesVeiled
set_option linter.unusedVariables false
namespace Go.Proofs.YtkolpaonccmgiaaGreatDoor.Q
set_option linter.unusedSectionVars false
set_option linter.unusedVariables false
open Go.RowKit
section
variable {n:Nat} {lv:Nat→Lf} {la:Option Addr} {lc g:Nat} {w0:World} {P:Nat→Prop}
set_option maxRecDepth 100000 in
set_option maxHeartbeats 2000000 in
theorem assigns_any (t:ByteArray) (w:World) (ht:t.size≤1000000):Calls Tryz.prog 151 #[.string t] w fun e w'=>e=.returned (.bool (decide (0<assignN t)))∧Below w.heap.size w w':=by
 have hc:=assign_any t w ht
 obtain⟨b,hb⟩:∃b,decide (0<assignN t)=b:=⟨_,rfl⟩
 obtain⟨x,y,hxy⟩:∃x y:ByteArray,assignV t=.tuple #[.string x,.string y,.bool b]:=by
  unfold assignV
  split
  ·rename_i h
   have:decide (0<assignN t)=false:=decide_eq_false (by omega)
   rw [this]at hb
   subst hb
   exact⟨_,_,rfl⟩
  ·rename_i h
   have:decide (0<assignN t)=true:=decide_eq_true (by omega)
   rw [this]at hb
   subst hb
   exact⟨_,_,rfl⟩
 rw [hxy]at hc
 rw [hb]
 have HC:=Lib.hid hc
 clear hc hxy hb
 go_enter Tryz.func151,Tryz.ntmps151
 go_wp2_with fail
 refine HC.out.mono ?_
 rintro e w1 ⟨rfl,hb1⟩
 have HB1:=Lib.hid hb1
 clear hb1
 go_wp2
 go_ret
 exact⟨rfl,HB1.out⟩
def SmRl (n:Nat) (lv:Nat→Lf) (la:Option Addr) (lc g:Nat) (w0:World) (P:Nat→Prop) (s:PS) (c:Int) (v:Value) (wr:World):Prop:=
 ∃(nm:Bool) (r:PS),v=.bool nm∧Mk (kP n lv la lc g) w0 P r wr∧pot r≤c∧s.a≤r.a∧(nm=false→∀s',Ev n lv (simbP n lv) r s'→Ev n lv (simbP n lv) s s')∧(nm=true→∀s',Ev n lv (sm2P n lv) r s'→Ev n lv (simbP n lv) s s')
theorem sm_red {r r1 s':PS} (hr:rdrT n lv r=true) (he:Ev n lv (redP n lv) r r1) (h:Ev n lv (simbP n lv) r1 s'):Ev n lv (simbP n lv) r s':=by
 cases h with|seq h1 h2=>exact .seq (.go (by unfold sm1T;rw [hr];rfl) (.yes hr he) rfl .skip h1) h2
theorem sm_asg {r r1 s':PS} (hr:rdrT n lv r=false) (ha:asgT n lv r=true) (he:Ev n lv (.node 6 false .adv) r r1) (h:Ev n lv (simbP n lv) r1 s'):Ev n lv (simbP n lv) r s':=by
 cases h with|seq h1 h2=>exact .seq (.go (by unfold sm1T;rw [ha,Bool.or_true]) (.no hr he) rfl .skip h1) h2
theorem sm2_red {r r1 s':PS} (hr:rdrT n lv r=true) (he:Ev n lv (redP n lv) r r1) (h:Ev n lv (sm2P n lv) r1 s'):Ev n lv (sm2P n lv) r s':=
 .go (by unfold sm2T;rw [hr];rfl) (.yes hr he) rfl .skip h
theorem sm2_word {r r1 s':PS} (hr:rdrT n lv r=false) (hw:wrdT n lv r=true) (he:Ev n lv wordP r r1) (h:Ev n lv (sm2P n lv) r1 s'):Ev n lv (sm2P n lv) r s':=
 .go (by unfold sm2T;rw [hw,Bool.or_true]) (.no hr he) rfl .skip h
theorem sm_word {r s':PS} (hr:rdrT n lv r=false) (ha:asgT n lv r=false) (h:Ev n lv (sm2P n lv) r s'):Ev n lv (simbP n lv) r s':=
 .seq (.stop (by unfold sm1T;rw [hr,ha];rfl)) h
theorem sm2_end {r:PS} (hr:rdrT n lv r=false) (hw:wrdT n lv r=false):Ev n lv (sm2P n lv) r r:=.stop (by unfold sm2T;rw [hr,hw];rfl)
theorem asg_of {r:PS} (b c:Bool) (hw:wrdT n lv r=b) (ha:decide (0<assignN (lfA n lv r.a).s)=c):asgT n lv r=(b && c):=by unfold asgT;rw [hw,ha]
set_option maxRecDepth 100000 in
set_option maxHeartbeats 2000000 in
theorem simple_any:Does (kP n lv la lc g) w0 P 122 #[.pointer (some ⟨g,0,none⟩)] (simbP n lv) (fun s=>pot s≤50):=by
 intro w s hM hp
 have HWC:=Lib.hid (fun w s (h:Mk (kP n lv la lc g) w0 P s w)=>wordcomes_any (n:=n) (lv:=lv) (la:=la) (lc:=lc) (g:=g) w0 P w s h)
 have HRT:=Lib.hid (fun w s (h:Mk (kP n lv la lc g) w0 P s w)=>redirect_any (n:=n) (lv:=lv) (la:=la) (lc:=lc) (g:=g) w0 P w s h)
 have HRD:=Lib.hid (redirectM_any (n:=n) (lv:=lv) (la:=la) (lc:=lc) (g:=g) (w0:=w0) (P:=P))
 have HNA:=Lib.hid (node_any 6 50 #[.pointer (some ⟨g,0,none⟩)] #[] (enter_of _ _ _ Tryz.func50 (by kernel_rfl) rfl) .adv _ (one_any (n:=n) (lv:=lv) (la:=la) (lc:=lc) (g:=g) (w0:=w0) (P:=P)))
 have hmf:=mkfun
 have HWO:=Lib.hid (word_any (n:=n) (lv:=lv) (la:=la) (lc:=lc) (g:=g) (w0:=w0) (P:=P))
 have HM:=Lib.hid hM
 clear hM
 go_enter Tryz.func122,Tryz.ntmps122
 go_wp2
 go_step3
 go_wp2
 go_step3
 go_wp2
 go_loopw [2] (fun v wr=>SmRl n lv la lc g w0 P s 50 v wr) (fun _ wr=>n+1 - atM g wr)
 case atStart=>exact⟨false,s,rfl,HM.out,hp,Nat.le_refl _,fun _ _ h=>h,fun h=>by cases h⟩
 case round=>
  obtain⟨nm,r,rfl,hMr,hpr,har,hk1,hk2⟩:=hrel
  obtain⟨rr,hrr⟩:∃b,rdrT n lv r=b:=⟨_,rfl⟩
  obtain⟨ww,hww⟩:∃b,wrdT n lv r=b:=⟨_,rfl⟩
  obtain⟨aa,haa⟩:∃b,decide (0<assignN (lfA n lv r.a).s)=b:=⟨_,rfl⟩
  have HAS:=Lib.hid (asg_of ww aa hww haa)
  have hc:=HRT.out _ _ hMr
  rw [hrr]at hc
  have HC:=Lib.hid hc
  have hc2:=fun W (h:Mk (kP n lv la lc g) w0 P r W)=>HWC.out W r h
  rw [hww]at hc2
  have HC2:=Lib.hid hc2
  have hsz:=lf_small hMr.st.sml r.a
  change(lfA n lv r.a).s.size≤100 at hsz
  obtain⟨t,ht⟩:∃t,(lfA n lv r.a).s=t:=⟨_,rfl⟩
  have hc3:=fun W (h:Mk (kP n lv la lc g) w0 P r W)=>(show W.cell? ⟨g,3,none⟩=some (.string (lfA n lv r.a).s)from by
   obtain⟨nv,hB,_⟩:=h.own
   exact hB.cell 3)
  rw [ht]at haa hsz hc3
  have hia:=fun W=>assigns_any t W (by omega)
  rw [haa]at hia
  have HIA:=Lib.hid hia
  have HC3:=Lib.hid hc3
  have HMR:=Lib.hid hMr
  have HK1:=Lib.hid hk1
  have HK2:=Lib.hid hk2
  have HRR:=Lib.hid hrr
  have HWW:=Lib.hid hww
  clear hMr hk1 hk2 hrr hww hc hc2 hc3 hia haa ht
  cases rr with
  |true=>
   cases nm with
   |false=>
    go_wp2_with fail
    refine(HC.out).mono ?_
    rintro e w1 ⟨rfl,hb1⟩
    have HM1:=Lib.hid (HMR.out.below hb1)
    clear hb1
    go_wp2_with fail
    refine(HRD.out _ _ HM1.out ⟨HRR.out,by omega⟩).mono ?_
    rintro e w2 ⟨rfl,s2,he2,hM2⟩
    have HM2:=Lib.hid hM2
    have HE2:=Lib.hid he2
    have ha2:=he2.kp.a
    have hp2:=potle he2 (by rfl) (c:= -28) (of_decide_eq_true (by rfl))
    clear hM2 he2
    go_wp2
    go_roundw
    case rel=>exact⟨false,_,rfl,HM2.out,by omega,by omega,fun _ s' h=>HK1.out (by trivial) _ (sm_red HRR.out HE2.out h),fun h=>by cases h⟩
    case measure=>
     have e1:=atM_of HM2.out
     have e2:=atM_of HMR.out
     have:=HE2.out.red_lt
     have:=HM2.out.ale
     change s2.a≤n at this
     rw [e1,e2]
     omega
   |true=>
    go_wp2_with fail
    refine(HC.out).mono ?_
    rintro e w1 ⟨rfl,hb1⟩
    have HM1:=Lib.hid (HMR.out.below hb1)
    clear hb1
    go_wp2_with fail
    refine(HRD.out _ _ HM1.out ⟨HRR.out,by omega⟩).mono ?_
    rintro e w2 ⟨rfl,s2,he2,hM2⟩
    have HM2:=Lib.hid hM2
    have HE2:=Lib.hid he2
    have ha2:=he2.kp.a
    have hp2:=potle he2 (by rfl) (c:= -28) (of_decide_eq_true (by rfl))
    clear hM2 he2
    go_wp2
    go_roundw
    case rel=>exact⟨true,_,rfl,HM2.out,by omega,by omega,(fun h=>by cases h),fun _ s' h=>HK2.out (by trivial) _ (sm2_red HRR.out HE2.out h)⟩
    case measure=>
     have e1:=atM_of HM2.out
     have e2:=atM_of HMR.out
     have:=HE2.out.red_lt
     have:=HM2.out.ale
     change s2.a≤n at this
     rw [e1,e2]
     omega
  |false=>
   cases ww with
   |false=>
    cases nm with
    |false=>
     go_wp2_with fail
     refine(HC.out).mono ?_
     rintro e w1 ⟨rfl,hb1⟩
     have HM1:=Lib.hid (HMR.out.below hb1)
     clear hb1
     go_wp2_with fail
     refine(HC2.out _ HM1.out).mono ?_
     rintro e w2 ⟨rfl,hb2⟩
     have HM2:=Lib.hid (HM1.out.below hb2)
     clear hb2
     go_wp2
     rw [Exit.noGoto_normal]
     go_end0
     exact⟨rfl,_,HK1.out (by trivial) _ (sm_word HRR.out HAS.out (sm2_end HRR.out HWW.out)),HM2.out⟩
    |true=>
     go_wp2_with fail
     refine(HC.out).mono ?_
     rintro e w1 ⟨rfl,hb1⟩
     have HM1:=Lib.hid (HMR.out.below hb1)
     clear hb1
     go_wp2_with fail
     refine(HC2.out _ HM1.out).mono ?_
     rintro e w2 ⟨rfl,hb2⟩
     have HM2:=Lib.hid (HM1.out.below hb2)
     clear hb2
     go_wp2
     rw [Exit.noGoto_normal]
     go_end0
     exact⟨rfl,_,HK2.out (by trivial) _ (sm2_end HRR.out HWW.out),HM2.out⟩
   |true=>
    cases nm with
    |true=>
     go_wp2_with fail
     refine(HC.out).mono ?_
     rintro e w1 ⟨rfl,hb1⟩
     have HM1:=Lib.hid (HMR.out.below hb1)
     clear hb1
     go_wp2_with fail
     refine(HC2.out _ HM1.out).mono ?_
     rintro e w2 ⟨rfl,hb2⟩
     have HM2:=Lib.hid (HM1.out.below hb2)
     clear hb2
     go_wp2_with fail
     refine(HWO.out _ _ HM2.out ⟨wrd_le HWW.out,pot_len HM2.out (by omega)⟩).mono ?_
     rintro e w3 ⟨rfl,s3,he3,hM3⟩
     have HM3:=Lib.hid hM3
     have HE3:=Lib.hid he3
     have ha3:=he3.kp.a
     have hp3:=potle he3 (by rfl) (c:= -29) (of_decide_eq_true (by rfl))
     clear hM3 he3
     go_wp2
     go_roundw
     case rel=>exact⟨true,_,rfl,HM3.out,by omega,by omega,(fun h=>by cases h),fun _ s' h=>HK2.out (by trivial) _ (sm2_word HRR.out HWW.out HE3.out h)⟩
     case measure=>
      have e1:=atM_of HM3.out
      have e2:=atM_of HMR.out
      have:=HE3.out.word_lt
      have:=HM3.out.ale
      change s3.a≤n at this
      rw [e1,e2]
      omega
    |false=>
     cases aa with
     |true=>
      go_wp2_with fail
      refine(HC.out).mono ?_
      rintro e w1 ⟨rfl,hb1⟩
      have HM1:=Lib.hid (HMR.out.below hb1)
      clear hb1
      go_wp2_with fail
      refine(HC2.out _ HM1.out).mono ?_
      rintro e w2 ⟨rfl,hb2⟩
      have hM2:=HM1.out.below hb2
      have d3:=HC3.out _ hM2
      have HM2:=Lib.hid hM2
      clear hb2 hM2
      go_wp2_with fail
      refine(HIA.out _).mono ?_
      rintro e w3 ⟨rfl,hb3⟩
      have HM3:=Lib.hid (HM2.out.below hb3)
      clear hb3
      go_wp2_with fail
      refine(HNA.out _ _ HM3.out ⟨wrd_le HWW.out,pot_len HM3.out (by omega)⟩).mono ?_
      rintro e w4 ⟨rfl,s4,he4,hM4⟩
      have HM4:=Lib.hid hM4
      have HE4:=Lib.hid he4
      have ha4:=he4.kp.a
      have hp4:=potle he4 (by rfl) (c:= -29) (of_decide_eq_true (by rfl))
      clear hM4 he4
      go_wp2
      go_roundw
      case rel=>exact⟨false,_,rfl,HM4.out,by omega,by omega,fun _ s' h=>HK1.out (by trivial) _ (sm_asg HRR.out HAS.out HE4.out h),fun h=>by cases h⟩
      case measure=>
       have e1:=atM_of HM4.out
       have e2:=atM_of HMR.out
       have:=HE4.out.word_lt
       have:=HM4.out.ale
       change s4.a≤n at this
       rw [e1,e2]
       omega
     |false=>
      go_wp2_with fail
      refine(HC.out).mono ?_
      rintro e w1 ⟨rfl,hb1⟩
      have HM1:=Lib.hid (HMR.out.below hb1)
      clear hb1
      go_wp2_with fail
      refine(HC2.out _ HM1.out).mono ?_
      rintro e w2 ⟨rfl,hb2⟩
      have hM2:=HM1.out.below hb2
      have d3:=HC3.out _ hM2
      have HM2:=Lib.hid hM2
      clear hb2 hM2
      go_wp2_with fail
      refine(HIA.out _).mono ?_
      rintro e w3 ⟨rfl,hb3⟩
      have HM3:=Lib.hid (HM2.out.below hb3)
      clear hb3
      go_wp2_with fail
      refine(HWO.out _ _ HM3.out ⟨wrd_le HWW.out,pot_len HM3.out (by omega)⟩).mono ?_
      rintro e w4 ⟨rfl,s4,he4,hM4⟩
      have HM4:=Lib.hid hM4
      have HE4:=Lib.hid he4
      have ha4:=he4.kp.a
      have hp4:=potle he4 (by rfl) (c:= -29) (of_decide_eq_true (by rfl))
      clear hM4 he4
      go_wp2
      go_roundw
      case rel=>exact⟨true,_,rfl,HM4.out,by omega,by omega,(fun h=>by cases h),fun _ s' h=>HK1.out (by trivial) _ (sm_word HRR.out HAS.out (sm2_word HRR.out HWW.out HE4.out h))⟩
      case measure=>
       have e1:=atM_of HM4.out
       have e2:=atM_of HMR.out
       have:=HE4.out.word_lt
       have:=HM4.out.ale
       change s4.a≤n at this
       rw [e1,e2]
       omega
end
section
variable {n:Nat} {lv:Nat→Lf} {la:Option Addr} {lc g:Nat} {w0:World} {P:Nat→Prop}
set_option maxRecDepth 100000 in
set_option maxHeartbeats 2000000 in
theorem function_tells:Tells (kP n lv la lc g) g 119 (fnT n lv):=by
 intro w0 P w s hM
 obtain⟨nv,hB,hO,h3,h4⟩:=hM.own
 have c6:w.cell? ⟨g,6,none⟩=some (.int .u8 (sgA n lv s.a:Int)):=hB.cell 6
 have c3:w.cell? ⟨g,3,none⟩=some (.string (lfA n lv s.a).s):=hB.cell 3
 have c9':=fun W (hb:Below w.heap.size w W)=>(show W.cell? ⟨g,9,none⟩=some (.int .i64 (s.d:Int))from(hB.below hb).cell 9)
 have hsz:=lf_small hM.st.sml s.a
 change(lfA n lv s.a).s.size≤100 at hsz
 have hbh:=behind_any hM
 unfold fnT
 obtain⟨x,hx⟩:∃x,sgA n lv s.a=x:=⟨_,rfl⟩
 rw [hx]at c6 ⊢
 obtain⟨t,ht⟩:∃t,(lfA n lv s.a).s=t:=⟨_,rfl⟩
 rw [ht]at c3 hsz ⊢
 have hin:=isname_any t w (by omega)
 obtain⟨m,hm⟩:∃m,isNm t=m:=⟨_,rfl⟩
 rw [hm]at hin ⊢
 obtain⟨y,hy⟩:∃y,sgA n lv (s.a+1)=y:=⟨_,rfl⟩
 rw [hy]at hbh ⊢
 obtain⟨z,hz⟩:∃z,(y==40)=z:=⟨_,rfl⟩
 rw [hz]
 have hz2:((y:Int)==40)=z:=by rw [←hz,Bool.eq_iff_iff];simp;omega
 obtain⟨d,hd⟩:∃d,s.d=d:=⟨_,rfl⟩
 rw [hd]at c9' ⊢
 obtain⟨q,hq⟩:∃q,decide (d<200)=q:=⟨_,rfl⟩
 rw [hq]
 have hq2:decide ((d:Int)<200)=q:=by rw [←hq,Bool.eq_iff_iff];simp;omega
 have HIN:=Lib.hid hin
 have HBH:=Lib.hid hbh
 have HC9:=Lib.hid c9'
 clear hB hO h3 h4 hM hx ht hm hy hz hd hq hin hbh c9' hsz
 by_cases h120:x=120
 ·subst h120
  cases m with
  |false=>
   go_enter Tryz.func119,Tryz.ntmps119
   go_wp2_with fail
   refine HIN.out.mono ?_
   rintro e w1 ⟨rfl,rfl⟩
   go_wp2
   go_ret
   exact⟨rfl,Below.refl _ _⟩
  |true=>
   cases z with
   |false=>
    go_enter Tryz.func119,Tryz.ntmps119
    go_wp2_with fail
    refine HIN.out.mono ?_
    rintro e w1 ⟨rfl,rfl⟩
    go_wp2_with fail
    refine HBH.out.mono ?_
    rintro e w2 ⟨rfl,hb2⟩
    have d9:=HC9.out _ hb2
    have HB2:=Lib.hid hb2
    clear hb2
    go_wp2
    go_ret
    exact⟨rfl,HB2.out⟩
   |true=>
    cases q with
    |true=>
     go_enter Tryz.func119,Tryz.ntmps119
     go_wp2_with fail
     refine HIN.out.mono ?_
     rintro e w1 ⟨rfl,rfl⟩
     go_wp2_with fail
     refine HBH.out.mono ?_
     rintro e w2 ⟨rfl,hb2⟩
     have d9:=HC9.out _ hb2
     have HB2:=Lib.hid hb2
     clear hb2
     go_wp2
     go_ret
     exact⟨rfl,HB2.out⟩
    |false=>
     go_enter Tryz.func119,Tryz.ntmps119
     go_wp2_with fail
     refine HIN.out.mono ?_
     rintro e w1 ⟨rfl,rfl⟩
     go_wp2_with fail
     refine HBH.out.mono ?_
     rintro e w2 ⟨rfl,hb2⟩
     have d9:=HC9.out _ hb2
     have HB2:=Lib.hid hb2
     clear hb2
     go_wp2
     go_ret
     exact⟨rfl,HB2.out⟩
 ·have t1:((x:Int)==120)=false:=by simp;omega
  have e1:(x==120)=false:=by simpa using h120
  rw [e1,Bool.false_and,Bool.false_and,Bool.false_and]
  clear e1 h120
  go_enter Tryz.func119,Tryz.ntmps119
  go_wp2
  go_ret
  exact⟨rfl,Below.refl _ _⟩
set_option maxRecDepth 100000 in
set_option maxHeartbeats 2000000 in
theorem enclosed_any (t:ByteArray) (w:World):Calls Tryz.prog 175 #[.pointer (some ⟨g,0,none⟩),.string t] w fun e w'=>e=.returned (.func (.func 201) #[] #[.pointer (some ⟨w.heap.size,0,none⟩),.pointer (some ⟨w.heap.size+1,0,none⟩)])∧w'=(w.alloc (.cells #[.pointer (some ⟨g,0,none⟩)] 46)).alloc (.cells #[.string t] 9):=by
 have hmf:=mkfun
 go_enter Tryz.func175,Tryz.ntmps175
 go_wp2
 go_ret
 exact⟨rfl,rfl⟩
def FormOK (n:Nat) (lv:Nat→Lf) (la:Option Addr) (lc g a0:Nat) (s:PS) (w:World) (v:Value) (w':World):Prop:=
 ∃(kd:Int) (F:Nat) (first cap:Array Value) (wb:PP),v=.tuple #[.int .i64 kd,.func (.func F) first cap]∧Below w.heap.size w w'∧(∀(args:Array Value) (W:World),(callFunc F args).run Tryz.prog W=.ok (.enter F args) W)∧
  (∀x y:PS,x.a=s.a→Ev n lv (cpP n lv kd wb) x y→Ev n lv (cmpP n lv) x y)∧cst wb≤10∧okc wb=true∧
  ∀(w1:World) (P':Nat→Prop),(∀k,w.heap.size≤k→k<w'.heap.size→P' k∧w1.heap[k]?=w'.heap[k]?)→Does (kP n lv la lc g) w1 P' F (first++cap) wb (fun r=>a0<r.a∧pot r≤0)
theorem isS_one {c k:Nat} {s:PS} (h:sgA n lv s.a=c):isS n lv [k] s=(c==k):=by
 unfold isS
 rw [h,List.contains_cons,List.contains_nil,Bool.or_false]
theorem does_pre {K:Kd} {w0:World} {P:Nat→Prop} {F:Nat} {args:Array Value} {p:PP} {pre pre':PS→Prop} (h:Does K w0 P F args p pre) (hp:∀s,pre' s→pre s):Does K w0 P F args p pre':=fun w s hM hq=>h w s hM (hp s hq)
set_option maxRecDepth 100000 in
set_option maxHeartbeats 2000000 in
theorem form_any {a0:Nat} (HL:LstOK n lv la lc g a0) {w:World} {s:PS} (hM:Mk (kP n lv la lc g) w0 P s w) (hc:cmpT n lv s=true):
  Calls Tryz.prog 144 #[.pointer (some ⟨g,0,none⟩)] w fun e w'=>∃v,e=.returned v∧FormOK n lv la lc g a0 s w v w':=by
 obtain⟨nv,hB,hO,h3,h4⟩:=hM.own
 have c6:w.cell? ⟨g,6,none⟩=some (.int .u8 (sgA n lv s.a:Int)):=hB.cell 6
 have hmf:=mkfun
 have HEN:=Lib.hid (fun t=>enclosed_any (g:=g) t w)
 have HLL:=Lib.hid HL
 obtain⟨x,hx⟩:∃x,sgA n lv s.a=x:=⟨_,rfl⟩
 unfold cmpT at hc
 rw [hx]at hc c6
 have hsx:∀r:PS,r.a=s.a→sgA n lv r.a=x:=fun r hr=>by rw [hr];exact hx
 have HS:=Lib.hid hsx
 have h6:x=123∨x=40∨x=105∨x=119∨x=114∨x=99:=by
  rw [Bool.and_eq_true]at hc
  have:=hc.1
  simpa using this
 clear hB hO h3 h4 hM hc hx hsx HL
 rcases h6 with rfl|rfl|rfl|rfl|rfl|rfl
 ·go_enter Tryz.func144,Tryz.ntmps144
  go_wp2_with fail
  refine(HEN.out _).mono ?_
  rintro e w1 ⟨rfl,rfl⟩
  go_wp2
  go_ret2
  refine⟨_,rfl,9,201,#[],_,encP n lv 125,rfl,((Below.refl _ w).alloc (Nat.le_refl _) _).alloc (by simp) _,enter_of _ _ _ Tryz.func201 (by kernel_rfl) rfl,fun r y hr h=>?_,of_decide_eq_true (by rfl),by rfl,fun w1 P' hk=>?_⟩
  ·exact .yes (by rw [isS_one (HS.out _ hr)];rfl) h
  ·have k1:Blk ((w.alloc (.cells #[.pointer (some ⟨g,0,none⟩)] 46)).alloc (.cells #[.string ⟨#[125]⟩] 9)) w.heap.size #[.pointer (some ⟨g,0,none⟩)] 46:=(Blk.new w _ _).alloc _
   have k2:Blk ((w.alloc (.cells #[.pointer (some ⟨g,0,none⟩)] 46)).alloc (.cells #[.string ⟨#[125]⟩] 9)) (w.heap.size+1) #[.string ⟨#[125]⟩] 9:=by
    have:=Blk.new (w.alloc (.cells #[.pointer (some ⟨g,0,none⟩)] 46)) #[.string ⟨#[125]⟩] 9
    rwa [World.size_alloc]at this
   have l1:=k1.lt
   have l2:=k2.lt
   exact does_pre (enclosed1_any HLL.out w.heap.size (w.heap.size+1) 125 ⟨#[125]⟩ (by decide+kernel) ((hk _ (Nat.le_refl _) l1).2.trans k1) (hk _ (Nat.le_refl _) l1).1 ((hk _ (Nat.le_succ _) l2).2.trans k2) (hk _ (Nat.le_succ _) l2).1) (fun r h=>⟨h.1,by have:=h.2;omega⟩)
 ·go_enter Tryz.func144,Tryz.ntmps144
  go_wp2_with fail
  refine(HEN.out _).mono ?_
  rintro e w1 ⟨rfl,rfl⟩
  go_wp2
  go_ret2
  refine⟨_,rfl,10,201,#[],_,encP n lv 41,rfl,((Below.refl _ w).alloc (Nat.le_refl _) _).alloc (by simp) _,enter_of _ _ _ Tryz.func201 (by kernel_rfl) rfl,fun r y hr h=>?_,of_decide_eq_true (by rfl),by rfl,fun w1 P' hk=>?_⟩
  ·exact .no (by rw [isS_one (HS.out _ hr)];rfl) (.yes (by rw [isS_one (HS.out _ hr)];rfl) h)
  ·have k1:Blk ((w.alloc (.cells #[.pointer (some ⟨g,0,none⟩)] 46)).alloc (.cells #[.string ⟨#[41]⟩] 9)) w.heap.size #[.pointer (some ⟨g,0,none⟩)] 46:=(Blk.new w _ _).alloc _
   have k2:Blk ((w.alloc (.cells #[.pointer (some ⟨g,0,none⟩)] 46)).alloc (.cells #[.string ⟨#[41]⟩] 9)) (w.heap.size+1) #[.string ⟨#[41]⟩] 9:=by
    have:=Blk.new (w.alloc (.cells #[.pointer (some ⟨g,0,none⟩)] 46)) #[.string ⟨#[41]⟩] 9
    rwa [World.size_alloc]at this
   have l1:=k1.lt
   have l2:=k2.lt
   exact does_pre (enclosed1_any HLL.out w.heap.size (w.heap.size+1) 41 ⟨#[41]⟩ (by decide+kernel) ((hk _ (Nat.le_refl _) l1).2.trans k1) (hk _ (Nat.le_refl _) l1).1 ((hk _ (Nat.le_succ _) l2).2.trans k2) (hk _ (Nat.le_succ _) l2).1) (fun r h=>⟨h.1,by have:=h.2;omega⟩)
 ·go_enter Tryz.func144,Tryz.ntmps144
  go_wp2
  go_ret2
  refine⟨_,rfl,11,176,#[.pointer (some ⟨g,0,none⟩)],#[],(brP n lv),rfl,Below.refl _ _,enter_of _ _ _ Tryz.func176 (by kernel_rfl) rfl,fun r y hr h=>?_,of_decide_eq_true (by rfl),by rfl,fun w1 P' hk=>?_⟩
  ·exact .no (by rw [isS_one (HS.out _ hr)];rfl) (.no (by rw [isS_one (HS.out _ hr)];rfl) (.yes (by rw [isS_one (HS.out _ hr)];rfl) h))
  ·exact does_pre (branches_any HLL.out) (fun r h=>⟨h.1,by have:=h.2;omega⟩)
 ·go_enter Tryz.func144,Tryz.ntmps144
  go_wp2
  go_ret2
  refine⟨_,rfl,12,177,#[.pointer (some ⟨g,0,none⟩)],#[],(loopP n lv),rfl,Below.refl _ _,enter_of _ _ _ Tryz.func177 (by kernel_rfl) rfl,fun r y hr h=>?_,of_decide_eq_true (by rfl),by rfl,fun w1 P' hk=>?_⟩
  ·exact .no (by rw [isS_one (HS.out _ hr)];rfl) (.no (by rw [isS_one (HS.out _ hr)];rfl) (.no (by rw [isS_one (HS.out _ hr)];rfl) (.yes (by rw [isS_one (HS.out _ hr)];rfl) h)))
  ·exact does_pre (loop_any HLL.out) (fun r h=>⟨h.1,by have:=h.2;omega⟩)
 ·go_enter Tryz.func144,Tryz.ntmps144
  go_wp2
  go_ret2
  refine⟨_,rfl,13,178,#[.pointer (some ⟨g,0,none⟩)],#[],(eachP n lv),rfl,Below.refl _ _,enter_of _ _ _ Tryz.func178 (by kernel_rfl) rfl,fun r y hr h=>?_,of_decide_eq_true (by rfl),by rfl,fun w1 P' hk=>?_⟩
  ·exact .no (by rw [isS_one (HS.out _ hr)];rfl) (.no (by rw [isS_one (HS.out _ hr)];rfl) (.no (by rw [isS_one (HS.out _ hr)];rfl) (.no (by rw [isS_one (HS.out _ hr)];rfl) (.yes (by rw [isS_one (HS.out _ hr)];rfl) h))))
  ·exact does_pre (each_any HLL.out) (fun r h=>⟨h.1,by have:=h.2;omega⟩)
 ·go_enter Tryz.func144,Tryz.ntmps144
  go_wp2
  go_ret2
  refine⟨_,rfl,14,179,#[.pointer (some ⟨g,0,none⟩)],#[],(casP n lv),rfl,Below.refl _ _,enter_of _ _ _ Tryz.func179 (by kernel_rfl) rfl,fun r y hr h=>?_,of_decide_eq_true (by rfl),by rfl,fun w1 P' hk=>?_⟩
  ·exact .no (by rw [isS_one (HS.out _ hr)];rfl) (.no (by rw [isS_one (HS.out _ hr)];rfl) (.no (by rw [isS_one (HS.out _ hr)];rfl) (.no (by rw [isS_one (HS.out _ hr)];rfl) (.no (by rw [isS_one (HS.out _ hr)];rfl) (h)))))
  ·exact does_pre (choice_any HLL.out) (fun r h=>⟨h.1,by have:=h.2;omega⟩)
set_option maxRecDepth 100000 in
set_option maxHeartbeats 2000000 in
theorem compound1_any {a0:Nat} (B C F:Nat) (first cap:Array Value) (wb:PP) (hE:∀(args:Array Value) (W:World),(callFunc F args).run Tryz.prog W=.ok (.enter F args) W) (hcw:cst wb≤10) (how:okc wb=true) (hD:Does (kP n lv la lc g) w0 P F (first++cap) wb (fun r=>a0<r.a∧pot r≤0))
  (hbox:Blk w0 B #[.pointer (some ⟨g,0,none⟩)] 46) (hPB:P B) (hboxC:Blk w0 C #[.func (.func F) first cap] 1) (hPC:P C):
  Does (kP n lv la lc g) w0 P 145 #[.pointer (some ⟨B,0,none⟩),.pointer (some ⟨C,0,none⟩)] (.seq .adv (.seq wb (redsP n lv))) (fun s=>a0≤s.a∧s.a<n∧pot s≤25):=by
 intro w s hM ⟨ha,hn,hp⟩
 have HBX:=Lib.hid (fun W r (h:Mk (kP n lv la lc g) w0 P r W)=>(show W.cell? ⟨B,0,none⟩=some (.pointer (some ⟨g,0,none⟩))from(h.blk hbox hPB).cell 0))
 have HCX:=Lib.hid (fun W r (h:Mk (kP n lv la lc g) w0 P r W)=>(show W.cell? ⟨C,0,none⟩=some (.func (.func F) first cap)from(h.blk hboxC hPC).cell 0))
 have HON:=Lib.hid (one_any (n:=n) (lv:=lv) (la:=la) (lc:=lc) (g:=g) (w0:=w0) (P:=P))
 have HRT:=Lib.hid (fun w s (h:Mk (kP n lv la lc g) w0 P s w)=>redirect_any (n:=n) (lv:=lv) (la:=la) (lc:=lc) (g:=g) w0 P w s h)
 have HRD:=Lib.hid (redirectM_any (n:=n) (lv:=lv) (la:=la) (lc:=lc) (g:=g) (w0:=w0) (P:=P))
 have HD:=Lib.hid hD
 have HCW:=Lib.hid (And.intro hcw how)
 have b0:=HBX.out _ _ hM
 have HM:=Lib.hid hM
 clear hM hD hbox hboxC hcw how
 go_enter Tryz.func145,Tryz.ntmps145
 go_wp2_with fail
 refine(HON.out _ _ HM.out hn).mono ?_
 rintro e w1 ⟨rfl,s1,he1,hM1⟩
 cases he1
 have hp1:=pot_nxt s
 have ha1:(nxt s).a=s.a+1:=rfl
 have b1:=HBX.out _ _ hM1
 have c1:=HCX.out _ _ hM1
 have HM1:=Lib.hid hM1
 clear hM1
 go_wp2_with fail
 refine(HD.out _ _ HM1.out ⟨by omega,by omega⟩).mono ?_
 rintro e w2 ⟨rfl,s2,he2,hM2⟩
 have hp2:=potle he2 HCW.out.2 HCW.out.1
 have ha2:=he2.kp.a
 have HM2:=Lib.hid hM2
 have HE2:=Lib.hid he2
 clear hM2 he2
 go_wp2
 go_loopw [] (fun wr=>Rl (kP n lv la lc g) w0 P (redsP n lv) s2 20 wr) (fun wr=>n+1 - atM g wr)
 case atStart=>exact⟨s2,HM2.out,by omega,Nat.le_refl _,fun _ h=>h⟩
 case round=>
  obtain⟨r,hMr,hpr,har,hk⟩:=hrel
  obtain⟨b,hb⟩:∃b,rdrT n lv r=b:=⟨_,rfl⟩
  have hc:=HRT.out _ _ hMr
  rw [hb]at hc
  have HC:=Lib.hid hc
  have b2:=HBX.out _ _ hMr
  have HMR:=Lib.hid hMr
  have HB:=Lib.hid hb
  have HK:=Lib.hid hk
  clear hMr hb hk hc
  cases b with
  |false=>
   go_wp2_with fail
   refine HC.out.mono ?_
   rintro e w3 ⟨rfl,hb3⟩
   have HM3:=Lib.hid (HMR.out.below hb3)
   have HE3:=Lib.hid (HK.out _ (.stop HB.out))
   clear hb3
   go_wp2
   go_end0
   exact⟨rfl,_,.seq .adv (.seq HE2.out HE3.out),HM3.out⟩
  |true=>
   go_wp2_with fail
   refine HC.out.mono ?_
   rintro e w3 ⟨rfl,hb3⟩
   have hM3:=HMR.out.below hb3
   have b3:=HBX.out _ _ hM3
   have HM3:=Lib.hid hM3
   clear hb3 hM3
   go_wp2_with fail
   refine(HRD.out _ _ HM3.out ⟨HB.out,by omega⟩).mono ?_
   rintro e w4 ⟨rfl,s4,he4,hM4⟩
   have HM4:=Lib.hid hM4
   have HE4:=Lib.hid he4
   have ha4:=he4.kp.a
   have hp4:=potle he4 (by rfl) (c:= -28) (of_decide_eq_true (by rfl))
   clear hM4 he4
   go_wp2
   go_roundw
   case rel=>exact⟨_,HM4.out,by omega,by omega,fun s' he=>HK.out s' (.go HB.out HE4.out rfl .skip he)⟩
   case measure=>
    have e1:=atM_of HM4.out
    have e2:=atM_of HMR.out
    have:=HE4.out.red_lt
    have:=HM4.out.ale
    change s4.a≤n at this
    rw [e1,e2]
    omega
end
end Go.Proofs.YtkolpaonccmgiaaGreatDoor.Q

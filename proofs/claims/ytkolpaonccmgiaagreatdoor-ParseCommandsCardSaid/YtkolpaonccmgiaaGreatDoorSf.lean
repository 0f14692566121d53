/- What the document's own Compound, Command and Pipe of layer 13 (parse) tell; what none, one, want and lines leave. Condition: at most 10,000 leaves.
What the document's own word, redirect, body and done of layer 13 (parse) leave. Condition: at most 10,000 leaves. -/
import Derived.Test.YtkolpaonccmgiaaGreatDoorSe
import Derived.Test.YtkolpaonccmgiaaGreatDoorSx
set_option linter.unusedVariables false
namespace Go.Proofs.YtkolpaonccmgiaaGreatDoor.Q
open Go.RowKit
section
variable {n:Nat} {lv:Nat→Lf} {la:Option Addr} {lc g:Nat} {S:ByteArray} {w0:World} {P:Nat→Prop}
theorem now_at {w:World} {s:PS} (hM:Mk (kN n lv la lc S g) w0 P s w):w.cell? ⟨g,3,none⟩=some (.int .i64 (s.a:Int))∧w.frozen? ⟨g,3,none⟩=false:=by
 obtain⟨nv,hB,_⟩:=hM.own
 exact⟨hB.cell 3,Blk.frozen (t:=54) hB 3⟩
theorem wrap_at {w:World} {s:PS} (hM:Mk (kN n lv la lc S g) w0 P s w):IntKind.i64.wrap ((s.a:Int)+1)=((s.a+1:Nat):Int):=by
 have h1:=hM.ale
 have h2:=hM.st.nle
 change s.a≤n at h1
 change n≤10000 at h2
 rw [IntWalk.i64_in _ (by omega)]
 rfl
theorem adv_now {w:World} {s:PS} (hM:Mk (kN n lv la lc S g) w0 P s w) (h:s.a<n):Mk (kN n lv la lc S g) w0 P (nxt s) (w.setCell ⟨g,3,none⟩ (.int .i64 ((s.a+1:Nat):Int))):=
 hM.turn rfl h ((Frm.refl _ _).put _ _) (fun nv h=>h.set 3 _)
theorem adv_all {w:World} {s:PS} (hM:Mk (kN n lv la lc S g) w0 P s w) (h:s.a<n):∃ap a1:Nat,w.cell? ⟨g,3,none⟩=some (.int .i64 (ap:Int))∧w.frozen? ⟨g,3,none⟩=false∧IntKind.i64.wrap ((ap:Int)+1)=(a1:Int)∧Mk (kN n lv la lc S g) w0 P (nxt s) (w.setCell ⟨g,3,none⟩ (.int .i64 (a1:Int))):=⟨s.a,s.a+1,(now_at hM).1,(now_at hM).2,wrap_at hM,adv_now hM h⟩
theorem pot_lenN {s:PS} {w:World} (hM:Mk (kN n lv la lc S g) w0 P s w) (h:pot s≤1000):s.L.length≤900000:=by
 have h1:=hM.ale
 have h2:=hM.st.nle
 change s.a≤n at h1
 change n≤10000 at h2
 unfold pot at h
 omega
def atQ (R:Nat) (W:World):Nat:=match W.cell? ⟨R,3,none⟩with|some (.int _ a)=>a.toNat|_=>0
theorem atQ_of {w:World} {s:PS} (hM:Mk (kN n lv la lc S g) w0 P s w):atQ g w=s.a:=by
 unfold atQ
 rw [(now_at hM).1]
 simp
set_option maxRecDepth 100000 in
set_option maxHeartbeats 2000000 in
theorem cmpN_any (hS:SgS n lv S):TellsN (kN n lv la lc S g) g 81 (cmpT n lv):=by
 intro w0 P w s hM
 have HC:=Lib.hid (next_any hS _ _ sgi_cmp hM _ rfl)
 have hc5:∀m,(w.drewN m).cell? ⟨g,5,none⟩=some (.int .i64 (s.d:Int)):=fun m=>by
  obtain⟨nv,hB,_⟩:=(mk_drew hM m).own
  exact hB.cell 5
 unfold cmpT
 obtain⟨b,hb⟩:∃b,isS n lv [123,40,105,119,114,99] s=b:=⟨_,rfl⟩
 rw [hb]at HC
 rw [show [123,40,105,119,114,99].contains (sgA n lv s.a)=b from hb]
 obtain⟨d,hd⟩:∃d,s.d=d:=⟨_,rfl⟩
 rw [hd]at hc5 ⊢
 obtain⟨q,hq⟩:∃q,decide (d<200)=q:=⟨_,rfl⟩
 rw [hq]
 have hq2:decide ((d:Int)<200)=q:=by rw [←hq,Bool.eq_iff_iff];simp;omega
 have H5:=Lib.hid hc5
 clear hM hS hb hd hq hc5
 cases b with
 |false=>
  go_enter Tryz.func81,Tryz.ntmps81
  go_wp2_with fail
  refine HC.out.mono ?_
  rintro e w1 ⟨rfl,hm1⟩
  have HX:=Lib.hid hm1
  clear hm1
  go_wp2
  go_ret
  exact⟨rfl,HX.out⟩
 |true=>
  go_enter Tryz.func81,Tryz.ntmps81
  go_wp2_with fail
  refine HC.out.mono ?_
  rintro e w1 ⟨rfl,hm1⟩
  have HX:=Lib.hid hm1
  have c5:w1.cell? ⟨g,5,none⟩=some (.int .i64 (d:Int)):=by obtain⟨m,rfl⟩:=hm1;exact H5.out m
  clear hm1
  go_wp2
  go_ret
  exact⟨rfl,HX.out⟩
set_option maxRecDepth 100000 in
set_option maxHeartbeats 2000000 in
theorem cmdN_any (hS:SgS n lv S):TellsN (kN n lv la lc S g) g 55 (cmdT n lv):=by
 intro w0 P w s hM
 have HC:=Lib.hid (next_any hS _ _ sgi_x hM _ rfl)
 have HR:=Lib.hid (fun m=>redirectN_any hS w0 P _ s (mk_drew hM m))
 have HP:=Lib.hid (fun m=>cmpN_any hS w0 P _ s (mk_drew hM m))
 unfold cmdT
 obtain⟨b,hb⟩:∃b,isS n lv [120] s=b:=⟨_,rfl⟩
 rw [hb]at HC
 rw [show(sgA n lv s.a==120)=b from by rw [←hb,isS_one rfl]]
 obtain⟨r,hr⟩:∃r,rdrT n lv s=r:=⟨_,rfl⟩
 rw [hr]at HR ⊢
 obtain⟨p,hp⟩:∃p,cmpT n lv s=p:=⟨_,rfl⟩
 rw [hp]at HP ⊢
 clear hM hS hb hr hp
 cases b with
 |true=>
  go_enter Tryz.func55,Tryz.ntmps55
  go_wp2_with fail
  refine HC.out.mono ?_
  rintro e w1 ⟨rfl,hm1⟩
  have HX:=Lib.hid hm1
  clear hm1
  go_wp2
  go_ret
  exact⟨rfl,HX.out⟩
 |false=>
  cases r with
  |true=>
   go_enter Tryz.func55,Tryz.ntmps55
   go_wp2_with fail
   refine HC.out.mono ?_
   rintro e w1 ⟨rfl,hm1⟩
   have HX:=Lib.hid hm1
   clear hm1
   obtain⟨m1,rfl⟩:=HX.out
   clear HX
   go_wp2_with fail
   refine(Calls.quiet_of (HR.out m1)).mono ?_
   rintro e w2 ⟨rfl,hm2⟩
   have HX2:=Lib.hid hm2
   clear hm2
   go_wp2
   go_ret
   exact⟨rfl,HX2.out⟩
  |false=>
   go_enter Tryz.func55,Tryz.ntmps55
   go_wp2_with fail
   refine HC.out.mono ?_
   rintro e w1 ⟨rfl,hm1⟩
   have HX:=Lib.hid hm1
   clear hm1
   obtain⟨m1,rfl⟩:=HX.out
   clear HX
   go_wp2_with fail
   refine(Calls.quiet_of (HR.out m1)).mono ?_
   rintro e w2 ⟨rfl,hm2⟩
   have HX2:=Lib.hid hm2
   clear hm2
   obtain⟨m2,rfl⟩:=HX2.out
   clear HX2
   go_wp2_with fail
   refine(Calls.quiet_of (HP.out m2)).mono ?_
   rintro e w3 ⟨rfl,hm3⟩
   have HX3:=Lib.hid hm3
   clear hm3
   go_wp2
   go_ret
   exact⟨rfl,HX3.out⟩
set_option maxRecDepth 100000 in
set_option maxHeartbeats 2000000 in
theorem pipN_any (hS:SgS n lv S):TellsN (kN n lv la lc S g) g 33 (pipT n lv):=by
 intro w0 P w s hM
 have HC:=Lib.hid (next_any hS _ _ sgi_not hM _ rfl)
 have HR:=Lib.hid (fun m=>cmdN_any hS w0 P _ s (mk_drew hM m))
 unfold pipT
 obtain⟨b,hb⟩:∃b,isS n lv [33] s=b:=⟨_,rfl⟩
 rw [hb]at HC
 rw [show(sgA n lv s.a==33)=b from by rw [←hb,isS_one rfl]]
 obtain⟨r,hr⟩:∃r,cmdT n lv s=r:=⟨_,rfl⟩
 rw [hr]at HR ⊢
 clear hM hS hb hr
 cases b with
 |true=>
  go_enter Tryz.func33,Tryz.ntmps33
  go_wp2_with fail
  refine HC.out.mono ?_
  rintro e w1 ⟨rfl,hm1⟩
  have HX:=Lib.hid hm1
  clear hm1
  go_wp2
  go_ret
  exact⟨rfl,HX.out⟩
 |false=>
  go_enter Tryz.func33,Tryz.ntmps33
  go_wp2_with fail
  refine HC.out.mono ?_
  rintro e w1 ⟨rfl,hm1⟩
  have HX:=Lib.hid hm1
  clear hm1
  obtain⟨m1,rfl⟩:=HX.out
  clear HX
  go_wp2_with fail
  refine(Calls.quiet_of (HR.out m1)).mono ?_
  rintro e w2 ⟨rfl,hm2⟩
  have HX2:=Lib.hid hm2
  clear hm2
  go_wp2
  go_ret
  exact⟨rfl,HX2.out⟩
set_option maxRecDepth 100000 in
set_option maxHeartbeats 2000000 in
theorem noneN_any:Does (kN n lv la lc S g) w0 P 75 #[.pointer (some ⟨g,0,none⟩)] missP (fun s=>s.L.length≤900000):=by
 intro w s hM hl
 have HBG:=Lib.hid (begin_any 18 hM hl (fun h=>absurd h (by decide)))
 clear hM
 go_enter Tryz.func75,Tryz.ntmps75
 go_wp2_with fail
 refine HBG.out.mono ?_
 rintro e w1 ⟨rfl,hM1⟩
 have HEN:=Lib.hid (end_any (k:=18) (s:=s) (.skip (n:=n) (lv:=lv)) hM1 (fun h=>absurd h (by decide)))
 clear hM1
 go_wp2_with fail
 refine HEN.out.mono ?_
 rintro e w2 ⟨rfl,hM2⟩
 have HM2:=Lib.hid hM2
 clear hM2
 go_wp2
 go_end0
 exact⟨rfl,_,.node .skip,HM2.out⟩
set_option maxRecDepth 100000 in
set_option maxHeartbeats 2000000 in
theorem oneN_any (k:Int) (hk:nst k=false):Does (kN n lv la lc S g) w0 P 35 #[.pointer (some ⟨g,0,none⟩),.int .i64 k] (.node k false .adv) (fun s=>s.a<n∧s.L.length≤900000):=by
 intro w s hM ⟨hlt,hl⟩
 have HBG:=Lib.hid (begin_any k hM hl (fun h=>by rw [hk]at h;cases h))
 rw [hk]at HBG
 have HK:=Lib.hid hk
 clear hM hk
 go_enter Tryz.func35,Tryz.ntmps35
 go_wp2_with fail
 refine HBG.out.mono ?_
 rintro e w1 ⟨rfl,hM1⟩
 have hlt1:(bgn k false s).a<n:=hlt
 obtain⟨e3,f3⟩:=now_at hM1
 have hw:=wrap_at hM1
 have hM2:=adv_now hM1 hlt1
 have HEN:=Lib.hid (end_any (k:=k) (s:=s) (b:=.adv) (by rw [HK.out];exact .adv) hM2 (fun h=>by rw [HK.out]at h;cases h))
 clear hM1 hM2
 go_wp2_with fail
 refine HEN.out.mono ?_
 rintro e w3 ⟨rfl,hM3⟩
 have HM3:=Lib.hid hM3
 clear hM3
 go_wp2
 go_end0
 exact⟨rfl,_,.node .adv,HM3.out⟩
set_option maxRecDepth 100000 in
set_option maxHeartbeats 2000000 in
theorem wantN_any (hS:Hid (SgS n lv S)) (t:ByteArray) (c:Nat) (hl:SgI t [c]):Does (kN n lv la lc S g) w0 P 124 #[.pointer (some ⟨g,0,none⟩),.string t] (wantP n lv c) (fun s=>s.L.length≤900000):=by
 intro w s hM hlen
 obtain⟨b,hb⟩:∃b,isS n lv [c] s=b:=⟨_,rfl⟩
 have HC:=Lib.hid (next_any hS.out t [c] hl hM b hb)
 have HMI:=Lib.hid (noneN_any (n:=n) (lv:=lv) (la:=la) (lc:=lc) (S:=S) (g:=g) (w0:=w0) (P:=P))
 have HB:=Lib.hid hb
 have HL:=Lib.hid hl.1
 have HM:=Lib.hid hM
 clear hM hb hl
 cases b with
 |true=>
  go_enter Tryz.func124,Tryz.ntmps124
  go_wp2_with fail
  refine(HC.out).mono ?_
  rintro e w1 ⟨rfl,hm1⟩
  have HM1:Hid (Mk (kN n lv la lc S g) w0 P s w1):=Lib.hid (by obtain⟨m,rfl⟩:=hm1;exact mk_drew HM.out m)
  clear hm1
  obtain⟨ap2,ax2,e3_2,f3_2,hw2,hM2⟩:=adv_all HM1.out (isS_le (lv:=lv) HB.out HL.out)
  have HM2:=Lib.hid hM2
  clear hM2
  have hp2:=pot_nxt s
  have ha2:(nxt s).a=s.a+1:=rfl
  go_wp2
  go_end0
  exact⟨rfl,_,.yes HB.out .adv,HM2.out⟩
 |false=>
  go_enter Tryz.func124,Tryz.ntmps124
  go_wp2_with fail
  refine(HC.out).mono ?_
  rintro e w1 ⟨rfl,hm1⟩
  have HM1:Hid (Mk (kN n lv la lc S g) w0 P s w1):=Lib.hid (by obtain⟨m,rfl⟩:=hm1;exact mk_drew HM.out m)
  clear hm1
  go_wp2_with fail
  refine(HMI.out _ _ HM1.out hlen).mono ?_
  rintro e w2 ⟨rfl,s2,he2,hM2⟩
  have HM2:=Lib.hid hM2
  have HE2:=Lib.hid he2
  have ha2:=he2.kp.a
  clear hM2 he2
  go_wp2
  go_end0
  exact⟨rfl,_,.no HB.out HE2.out,HM2.out⟩
def LnRl (n:Nat) (lv:Nat→Lf) (la:Option Addr) (lc:Nat) (S:ByteArray) (g:Nat) (w0:World) (P:Nat→Prop) (s:PS) (v:Value) (wr:World):Prop:=
 ∃(r:PS) (m:Nat),v=.int .i64 (m:Int)∧m≤r.a∧Mk (kN n lv la lc S g) w0 P r wr∧s.a≤r.a∧((m=0∧r=s)∨(0<m∧isS n lv [110] s=true))∧∀s',Ev n lv (nlsP n lv) r s'→Ev n lv (nlsP n lv) s s'
set_option maxRecDepth 100000 in
set_option maxHeartbeats 2000000 in
theorem linesN_any (hS:Hid (SgS n lv S)) {w:World} {s:PS} (hM:Mk (kN n lv la lc S g) w0 P s w) (b0:Bool) (hb0:isS n lv [110] s=b0):
  Calls Tryz.prog 56 #[.pointer (some ⟨g,0,none⟩)] w fun e w'=>∃m:Nat,e=.returned (.int .i64 (m:Int))∧((m=0∧b0=false)∨(0<m∧b0=true))∧∃s',Ev n lv (nlsP n lv) s s'∧Mk (kN n lv la lc S g) w0 P s' w':=by
 have HM:=Lib.hid hM
 have HB0:=Lib.hid hb0
 clear hM hb0
 go_enter Tryz.func56,Tryz.ntmps56
 go_wp2
 go_loopw [3] (fun v wr=>LnRl n lv la lc S g w0 P s v wr) (fun _ wr=>n+1 - atQ g wr)
 case atStart=>exact⟨s,0,rfl,Nat.zero_le _,HM.out,Nat.le_refl _,.inl ⟨rfl,rfl⟩,fun _ h=>h⟩
 case round=>
  obtain⟨r,m,rfl,hma,hMr,h1,h2,h4⟩:=hrel
  have hale:=hMr.ale
  have hnle:=hMr.st.nle
  change r.a≤n at hale
  change n≤10000 at hnle
  have HH:=Lib.hid (And.intro h2 h4)
  have HMR:=Lib.hid hMr
  obtain⟨b1,hb1⟩:∃b,isS n lv [110] r=b:=⟨_,rfl⟩
  have HC1:=Lib.hid (next_any hS.out ⟨#[110]⟩ [110] (by decide+kernel) hMr b1 hb1)
  have HB1:=Lib.hid hb1
  clear hb1
  clear hMr h2 h4
  cases b1 with
  |true=>
   have hwm:IntKind.i64.wrap ((m:Int)+1)=((m+1:Nat):Int):=by rw [IntWalk.i64_in _ (by omega)];rfl
   go_wp2_with fail
   refine(HC1.out).mono ?_
   rintro e w2 ⟨rfl,hm2⟩
   have HM2:Hid (Mk (kN n lv la lc S g) w0 P r w2):=Lib.hid (by obtain⟨m,rfl⟩:=hm2;exact mk_drew HMR.out m)
   clear hm2
   obtain⟨ap3,ax3,e3_3,f3_3,hw3,hM3⟩:=adv_all HM2.out (isS_le (lv:=lv) HB1.out (by decide))
   have HM3:=Lib.hid hM3
   clear hM3
   have hp3:=pot_nxt r
   have ha3:(nxt r).a=r.a+1:=rfl
   go_wp2
   go_roundw
   case rel=>
    refine⟨nxt r,m+1,rfl,by omega,HM3.out,by omega,.inr ⟨Nat.succ_pos _,?_⟩,fun s' he=>HH.out.2 s' (.go HB1.out .adv rfl .skip he)⟩
    rcases HH.out.1 with⟨_,e⟩|⟨_,e⟩
    ·rw [←e];exact HB1.out
    ·exact e
   case measure=>
    have e1:=atQ_of HM3.out
    have e2:=atQ_of HMR.out
    have:=isS_le (lv:=lv) HB1.out (by decide)
    rw [e1,e2]
    omega
  |false=>
   go_wp2_with fail
   refine(HC1.out).mono ?_
   rintro e w2 ⟨rfl,hm2⟩
   have HM2:Hid (Mk (kN n lv la lc S g) w0 P r w2):=Lib.hid (by obtain⟨m,rfl⟩:=hm2;exact mk_drew HMR.out m)
   clear hm2
   go_wp2
   go_ret
   refine⟨m,rfl,?_,_,HH.out.2 r (.stop HB1.out),HM2.out⟩
   rcases HH.out.1 with⟨e1,e2⟩|⟨e1,e2⟩
   ·exact .inl ⟨e1,by rw [←HB0.out,←e2];exact HB1.out⟩
   ·exact .inr ⟨e1,by rw [←HB0.out];exact e2⟩
end
end Go.Proofs.YtkolpaonccmgiaaGreatDoor.Q
namespace Go.Proofs.YtkolpaonccmgiaaGreatDoor.Q
open Go.RowKit
section
variable {n:Nat} {lv:Nat→Lf} {la:Option Addr} {lc g:Nat} {S:ByteArray} {w0:World} {P:Nat→Prop}
theorem now_F {w:World} {s:PS} (hM:Mk (kN n lv la lc S g) w0 P s w):w.cell? ⟨g,0,none⟩=some (.slice la n lc):=by
 obtain⟨nv,hB,_⟩:=hM.own
 exact hB.cell 0
theorem leafN {w:World} {s:PS} (hM:Mk (kN n lv la lc S g) w0 P s w) (h:s.a<n):∃lb lo,la=some ⟨lb,lo,none⟩∧w.cell? ⟨lb,lo+s.a*4,none⟩=some (.int .i64 (lfA n lv s.a).k)∧w.cell? ⟨lb,lo+s.a*4+1,none⟩=some (.string (lfA n lv s.a).s):=by
 obtain⟨b,off,h1,h2,h3,h4,_⟩:=hM.row s.a h
 have e:lfA n lv s.a=lv s.a:=by unfold lfA;rw [if_pos h]
 rw [e]
 exact⟨b,off,h1,h3,h4⟩
def LstN (n:Nat) (lv:Nat→Lf) (la:Option Addr) (lc:Nat) (S:ByteArray) (g a0:Nat):Prop:=
 ∀(w0:World) (P:Nat→Prop),Does (kN n lv la lc S g) w0 P 34 #[.pointer (some ⟨g,0,none⟩)] (listP n lv) (fun s=>a0<s.a∧pipT n lv s=true∧pot s≤10)
set_option maxRecDepth 100000 in
set_option maxHeartbeats 2000000 in
theorem wordN_any (hS:Hid (SgS n lv S)):Does (kN n lv la lc S g) w0 P 156 #[.pointer (some ⟨g,0,none⟩)] (wonP n lv) (fun s=>pot s≤200):=by
 intro w s hM hp
 have HMI:=Lib.hid (noneN_any (n:=n) (lv:=lv) (la:=la) (lc:=lc) (S:=S) (g:=g) (w0:=w0) (P:=P))
 have HON:=Lib.hid (fun k hk=>oneN_any (n:=n) (lv:=lv) (la:=la) (lc:=lc) (S:=S) (g:=g) (w0:=w0) (P:=P) k hk)
 have HM:=Lib.hid hM
 clear hM
 go_enter Tryz.func156,Tryz.ntmps156
 have c0_1:=now_F HM.out
 have c3_1:=(now_at HM.out).1
 by_cases hlt1:s.a<n
 ·obtain⟨lb,lo,hla1,k0_1,k1_1⟩:=leafN HM.out hlt1
  obtain⟨a1,haa1⟩:∃a,s.a=a:=⟨_,rfl⟩
  obtain⟨k1,hkk1⟩:∃k,(lfA n lv s.a).k=k:=⟨_,rfl⟩
  have hy1:wrdT n lv s=decide (k1=6):=by unfold wrdT;rw [hkk1]
  rw [hkk1]at k0_1
  rw [haa1]at c3_1 k0_1
  rw [hla1]at c0_1
  have q0_1:(0:Int)≤(a1:Int):=by omega
  have q1_1:(a1:Int)<(n:Int):=by omega
  have q2_1:decide (a1<n)=true:=by simp;omega
  have q3_1:decide ((a1:Int)<(n:Int))=true:=decide_eq_true q1_1
  have HAA1:=Lib.hid haa1
  clear hkk1 hla1 k1_1 haa1
  by_cases h6_1:k1=6
  ·rw [decide_eq_true h6_1]at hy1
   subst h6_1
   have HY1:=Lib.hid hy1
   clear hy1
   go_wp2
   go_quiet (fail)
   have HMQ1:=Lib.hid (mk_drew HM.out nq)
   clear c0_1 c3_1 k0_1
   obtain⟨wq1,hwq1⟩:∃W,(w).drewN nq=W:=⟨_,rfl⟩
   rw [hwq1]at HMQ1 ⊢
   clear hwq1
   go_wp2_with fail
   refine(HON.out 7 rfl _ _ HMQ1.out ⟨hlt1,pot_lenN HMQ1.out (by omega)⟩).mono ?_
   rintro e w2 ⟨rfl,s2,he2,hM2⟩
   have HM2:=Lib.hid hM2
   have HE2:=Lib.hid he2
   have ha2:=he2.kp.a
   have hp2:=potle he2 (by rfl) (c:= -29) (of_decide_eq_true (by rfl))
   clear hM2 he2
   go_wp2
   go_end0
   exact⟨rfl,_,.yes HY1.out HE2.out,HM2.out⟩
  ·rw [decide_eq_false h6_1]at hy1
   have u6_1:(k1==6)=false:=by simpa using h6_1
   have HY1:=Lib.hid hy1
   clear hy1 h6_1
   go_wp2
   go_quiet (fail)
   have HMQ1:=Lib.hid (mk_drew HM.out nq)
   clear c0_1 c3_1 k0_1
   obtain⟨wq1,hwq1⟩:∃W,(w).drewN nq=W:=⟨_,rfl⟩
   rw [hwq1]at HMQ1 ⊢
   clear hwq1
   go_wp2_with fail
   refine(HMI.out _ _ HMQ1.out (pot_lenN HMQ1.out (by omega))).mono ?_
   rintro e w2 ⟨rfl,s2,he2,hM2⟩
   have HM2:=Lib.hid hM2
   have HE2:=Lib.hid he2
   have ha2:=he2.kp.a
   have hp2:=potle he2 (by rfl) (c:=1) (of_decide_eq_true (by rfl))
   clear hM2 he2
   go_wp2
   go_end0
   exact⟨rfl,_,.no HY1.out HE2.out,HM2.out⟩
 ·obtain⟨a1,haa1⟩:∃a,s.a=a:=⟨_,rfl⟩
  have HY1:Hid (wrdT n lv s=false):=Lib.hid (by
   cases e:wrdT n lv s with
   |false=>rfl
   |true=>have:=wrd_le e;omega)
  rw [haa1]at c3_1
  have q1_1:¬(a1:Int)<(n:Int):=by omega
  have q2_1:decide (a1<n)=false:=by simp;omega
  have q3_1:decide ((a1:Int)<(n:Int))=false:=decide_eq_false q1_1
  have HAA1:=Lib.hid haa1
  clear haa1
  go_wp2
  go_quiet (fail)
  have HMQ1:=Lib.hid (mk_drew HM.out nq)
  clear c0_1 c3_1
  obtain⟨wq1,hwq1⟩:∃W,(w).drewN nq=W:=⟨_,rfl⟩
  rw [hwq1]at HMQ1 ⊢
  clear hwq1
  go_wp2_with fail
  refine(HMI.out _ _ HMQ1.out (pot_lenN HMQ1.out (by omega))).mono ?_
  rintro e w2 ⟨rfl,s2,he2,hM2⟩
  have HM2:=Lib.hid hM2
  have HE2:=Lib.hid he2
  have ha2:=he2.kp.a
  have hp2:=potle he2 (by rfl) (c:=1) (of_decide_eq_true (by rfl))
  clear hM2 he2
  go_wp2
  go_end0
  exact⟨rfl,_,.no HY1.out HE2.out,HM2.out⟩
set_option maxRecDepth 100000 in
set_option maxHeartbeats 2000000 in
theorem redN_any (hS:Hid (SgS n lv S)):Does (kN n lv la lc S g) w0 P 125 #[.pointer (some ⟨g,0,none⟩)] (redP n lv) (fun s=>rdrT n lv s=true∧pot s≤90):=by
 intro w s hM ⟨hr,hp⟩
 have hlt:=rdr_le hr
 have hpb:=pot_bgn 8 false s
 have HWN:=Lib.hid (wordN_any (n:=n) (lv:=lv) (la:=la) (lc:=lc) (S:=S) (g:=g) (w0:=w0) (P:=P) hS)
 have HR:=Lib.hid hr
 have HM:=Lib.hid hM
 clear hM hr
 go_enter Tryz.func125,Tryz.ntmps125
 go_wp2_with fail
 refine(begin_any 8 HM.out (pot_lenN HM.out (by omega)) (fun h=>absurd h (by decide))).mono ?_
 rintro e w1 ⟨rfl,hM1⟩
 have HM1:Hid (Mk (kN n lv la lc S g) w0 P (bgn 8 false s) w1):=Lib.hid hM1
 have hp1:=pot_bgn 8 false s
 have ha1:(bgn 8 false s).a=s.a:=rfl
 clear hM1
 obtain⟨b2,hb2⟩:∃b,isS n lv [35] (bgn 8 false s)=b:=⟨_,rfl⟩
 have HC2:=Lib.hid (next_any hS.out ⟨#[35]⟩ [35] (by decide+kernel) HM1.out b2 hb2)
 have HB2:=Lib.hid hb2
 clear hb2
 cases b2 with
 |true=>
  have hlt2:(nxt (bgn 8 false s)).a<n:=isS_le (lv:=lv) (rdr_hash (s:=bgn 8 false s) HR.out HB2.out) (by decide)
  go_wp2_with fail
  refine(HC2.out).mono ?_
  rintro e w3 ⟨rfl,hm3⟩
  have HM3:Hid (Mk (kN n lv la lc S g) w0 P (bgn 8 false s) w3):=Lib.hid (by obtain⟨m,rfl⟩:=hm3;exact mk_drew HM1.out m)
  clear hm3
  obtain⟨ap4,ax4,e3_4,f3_4,hw4,hM4⟩:=adv_all HM3.out (hlt)
  have HM4:=Lib.hid hM4
  clear hM4
  have hp4:=pot_nxt (bgn 8 false s)
  have ha4:(nxt (bgn 8 false s)).a=(bgn 8 false s).a+1:=rfl
  obtain⟨w4,hw4⟩:∃W,w3.setCell ⟨g,3,none⟩ (.int .i64 (ax4:Int))=W:=⟨_,rfl⟩
  rw [hw4]at HM4
  obtain⟨ap5,ax5,e3_5,f3_5,hw5,hM5⟩:=adv_all HM4.out (hlt2)
  have HM5:=Lib.hid hM5
  clear hM5
  have hp5:=pot_nxt (nxt (bgn 8 false s))
  have ha5:(nxt (nxt (bgn 8 false s))).a=(nxt (bgn 8 false s)).a+1:=rfl
  go_wp2_with fail
  refine(HWN.out _ _ HM5.out (by omega)).mono ?_
  rintro e w6 ⟨rfl,s6,he6,hM6⟩
  have HM6:=Lib.hid hM6
  have HE6:=Lib.hid he6
  have ha6:=he6.kp.a
  have hp6:=potle he6 (by rfl) (c:=1) (of_decide_eq_true (by rfl))
  clear hM6 he6
  have HEV7:Hid (Ev n lv (redB n lv) (bgn 8 false s) s6):=Lib.hid (.seq (.yes HB2.out (.seq .adv .adv)) HE6.out)
  go_wp2_with fail
  refine(end_any (k:=8) (s:=s) HEV7.out HM6.out (fun h=>absurd h (by decide))).mono ?_
  rintro e w7 ⟨rfl,hM7⟩
  have HM7:=Lib.hid hM7
  clear hM7
  go_wp2
  go_end0
  exact⟨rfl,_,.node HEV7.out,HM7.out⟩
 |false=>
  go_wp2_with fail
  refine(HC2.out).mono ?_
  rintro e w3 ⟨rfl,hm3⟩
  have HM3:Hid (Mk (kN n lv la lc S g) w0 P (bgn 8 false s) w3):=Lib.hid (by obtain⟨m,rfl⟩:=hm3;exact mk_drew HM1.out m)
  clear hm3
  obtain⟨ap4,ax4,e3_4,f3_4,hw4,hM4⟩:=adv_all HM3.out (hlt)
  have HM4:=Lib.hid hM4
  clear hM4
  have hp4:=pot_nxt (bgn 8 false s)
  have ha4:(nxt (bgn 8 false s)).a=(bgn 8 false s).a+1:=rfl
  go_wp2_with fail
  refine(HWN.out _ _ HM4.out (by omega)).mono ?_
  rintro e w5 ⟨rfl,s5,he5,hM5⟩
  have HM5:=Lib.hid hM5
  have HE5:=Lib.hid he5
  have ha5:=he5.kp.a
  have hp5:=potle he5 (by rfl) (c:=1) (of_decide_eq_true (by rfl))
  clear hM5 he5
  have HEV6:Hid (Ev n lv (redB n lv) (bgn 8 false s) s5):=Lib.hid (.seq (.no HB2.out .adv) HE5.out)
  go_wp2_with fail
  refine(end_any (k:=8) (s:=s) HEV6.out HM5.out (fun h=>absurd h (by decide))).mono ?_
  rintro e w6 ⟨rfl,hM6⟩
  have HM6:=Lib.hid hM6
  clear hM6
  go_wp2
  go_end0
  exact⟨rfl,_,.node HEV6.out,HM6.out⟩
set_option maxRecDepth 100000 in
set_option maxHeartbeats 2000000 in
theorem bodyN_any (hS:Hid (SgS n lv S)) {a0:Nat} (HL:LstN n lv la lc S g a0):Does (kN n lv la lc S g) w0 P 152 #[.pointer (some ⟨g,0,none⟩)] (bodyP n lv) (fun s=>a0<s.a∧pot s≤10):=by
 intro w s hM ⟨ha,hp⟩
 have HMI:=Lib.hid (noneN_any (n:=n) (lv:=lv) (la:=la) (lc:=lc) (S:=S) (g:=g) (w0:=w0) (P:=P))
 have HPT:=Lib.hid (fun w s (h:Mk (kN n lv la lc S g) w0 P s w)=>pipN_any hS.out w0 P w s h)
 have HLL:=Lib.hid (HL w0 P)
 have HM:=Lib.hid hM
 clear hM
 go_enter Tryz.func152,Tryz.ntmps152
 obtain⟨z1,hz1⟩:∃z,isS n lv [110] s=z:=⟨_,rfl⟩
 have HZ1:=Lib.hid (linesN_any hS HM.out z1 hz1)
 have HZB1:=Lib.hid hz1
 clear hz1
 go_wp2_with fail
 refine HZ1.out.mono ?_
 rintro e w1 ⟨m1,rfl,hmz1,s1,he1,hM1⟩
 have HM1:=Lib.hid hM1
 have HE1:=Lib.hid he1
 have HMZ1:=Lib.hid hmz1
 have ha1:=he1.kp.a
 have hp1:=potle he1 (by rfl) (c:=0) (of_decide_eq_true (by rfl))
 clear hM1 he1 hmz1
 obtain⟨b,hb⟩:∃b,pipT n lv s1=b:=⟨_,rfl⟩
 have hc:=HPT.out _ _ HM1.out
 rw [hb]at hc
 have HC:=Lib.hid hc
 have HB:=Lib.hid hb
 clear hb hc
 cases b with
 |true=>
  go_wp2_with fail
  refine(HC.out).mono ?_
  rintro e w2 ⟨rfl,hm2⟩
  have HM2:Hid (Mk (kN n lv la lc S g) w0 P s1 w2):=Lib.hid (by obtain⟨m,rfl⟩:=hm2;exact mk_drew HM1.out m)
  clear hm2
  go_wp2_with fail
  refine(HLL.out _ _ HM2.out ⟨by omega,HB.out,by omega⟩).mono ?_
  rintro e w3 ⟨rfl,s3,he3,hM3⟩
  have HM3:=Lib.hid hM3
  have HE3:=Lib.hid he3
  have ha3:=he3.kp.a
  clear hM3 he3
  go_wp2
  go_end0
  exact⟨rfl,_,.seq HE1.out (.yes HB.out (.lst HE3.out)),HM3.out⟩
 |false=>
  go_wp2_with fail
  refine(HC.out).mono ?_
  rintro e w2 ⟨rfl,hm2⟩
  have HM2:Hid (Mk (kN n lv la lc S g) w0 P s1 w2):=Lib.hid (by obtain⟨m,rfl⟩:=hm2;exact mk_drew HM1.out m)
  clear hm2
  go_wp2_with fail
  refine(HMI.out _ _ HM2.out (pot_lenN HM2.out (by omega))).mono ?_
  rintro e w3 ⟨rfl,s3,he3,hM3⟩
  have HM3:=Lib.hid hM3
  have HE3:=Lib.hid he3
  have ha3:=he3.kp.a
  have hp3:=potle he3 (by rfl) (c:=1) (of_decide_eq_true (by rfl))
  clear hM3 he3
  go_wp2
  go_end0
  exact⟨rfl,_,.seq HE1.out (.no HB.out HE3.out),HM3.out⟩
set_option maxRecDepth 100000 in
set_option maxHeartbeats 2000000 in
theorem doneN_any (hS:Hid (SgS n lv S)) {a0:Nat} (HL:LstN n lv la lc S g a0):Does (kN n lv la lc S g) w0 P 153 #[.pointer (some ⟨g,0,none⟩)] (doneP n lv) (fun s=>a0<s.a∧pot s≤9):=by
 intro w s hM ⟨ha,hp⟩
 have HBD:=Lib.hid (bodyN_any (w0:=w0) (P:=P) hS HL)
 have HWd:=Lib.hid (wantN_any (n:=n) (lv:=lv) (la:=la) (lc:=lc) (S:=S) (g:=g) (w0:=w0) (P:=P) hS ⟨#[100]⟩ 100 (by decide+kernel))
 have HWg:=Lib.hid (wantN_any (n:=n) (lv:=lv) (la:=la) (lc:=lc) (S:=S) (g:=g) (w0:=w0) (P:=P) hS ⟨#[103]⟩ 103 (by decide+kernel))
 have HM:=Lib.hid hM
 clear hM
 go_enter Tryz.func153,Tryz.ntmps153
 go_wp2_with fail
 refine(HWd.out _ _ HM.out (pot_lenN HM.out (by omega))).mono ?_
 rintro e w1 ⟨rfl,s1,he1,hM1⟩
 have HM1:=Lib.hid hM1
 have HE1:=Lib.hid he1
 have ha1:=he1.kp.a
 have hp1:=potle he1 (by rfl) (c:=1) (of_decide_eq_true (by rfl))
 clear hM1 he1
 go_wp2_with fail
 refine(HBD.out _ _ HM1.out ⟨by omega,by omega⟩).mono ?_
 rintro e w2 ⟨rfl,s2,he2,hM2⟩
 have HM2:=Lib.hid hM2
 have HE2:=Lib.hid he2
 have ha2:=he2.kp.a
 have hp2:=potle he2 (by rfl) (c:=4) (of_decide_eq_true (by rfl))
 clear hM2 he2
 go_wp2_with fail
 refine(HWg.out _ _ HM2.out (pot_lenN HM2.out (by omega))).mono ?_
 rintro e w3 ⟨rfl,s3,he3,hM3⟩
 have HM3:=Lib.hid hM3
 have HE3:=Lib.hid he3
 have ha3:=he3.kp.a
 have hp3:=potle he3 (by rfl) (c:=1) (of_decide_eq_true (by rfl))
 clear hM3 he3
 go_wp2
 go_end0
 exact⟨rfl,_,.seq HE1.out (.seq HE2.out HE3.out),HM3.out⟩
end
end Go.Proofs.YtkolpaonccmgiaaGreatDoor.Q

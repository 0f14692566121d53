/- What the document's own machine makes of a byte in -/
import Derived.Test.YtdjcidackkogjaaGreatDoorMdH
import Derived.Test.YtdjcidackkogjaaGreatDoorMdH2
import Derived.Test.YtdjcidackkogjaaGreatDoorMdH3
import Derived.Deep.DeepCutAuto
namespace Go.Proofs.YtdjcidackkogjaaGreatDoor
set_option linter.unusedSectionVars false
set_option linter.unusedVariables false
set_option maxHeartbeats 8000000
open Go.RowKit
theorem GX(w:World)(cs:Array Value)(o:Obj)(t:TypeId):zh ((w.alloc (.cells cs t)).alloc o) w.heap.size cs t:=(zh.new w cs t).alloc o
theorem yl{b L:Nat}(h:b≠L):((b:Int)==(L:Int))=false:=beq_eq_false_iff_ne.2 (by omega)
section
variable(w:World)(b f p:Nat)(r:List Fr)(S0:ByteArray)(g0 n0 cap0:Nat)(fr:Bool)
theorem ze8(hR0:Rv w ((0,f)::r) S0 g0 n0 cap0)(hl:r.length≤99000):
  Calls Tryz.prog 87 #[.agg #[.string S0,.slice (some ⟨g0,0,none⟩) n0 cap0,.bool fr],.int .u8 84,.int .u8 b,.int .i64 (p:Int)] w (zB w g0 (zu ((0,f)::r) fr b p).st (zu ((0,f)::r) fr b p).fresh):=by
 by_cases yw:b=92
 ·subst yw
  exact SK w f p r fr S0 g0 n0 cap0 0 84 hR0 hl
 by_cases vT:b=39
 ·subst vT
  exact SL w f p r fr S0 g0 n0 cap0 0 84 hR0 hl
 by_cases vU:b=34
 ·subst vU
  exact SN w f p r fr S0 g0 n0 cap0 0 84 hR0 hl
 by_cases yL:b=96
 ·subst yL
  exact SQ w f p r fr S0 g0 n0 cap0 0 84 hR0 hl
 by_cases zO:b=36
 ·subst zO
  exact SS w f p r fr S0 g0 n0 cap0 0 84 hR0 hl
 by_cases yV:b=40
 ·subst yV
  exact zea w f p r fr S0 g0 n0 cap0 hR0 hl
 by_cases uk:b=41
 ·subst uk
  exact zeb w f p r fr S0 g0 n0 cap0 hR0 hl
 have e:(b=35→fr=false)→zu ((0,f)::r) fr b p=⟨(0,f)::r,uG b⟩:=λh35=>by
  have hc:cls b≠4:=by
   unfold cls
   repeat' split
   all_goals omega
  show fin (mv 0 b fr) _ _=_;rw[mQ (by decide) fr hc h35 yV uk];rfl
 by_cases h35:b=35
 ·subst h35
  cases fr with
  |true=>exact SV w f p r S0 g0 n0 cap0 0 84 hR0 hl
  |false=>
   rw[e (λ_=>rfl)];exact SY w f p r S0 g0 n0 cap0 0 84 hR0 hl
 ·rw[e (λh=>absurd h h35)]
  exact SX w b f p r fr S0 g0 n0 cap0 0 84 hR0 hl (yl yw) (yl vT) (yl vU) (yl yL) (yl zO) (yl h35) (yl yV) (yl uk)
theorem ze9(hR0:Rv w ((1,f)::r) S0 g0 n0 cap0)(hl:r.length≤99000):
  Calls Tryz.prog 87 #[.agg #[.string S0,.slice (some ⟨g0,0,none⟩) n0 cap0,.bool fr],.int .u8 67,.int .u8 b,.int .i64 (p:Int)] w (zB w g0 (zu ((1,f)::r) fr b p).st (zu ((1,f)::r) fr b p).fresh):=by
 by_cases yw:b=92
 ·subst yw
  exact SK w f p r fr S0 g0 n0 cap0 1 67 hR0 hl
 by_cases vT:b=39
 ·subst vT
  exact SL w f p r fr S0 g0 n0 cap0 1 67 hR0 hl
 by_cases vU:b=34
 ·subst vU
  exact SN w f p r fr S0 g0 n0 cap0 1 67 hR0 hl
 by_cases yL:b=96
 ·subst yL
  exact SQ w f p r fr S0 g0 n0 cap0 1 67 hR0 hl
 by_cases zO:b=36
 ·subst zO
  exact SS w f p r fr S0 g0 n0 cap0 1 67 hR0 hl
 by_cases yV:b=40
 ·subst yV
  exact zec w f p r fr S0 g0 n0 cap0 hR0 hl
 by_cases uk:b=41
 ·subst uk
  exact zed w f p r fr S0 g0 n0 cap0 hR0 hl
 have e:(b=35→fr=false)→zu ((1,f)::r) fr b p=⟨(1,f)::r,uG b⟩:=λh35=>by
  have hc:cls b≠4:=by
   unfold cls
   repeat' split
   all_goals omega
  show fin (mv 1 b fr) _ _=_;rw[mQ (by decide) fr hc h35 yV uk];rfl
 by_cases h35:b=35
 ·subst h35
  cases fr with
  |true=>exact SV w f p r S0 g0 n0 cap0 1 67 hR0 hl
  |false=>
   rw[e (λ_=>rfl)];exact SY w f p r S0 g0 n0 cap0 1 67 hR0 hl
 ·rw[e (λh=>absurd h h35)]
  exact SX w b f p r fr S0 g0 n0 cap0 1 67 hR0 hl (yl yw) (yl vT) (yl vU) (yl yL) (yl zO) (yl h35) (yl yV) (yl uk)
theorem zfa(hR0:Rv w ((2,f)::r) S0 g0 n0 cap0)(hl:r.length≤99000):
  Calls Tryz.prog 87 #[.agg #[.string S0,.slice (some ⟨g0,0,none⟩) n0 cap0,.bool fr],.int .u8 80,.int .u8 b,.int .i64 (p:Int)] w (zB w g0 (zu ((2,f)::r) fr b p).st (zu ((2,f)::r) fr b p).fresh):=by
 by_cases yw:b=92
 ·subst yw
  exact SK w f p r fr S0 g0 n0 cap0 2 80 hR0 hl
 by_cases vT:b=39
 ·subst vT
  exact SL w f p r fr S0 g0 n0 cap0 2 80 hR0 hl
 by_cases vU:b=34
 ·subst vU
  exact SN w f p r fr S0 g0 n0 cap0 2 80 hR0 hl
 by_cases yL:b=96
 ·subst yL
  exact SQ w f p r fr S0 g0 n0 cap0 2 80 hR0 hl
 by_cases zO:b=36
 ·subst zO
  exact SS w f p r fr S0 g0 n0 cap0 2 80 hR0 hl
 by_cases yV:b=40
 ·subst yV
  exact zee w f p r fr S0 g0 n0 cap0 hR0 hl
 by_cases uk:b=41
 ·subst uk
  exact zef w f p r fr S0 g0 n0 cap0 hR0 hl
 have e:(b=35→fr=false)→zu ((2,f)::r) fr b p=⟨(2,f)::r,uG b⟩:=λh35=>by
  have hc:cls b≠4:=by
   unfold cls
   repeat' split
   all_goals omega
  show fin (mv 2 b fr) _ _=_;rw[mQ (by decide) fr hc h35 yV uk];rfl
 by_cases h35:b=35
 ·subst h35
  cases fr with
  |true=>exact SV w f p r S0 g0 n0 cap0 2 80 hR0 hl
  |false=>
   rw[e (λ_=>rfl)];exact SY w f p r S0 g0 n0 cap0 2 80 hR0 hl
 ·rw[e (λh=>absurd h h35)]
  exact SX w b f p r fr S0 g0 n0 cap0 2 80 hR0 hl (yl yw) (yl vT) (yl vU) (yl yL) (yl zO) (yl h35) (yl yV) (yl uk)
theorem zfb(hR0:Rv w ((0,f)::r) S0 g0 n0 cap0)(hl:r.length≤99000):
  Calls Tryz.prog 81 #[.agg #[.string S0,.slice (some ⟨g0,0,none⟩) n0 cap0,.bool fr],.int .u8 84,.int .u8 b,.int .i64 (p:Int)] w (zB w g0 (zu ((0,f)::r) fr b p).st (zu ((0,f)::r) fr b p).fresh):=by
 have hlt:=hR0.lt;obtain⟨X,hX⟩:∃X,zu ((0,f)::r) fr b p=X:=⟨_,rfl⟩;have hcall:=λW (h:Below w.heap.size w W)=>ze8 W b f p r S0 g0 n0 cap0 fr (hR0.below h) hl;rw[hX]at hcall ⊢;obtain⟨sX,fX⟩:=X;clear hX;go_enter Tryz.func81,Tryz.ntmps81
 go_wp2_with fail
 refine(hcall _ (zn _ _ _)).mono ?_;rintro e w1 ⟨S1,g1,n1,cap1,rfl,hR1,hb1,hg1⟩;obtain⟨hs1,hg1,hZ1,zT,zU,zV,zW,zX,zN⟩:=xu hb1 hg1;go_wp2;exact bodyPost_ret (by simp[results,Tryz.results81,go_sem, *]) rfl (y9 (zn w _ _) hR1 hb1 hg1 hlt)
theorem H5(hR0:Rv w ((1,f)::r) S0 g0 n0 cap0)(hl:r.length≤99000):
  Calls Tryz.prog 81 #[.agg #[.string S0,.slice (some ⟨g0,0,none⟩) n0 cap0,.bool fr],.int .u8 67,.int .u8 b,.int .i64 (p:Int)] w (zB w g0 (zu ((1,f)::r) fr b p).st (zu ((1,f)::r) fr b p).fresh):=by
 have hlt:=hR0.lt;obtain⟨X,hX⟩:∃X,zu ((1,f)::r) fr b p=X:=⟨_,rfl⟩;have hcall:=λW (h:Below w.heap.size w W)=>ze9 W b f p r S0 g0 n0 cap0 fr (hR0.below h) hl;rw[hX]at hcall ⊢;obtain⟨sX,fX⟩:=X;clear hX;go_enter Tryz.func81,Tryz.ntmps81
 go_wp2_with fail
 refine(hcall _ (zn _ _ _)).mono ?_;rintro e w1 ⟨S1,g1,n1,cap1,rfl,hR1,hb1,hg1⟩;obtain⟨hs1,hg1,hZ1,zT,zU,zV,zW,zX,zN⟩:=xu hb1 hg1;go_wp2;exact bodyPost_ret (by simp[results,Tryz.results81,go_sem, *]) rfl (y9 (zn w _ _) hR1 hb1 hg1 hlt)
theorem zfc(hR0:Rv w ((2,f)::r) S0 g0 n0 cap0)(hl:r.length≤99000):
  Calls Tryz.prog 81 #[.agg #[.string S0,.slice (some ⟨g0,0,none⟩) n0 cap0,.bool fr],.int .u8 80,.int .u8 b,.int .i64 (p:Int)] w (zB w g0 (zu ((2,f)::r) fr b p).st (zu ((2,f)::r) fr b p).fresh):=by
 have hlt:=hR0.lt;obtain⟨X,hX⟩:∃X,zu ((2,f)::r) fr b p=X:=⟨_,rfl⟩;have hcall:=λW (h:Below w.heap.size w W)=>zfa W b f p r S0 g0 n0 cap0 fr (hR0.below h) hl;rw[hX]at hcall ⊢;obtain⟨sX,fX⟩:=X;clear hX;go_enter Tryz.func81,Tryz.ntmps81
 go_wp2_with fail
 refine(hcall _ (zn _ _ _)).mono ?_;rintro e w1 ⟨S1,g1,n1,cap1,rfl,hR1,hb1,hg1⟩;obtain⟨hs1,hg1,hZ1,zT,zU,zV,zW,zX,zN⟩:=xu hb1 hg1;go_wp2;exact bodyPost_ret (by simp[results,Tryz.results81,go_sem, *]) rfl (y9 (zn w _ _) hR1 hb1 hg1 hlt)
theorem zfd(hR0:Rv w ((13,f)::r) S0 g0 n0 cap0)(hl:r.length≤99000):
  Calls Tryz.prog 81 #[.agg #[.string S0,.slice (some ⟨g0,0,none⟩) n0 cap0,.bool fr],.int .u8 88,.int .u8 10,.int .i64 (p:Int)] w (zB w g0 r fr):=by
 have hlt:=hR0.lt;go_enter Tryz.func81,Tryz.ntmps81
 go_wp2_with fail
 refine(ZZ _ r S0 g0 n0 cap0 fr 13 f (hR0.below (zn _ _ _)) (by omega)).mono ?_;rintro e w1 ⟨S1,g1,n1,cap1,rfl,hR1,hb1,hg1⟩;obtain⟨hs1,hg1,hZ1,zT,zU,zV,zW,zX,zN⟩:=xu hb1 hg1;have hL1:=JV (zn w _ _) hb1;obtain⟨Xh,Xi,Xj,Xk,Xl,Xm,ZC⟩:=ja (GX w _ _ _) hb1
 go_upto_region 5 with fail
 obtain⟨v1,hv1,GY,hV1,Xn,hT1,hN1,LC,LD,LG,LH,LJ,J3,LM,vb1,LP,LQ,LU,Q3⟩:=QX Xh hZ1 hR1 hL1 (by omega) (.string S1) (.slice (some ⟨g1,0,none⟩) n1 cap1) (.bool fr);rw[hv1];clear hv1 Xi Xj Xk Xl Xm ZC zT zU zV zW zX zN;go_wp2;exact bodyPost_ret (by simp[results,Tryz.results81,go_sem, *]) rfl (V5 (g0:=g0) Xn hT1 (w.heap.size+1) (by omega) (by omega) (by omega) _ _ _)
theorem zfe(hR0:Rv w ((13,f)::r) S0 g0 n0 cap0)(hl:r.length≤99000)(t0:((b:Int)==10)=false):
  Calls Tryz.prog 81 #[.agg #[.string S0,.slice (some ⟨g0,0,none⟩) n0 cap0,.bool fr],.int .u8 88,.int .u8 b,.int .i64 (p:Int)] w (zB w g0 r false):=by
 have hlt:=hR0.lt;go_enter Tryz.func81,Tryz.ntmps81
 go_wp2_with fail
 refine(ZZ _ r S0 g0 n0 cap0 fr 13 f (hR0.below (zn _ _ _)) (by omega)).mono ?_;rintro e w1 ⟨S1,g1,n1,cap1,rfl,hR1,hb1,hg1⟩;obtain⟨hs1,hg1,hZ1,zT,zU,zV,zW,zX,zN⟩:=xu hb1 hg1;have hL1:=JV (zn w _ _) hb1;obtain⟨Xh,Xi,Xj,Xk,Xl,Xm,ZC⟩:=ja (GX w _ _ _) hb1
 go_upto_region 5 with fail
 obtain⟨v1,hv1,GY,hV1,Xn,hT1,hN1,LC,LD,LG,LH,LJ,J3,LM,vb1,LP,LQ,LU,Q3⟩:=QX Xh hZ1 hR1 hL1 (by omega) (.string S1) (.slice (some ⟨g1,0,none⟩) n1 cap1) (.bool fr);rw[hv1];clear hv1 Xi Xj Xk Xl Xm ZC zT zU zV zW zX zN
 go_wp2_with fail
 refine(Zd _ r S1 g1 n1 cap1 fr false Xn).mono ?_;rintro e w2 ⟨S2,g2,n2,cap2,rfl,hR2,hb2,hg2⟩;have hs2:=hb2.size;obtain⟨hZ2,Zx,Zy,Zz,ZA,ZB,qm⟩:=ja hV1 hb2;rw[hN1]at hs2 hg2;have hL2:=hT1.trans (hb2.mono (by omega));obtain⟨hY2,ya2,yb2,yc2,yd2,ye2,mV⟩:=ja GY hb2
 go_upto_region 7 with fail
 obtain⟨v2,hv2,hU2,hV2,hQ2,hT2,mW,ua2,ub2,uc2,ud2,ue2,pG,va2,vb2,vc2,vd2,ve2,H9⟩:=QX hY2 hZ2 hR2 hL2 (by omega) (.string S2) (.slice (some ⟨g2,0,none⟩) n2 cap2) (.bool false);rw[hv2];clear hv2 ya2 yb2 yc2 yd2 ye2 mV Zx Zy Zz ZA ZB qm;go_wp2;exact bodyPost_ret (by simp[results,Tryz.results81,go_sem, *]) rfl (V5 (g0:=g0) hQ2 hT2 (w.heap.size+1) (by omega) (by omega) (by omega) _ _ _)
theorem zff(hR0:Rv w ((4,f)::r) S0 g0 n0 cap0)(hl:r.length≤99000):
  Calls Tryz.prog 81 #[.agg #[.string S0,.slice (some ⟨g0,0,none⟩) n0 cap0,.bool fr],.int .u8 83,.int .u8 b,.int .i64 (p:Int)] w (zB w g0 (zu ((4,f)::r) fr b p).st (zu ((4,f)::r) fr b p).fresh):=by
 by_cases vT:b=39
 ·subst vT
  exact zeg w f p r fr S0 g0 n0 cap0 hR0 hl
 have e:zu ((4,f)::r) fr b p=⟨(4,f)::r,fr⟩:=by
  have hm:mv 4 b fr=(.keep,fr):=by unfold mv;simp[xI, *]
  show fin (mv 4 b fr) _ _=_;rw[hm];rfl
 rw[e];exact zeh w b f p r fr S0 g0 n0 cap0 hR0 hl (yl vT)
theorem zfg(hR0:Rv w ((14,f)::r) S0 g0 n0 cap0)(hl:r.length≤99000):
  Calls Tryz.prog 81 #[.agg #[.string S0,.slice (some ⟨g0,0,none⟩) n0 cap0,.bool fr],.int .u8 35,.int .u8 b,.int .i64 (p:Int)] w (zB w g0 (zu ((14,f)::r) fr b p).st (zu ((14,f)::r) fr b p).fresh):=by
 by_cases h10:b=10
 ·subst h10
  exact zei w f p r fr S0 g0 n0 cap0 hR0 hl
 have e:zu ((14,f)::r) fr b p=⟨(14,f)::r,fr⟩:=by
  have hm:mv 14 b fr=(.keep,fr):=by unfold mv;simp[xI, *]
  show fin (mv 14 b fr) _ _=_;rw[hm];rfl
 rw[e];exact zej w b f p r fr S0 g0 n0 cap0 hR0 hl (yl h10)
theorem zfh(hR0:Rv w ((6,f)::r) S0 g0 n0 cap0)(hl:r.length≤99000):
  Calls Tryz.prog 81 #[.agg #[.string S0,.slice (some ⟨g0,0,none⟩) n0 cap0,.bool fr],.int .u8 66,.int .u8 b,.int .i64 (p:Int)] w (zB w g0 (zu ((6,f)::r) fr b p).st (zu ((6,f)::r) fr b p).fresh):=by
 by_cases yL:b=96
 ·subst yL
  exact zek w f p r fr S0 g0 n0 cap0 hR0 hl
 by_cases yw:b=92
 ·subst yw
  exact zel w f p r fr S0 g0 n0 cap0 hR0 hl
 have e:zu ((6,f)::r) fr b p=⟨(6,f)::r,fr⟩:=by
  have hm:mv 6 b fr=(.keep,fr):=by unfold mv;simp[xI, *]
  show fin (mv 6 b fr) _ _=_;rw[hm];rfl
 rw[e];exact zem w b f p r fr S0 g0 n0 cap0 hR0 hl (yl yL) (yl yw)
theorem zfi(hR0:Rv w ((13,f)::r) S0 g0 n0 cap0)(hl:r.length≤99000):
  Calls Tryz.prog 81 #[.agg #[.string S0,.slice (some ⟨g0,0,none⟩) n0 cap0,.bool fr],.int .u8 88,.int .u8 b,.int .i64 (p:Int)] w (zB w g0 (zu ((13,f)::r) fr b p).st (zu ((13,f)::r) fr b p).fresh):=by
 by_cases h10:b=10
 ·subst h10
  exact zfd w f p r S0 g0 n0 cap0 fr hR0 hl
 have e:zu ((13,f)::r) fr b p=⟨r,false⟩:=by
  have hm:mv 13 b fr=(.pop,false):=by unfold mv;simp[xI, *]
  show fin (mv 13 b fr) _ _=_;rw[hm];rfl
 rw[e];exact zfe w b f p r S0 g0 n0 cap0 fr hR0 hl (yl h10)
theorem zfj(hR0:Rv w ((5,f)::r) S0 g0 n0 cap0)(hl:r.length≤99000):
  Calls Tryz.prog 81 #[.agg #[.string S0,.slice (some ⟨g0,0,none⟩) n0 cap0,.bool fr],.int .u8 68,.int .u8 b,.int .i64 (p:Int)] w (zB w g0 (zu ((5,f)::r) fr b p).st (zu ((5,f)::r) fr b p).fresh):=by
 by_cases yw:b=92
 ·subst yw
  exact zen w f p r fr S0 g0 n0 cap0 hR0 hl
 by_cases zO:b=36
 ·subst zO
  exact zeo w f p r fr S0 g0 n0 cap0 hR0 hl
 by_cases yL:b=96
 ·subst yL
  exact zep w f p r fr S0 g0 n0 cap0 hR0 hl
 by_cases vU:b=34
 ·subst vU
  exact zeq w f p r fr S0 g0 n0 cap0 hR0 hl
 have e:zu ((5,f)::r) fr b p=⟨(5,f)::r,fr⟩:=by
  have ho:opn b=15:=by unfold opn;simp[yw,zO,yL]
  have hm:mv 5 b fr=(.keep,fr):=by unfold mv;simp[xI, *]
  show fin (mv 5 b fr) _ _=_;rw[hm];rfl
 rw[e];exact zer w b f p r fr S0 g0 n0 cap0 hR0 hl (yl yw) (yl zO) (yl yL) (yl vU)
theorem zfk(hR0:Rv w ((7,f)::r) S0 g0 n0 cap0)(hl:r.length≤99000):
  Calls Tryz.prog 81 #[.agg #[.string S0,.slice (some ⟨g0,0,none⟩) n0 cap0,.bool fr],.int .u8 86,.int .u8 b,.int .i64 (p:Int)] w (zB w g0 (zu ((7,f)::r) fr b p).st (zu ((7,f)::r) fr b p).fresh):=by
 by_cases yw:b=92
 ·subst yw
  exact zes w f p r fr S0 g0 n0 cap0 hR0 hl
 by_cases zO:b=36
 ·subst zO
  exact zet w f p r fr S0 g0 n0 cap0 hR0 hl
 by_cases yL:b=96
 ·subst yL
  exact zeu w f p r fr S0 g0 n0 cap0 hR0 hl
 by_cases vU:b=34
 ·subst vU
  exact zey w f p r fr S0 g0 n0 cap0 hR0 hl
 by_cases Xo:b=125
 ·subst Xo
  exact zez w f p r fr S0 g0 n0 cap0 hR0 hl
 by_cases vT:b=39
 ·subst vT
  exact zeC w f p r fr S0 g0 n0 cap0 hR0 hl
 have e:zu ((7,f)::r) fr b p=⟨(7,f)::r,fr⟩:=by
  have ho:opn b=15:=by unfold opn;simp[yw,zO,yL]
  have hm:mv 7 b fr=(.keep,fr):=by unfold mv;simp[xI, *]
  show fin (mv 7 b fr) _ _=_;rw[hm];rfl
 rw[e];exact zeE w b f p r fr S0 g0 n0 cap0 hR0 hl (yl yw) (yl zO) (yl yL) (yl vU) (yl Xo) (yl vT)
theorem zfl(hR0:Rv w ((8,f)::r) S0 g0 n0 cap0)(hl:r.length≤99000):
  Calls Tryz.prog 81 #[.agg #[.string S0,.slice (some ⟨g0,0,none⟩) n0 cap0,.bool fr],.int .u8 73,.int .u8 b,.int .i64 (p:Int)] w (zB w g0 (zu ((8,f)::r) fr b p).st (zu ((8,f)::r) fr b p).fresh):=by
 by_cases yw:b=92
 ·subst yw
  exact zev w f p r fr S0 g0 n0 cap0 hR0 hl
 by_cases zO:b=36
 ·subst zO
  exact zew w f p r fr S0 g0 n0 cap0 hR0 hl
 by_cases yL:b=96
 ·subst yL
  exact zex w f p r fr S0 g0 n0 cap0 hR0 hl
 by_cases vU:b=34
 ·subst vU
  exact zeA w f p r fr S0 g0 n0 cap0 hR0 hl
 by_cases Xo:b=125
 ·subst Xo
  exact zeB w f p r fr S0 g0 n0 cap0 hR0 hl
 by_cases vT:b=39
 ·subst vT
  exact zeD w f p r fr S0 g0 n0 cap0 hR0 hl
 have e:zu ((8,f)::r) fr b p=⟨(8,f)::r,fr⟩:=by
  have ho:opn b=15:=by unfold opn;simp[yw,zO,yL]
  have hm:mv 8 b fr=(.keep,fr):=by unfold mv;simp[xI, *]
  show fin (mv 8 b fr) _ _=_;rw[hm];rfl
 rw[e];exact zeF w b f p r fr S0 g0 n0 cap0 hR0 hl (yl yw) (yl zO) (yl yL) (yl vU) (yl Xo) (yl vT)
theorem H7(hR0:Rv w ((9,f)::r) S0 g0 n0 cap0)(hl:r.length≤99000):
  Calls Tryz.prog 81 #[.agg #[.string S0,.slice (some ⟨g0,0,none⟩) n0 cap0,.bool fr],.int .u8 65,.int .u8 b,.int .i64 (p:Int)] w (zB w g0 (zu ((9,f)::r) fr b p).st (zu ((9,f)::r) fr b p).fresh):=by
 by_cases yw:b=92
 ·subst yw
  exact zeG w f p r fr S0 g0 n0 cap0 hR0 hl
 by_cases zO:b=36
 ·subst zO
  exact zeH w f p r fr S0 g0 n0 cap0 hR0 hl
 by_cases yL:b=96
 ·subst yL
  exact zeI w f p r fr S0 g0 n0 cap0 hR0 hl
 by_cases yV:b=40
 ·subst yV
  exact zeM w f p r fr S0 g0 n0 cap0 hR0 hl
 by_cases uk:b=41
 ·subst uk
  exact zeO w f p r fr S0 g0 n0 cap0 hR0 hl
 have e:zu ((9,f)::r) fr b p=⟨(9,f)::r,fr⟩:=by
  have ho:opn b=15:=by unfold opn;simp[yw,zO,yL]
  have hm:mv 9 b fr=(.keep,fr):=by unfold mv;simp[xI, *]
  show fin (mv 9 b fr) _ _=_;rw[hm];rfl
 rw[e];exact zeQ w b f p r fr S0 g0 n0 cap0 hR0 hl (yl yw) (yl zO) (yl yL) (yl yV) (yl uk)
theorem zfm(hR0:Rv w ((10,f)::r) S0 g0 n0 cap0)(hl:r.length≤99000):
  Calls Tryz.prog 81 #[.agg #[.string S0,.slice (some ⟨g0,0,none⟩) n0 cap0,.bool fr],.int .u8 82,.int .u8 b,.int .i64 (p:Int)] w (zB w g0 (zu ((10,f)::r) fr b p).st (zu ((10,f)::r) fr b p).fresh):=by
 by_cases yw:b=92
 ·subst yw
  exact zeJ w f p r fr S0 g0 n0 cap0 hR0 hl
 by_cases zO:b=36
 ·subst zO
  exact zeK w f p r fr S0 g0 n0 cap0 hR0 hl
 by_cases yL:b=96
 ·subst yL
  exact zeL w f p r fr S0 g0 n0 cap0 hR0 hl
 by_cases yV:b=40
 ·subst yV
  exact zeN w f p r fr S0 g0 n0 cap0 hR0 hl
 by_cases uk:b=41
 ·subst uk
  exact zeP w f p r fr S0 g0 n0 cap0 hR0 hl
 have e:zu ((10,f)::r) fr b p=⟨(10,f)::r,fr⟩:=by
  have ho:opn b=15:=by unfold opn;simp[yw,zO,yL]
  have hm:mv 10 b fr=(.keep,fr):=by unfold mv;simp[xI, *]
  show fin (mv 10 b fr) _ _=_;rw[hm];rfl
 rw[e];exact zeR w b f p r fr S0 g0 n0 cap0 hR0 hl (yl yw) (yl zO) (yl yL) (yl yV) (yl uk)
theorem Hy(m:Nat)(hm:m≤14∧m≠3∧m≠11∧m≠12)(hR0:Rv w ((m,f)::r) S0 g0 n0 cap0)(hl:r.length≤99000):
  Calls Tryz.prog 81 #[.agg #[.string S0,.slice (some ⟨g0,0,none⟩) n0 cap0,.bool fr],.int .u8 ((yI m).toNat:Nat),.int .u8 b,.int .i64 (p:Int)] w (zB w g0 (zu ((m,f)::r) fr b p).st (zu ((m,f)::r) fr b p).fresh):=by
 by_cases e0:m=0
 ·subst e0
  have e:(((yI 0).toNat:Nat):Int)=84:=by decide
  rw[e];exact zfb w b f p r S0 g0 n0 cap0 fr hR0 hl
 by_cases e1:m=1
 ·subst e1
  have e:(((yI 1).toNat:Nat):Int)=67:=by decide
  rw[e];exact H5 w b f p r S0 g0 n0 cap0 fr hR0 hl
 by_cases e2:m=2
 ·subst e2
  have e:(((yI 2).toNat:Nat):Int)=80:=by decide
  rw[e];exact zfc w b f p r S0 g0 n0 cap0 fr hR0 hl
 by_cases e4:m=4
 ·subst e4
  have e:(((yI 4).toNat:Nat):Int)=83:=by decide
  rw[e];exact zff w b f p r S0 g0 n0 cap0 fr hR0 hl
 by_cases e5:m=5
 ·subst e5
  have e:(((yI 5).toNat:Nat):Int)=68:=by decide
  rw[e];exact zfj w b f p r S0 g0 n0 cap0 fr hR0 hl
 by_cases e6:m=6
 ·subst e6
  have e:(((yI 6).toNat:Nat):Int)=66:=by decide
  rw[e];exact zfh w b f p r S0 g0 n0 cap0 fr hR0 hl
 by_cases e7:m=7
 ·subst e7
  have e:(((yI 7).toNat:Nat):Int)=86:=by decide
  rw[e];exact zfk w b f p r S0 g0 n0 cap0 fr hR0 hl
 by_cases e8:m=8
 ·subst e8
  have e:(((yI 8).toNat:Nat):Int)=73:=by decide
  rw[e];exact zfl w b f p r S0 g0 n0 cap0 fr hR0 hl
 by_cases e9:m=9
 ·subst e9
  have e:(((yI 9).toNat:Nat):Int)=65:=by decide
  rw[e];exact H7 w b f p r S0 g0 n0 cap0 fr hR0 hl
 by_cases e10:m=10
 ·subst e10
  have e:(((yI 10).toNat:Nat):Int)=82:=by decide
  rw[e];exact zfm w b f p r S0 g0 n0 cap0 fr hR0 hl
 by_cases e13:m=13
 ·subst e13
  have e:(((yI 13).toNat:Nat):Int)=88:=by decide
  rw[e];exact zfi w b f p r S0 g0 n0 cap0 fr hR0 hl
 by_cases e14:m=14
 ·subst e14
  have e:(((yI 14).toNat:Nat):Int)=35:=by decide
  rw[e];exact zfg w b f p r S0 g0 n0 cap0 fr hR0 hl
 omega
end
end Go.Proofs.YtdjcidackkogjaaGreatDoor

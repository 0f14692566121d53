/- What the document's own machine makes of a byte in -/
import Derived.Test.YtkolpaonccmgiaaGreatDoorMh
import Derived.Deep.DeepCutAuto
import Derived.Test.YtkolpaonccmgiaaGreatDoorMdW
namespace Go.Proofs.YtkolpaonccmgiaaGreatDoor
set_option linter.unusedSectionVars false
set_option linter.unusedVariables false
open Go.Proofs.Tryz
set_option maxHeartbeats 8000000
open Go.RowKit
theorem dB(w:World)(cs:Array Value)(o:Obj)(t:TypeId):zf ((w.alloc (.cells cs t)).alloc o) w.heap.size cs t:=(zf.new w cs t).alloc o
theorem yL{b L:Nat}(h:b≠L):((b:Int)==(L:Int))=false:=beq_eq_false_iff_ne.2 (by omega)
section
variable(w:World)(b f p:Nat)(r:List Fr)(S0:ByteArray)(g0 n0 cap0:Nat)(fr:Bool)
theorem zgV(hR0:Rv w ((0,f)::r) S0 g0 n0 cap0)(hl:r.length<=99000):
  Calls prog 169 #[.agg #[.string S0,.slice (some ⟨g0,0,none⟩) n0 cap0,.bool fr],.int .u8 84,.int .u8 b,.int .i64 (p:Int)] w (zI w g0 (zF ((0,f)::r) fr b p).st (zF ((0,f)::r) fr b p).fresh):=by
 by_cases yR:b=92
 ·subst yR
  exact BI w f p r fr S0 g0 n0 cap0 0 84 hR0 hl
 by_cases jf:b=39
 ·subst jf
  exact BJ w f p r fr S0 g0 n0 cap0 0 84 hR0 hl
 by_cases jg:b=34
 ·subst jg
  exact BK w f p r fr S0 g0 n0 cap0 0 84 hR0 hl
 by_cases xg:b=96
 ·subst xg
  exact BL w f p r fr S0 g0 n0 cap0 0 84 hR0 hl
 by_cases zV:b=36
 ·subst zV
  exact BM w f p r fr S0 g0 n0 cap0 0 84 hR0 hl
 by_cases yZ:b=40
 ·subst yZ
  exact zfX w f p r fr S0 g0 n0 cap0 hR0 hl
 by_cases jK:b=41
 ·subst jK
  exact zfY w f p r fr S0 g0 n0 cap0 hR0 hl
 have e:(b=35->fr=false)->zF ((0,f)::r) fr b p=⟨(0,f)::r,qo b⟩:=λh35=>by
  have hc:cls b≠4:=by
   unfold cls
   repeat' split
   all_goals omega
  show fin (mv 0 b fr) _ _=_;rw[pO (by decide) fr hc h35 yZ jK];rfl
 by_cases h35:b=35
 ·subst h35
  cases fr with
  |true=>exact BN w f p r S0 g0 n0 cap0 0 84 hR0 hl
  |false=>
   rw[e (λ_=>rfl)];exact BP w f p r S0 g0 n0 cap0 0 84 hR0 hl
 ·rw[e (λh=>absurd h h35)]
  exact BO w b f p r fr S0 g0 n0 cap0 0 84 hR0 hl (yL yR) (yL jf) (yL jg) (yL xg) (yL zV) (yL h35) (yL yZ) (yL jK)
theorem zgW(hR0:Rv w ((1,f)::r) S0 g0 n0 cap0)(hl:r.length<=99000):
  Calls prog 169 #[.agg #[.string S0,.slice (some ⟨g0,0,none⟩) n0 cap0,.bool fr],.int .u8 67,.int .u8 b,.int .i64 (p:Int)] w (zI w g0 (zF ((1,f)::r) fr b p).st (zF ((1,f)::r) fr b p).fresh):=by
 by_cases yR:b=92
 ·subst yR
  exact BI w f p r fr S0 g0 n0 cap0 1 67 hR0 hl
 by_cases jf:b=39
 ·subst jf
  exact BJ w f p r fr S0 g0 n0 cap0 1 67 hR0 hl
 by_cases jg:b=34
 ·subst jg
  exact BK w f p r fr S0 g0 n0 cap0 1 67 hR0 hl
 by_cases xg:b=96
 ·subst xg
  exact BL w f p r fr S0 g0 n0 cap0 1 67 hR0 hl
 by_cases zV:b=36
 ·subst zV
  exact BM w f p r fr S0 g0 n0 cap0 1 67 hR0 hl
 by_cases yZ:b=40
 ·subst yZ
  exact zfZ w f p r fr S0 g0 n0 cap0 hR0 hl
 by_cases jK:b=41
 ·subst jK
  exact zf0 w f p r fr S0 g0 n0 cap0 hR0 hl
 have e:(b=35->fr=false)->zF ((1,f)::r) fr b p=⟨(1,f)::r,qo b⟩:=λh35=>by
  have hc:cls b≠4:=by
   unfold cls
   repeat' split
   all_goals omega
  show fin (mv 1 b fr) _ _=_;rw[pO (by decide) fr hc h35 yZ jK];rfl
 by_cases h35:b=35
 ·subst h35
  cases fr with
  |true=>exact BN w f p r S0 g0 n0 cap0 1 67 hR0 hl
  |false=>
   rw[e (λ_=>rfl)];exact BP w f p r S0 g0 n0 cap0 1 67 hR0 hl
 ·rw[e (λh=>absurd h h35)]
  exact BO w b f p r fr S0 g0 n0 cap0 1 67 hR0 hl (yL yR) (yL jf) (yL jg) (yL xg) (yL zV) (yL h35) (yL yZ) (yL jK)
theorem zgX(hR0:Rv w ((2,f)::r) S0 g0 n0 cap0)(hl:r.length<=99000):
  Calls prog 169 #[.agg #[.string S0,.slice (some ⟨g0,0,none⟩) n0 cap0,.bool fr],.int .u8 80,.int .u8 b,.int .i64 (p:Int)] w (zI w g0 (zF ((2,f)::r) fr b p).st (zF ((2,f)::r) fr b p).fresh):=by
 by_cases yR:b=92
 ·subst yR
  exact BI w f p r fr S0 g0 n0 cap0 2 80 hR0 hl
 by_cases jf:b=39
 ·subst jf
  exact BJ w f p r fr S0 g0 n0 cap0 2 80 hR0 hl
 by_cases jg:b=34
 ·subst jg
  exact BK w f p r fr S0 g0 n0 cap0 2 80 hR0 hl
 by_cases xg:b=96
 ·subst xg
  exact BL w f p r fr S0 g0 n0 cap0 2 80 hR0 hl
 by_cases zV:b=36
 ·subst zV
  exact BM w f p r fr S0 g0 n0 cap0 2 80 hR0 hl
 by_cases yZ:b=40
 ·subst yZ
  exact zf3 w f p r fr S0 g0 n0 cap0 hR0 hl
 by_cases jK:b=41
 ·subst jK
  exact zf4 w f p r fr S0 g0 n0 cap0 hR0 hl
 have e:(b=35->fr=false)->zF ((2,f)::r) fr b p=⟨(2,f)::r,qo b⟩:=λh35=>by
  have hc:cls b≠4:=by
   unfold cls
   repeat' split
   all_goals omega
  show fin (mv 2 b fr) _ _=_;rw[pO (by decide) fr hc h35 yZ jK];rfl
 by_cases h35:b=35
 ·subst h35
  cases fr with
  |true=>exact BN w f p r S0 g0 n0 cap0 2 80 hR0 hl
  |false=>
   rw[e (λ_=>rfl)];exact BP w f p r S0 g0 n0 cap0 2 80 hR0 hl
 ·rw[e (λh=>absurd h h35)]
  exact BO w b f p r fr S0 g0 n0 cap0 2 80 hR0 hl (yL yR) (yL jf) (yL jg) (yL xg) (yL zV) (yL h35) (yL yZ) (yL jK)
theorem zgY(hR0:Rv w ((0,f)::r) S0 g0 n0 cap0)(hl:r.length<=99000):
  Calls prog 139 #[.agg #[.string S0,.slice (some ⟨g0,0,none⟩) n0 cap0,.bool fr],.int .u8 84,.int .u8 b,.int .i64 (p:Int)] w (zI w g0 (zF ((0,f)::r) fr b p).st (zF ((0,f)::r) fr b p).fresh):=by
 have hlt:=hR0.lt;obtain⟨X,hX⟩:∃X,zF ((0,f)::r) fr b p=X:=⟨_,rfl⟩;have hcall:=λW (h:Below w.heap.size w W)=>zgV W b f p r S0 g0 n0 cap0 fr (hR0.below h) hl;rw[hX]at hcall ⊢;obtain⟨sX,fX⟩:=X;clear hX;go_enter func139,ntmps139
 go_wp2_with fail
 refine(hcall _ (zy _ _ _)).mono ?_;rintro e w1 ⟨S1,g1,n1,cap1,rfl,hR1,hb1,hg1⟩;obtain⟨hs1,hg1,hZ1,yu,yw,yx,yz,yA,yC⟩:=vF hb1 hg1;go_wp2;exact bodyPost_ret (by simp[results,results139,go_sem, *]) rfl (xQ (zy w _ _) hR1 hb1 hg1 hlt)
theorem UG(hR0:Rv w ((1,f)::r) S0 g0 n0 cap0)(hl:r.length<=99000):
  Calls prog 139 #[.agg #[.string S0,.slice (some ⟨g0,0,none⟩) n0 cap0,.bool fr],.int .u8 67,.int .u8 b,.int .i64 (p:Int)] w (zI w g0 (zF ((1,f)::r) fr b p).st (zF ((1,f)::r) fr b p).fresh):=by
 have hlt:=hR0.lt;obtain⟨X,hX⟩:∃X,zF ((1,f)::r) fr b p=X:=⟨_,rfl⟩;have hcall:=λW (h:Below w.heap.size w W)=>zgW W b f p r S0 g0 n0 cap0 fr (hR0.below h) hl;rw[hX]at hcall ⊢;obtain⟨sX,fX⟩:=X;clear hX;go_enter func139,ntmps139
 go_wp2_with fail
 refine(hcall _ (zy _ _ _)).mono ?_;rintro e w1 ⟨S1,g1,n1,cap1,rfl,hR1,hb1,hg1⟩;obtain⟨hs1,hg1,hZ1,yu,yw,yx,yz,yA,yC⟩:=vF hb1 hg1;go_wp2;exact bodyPost_ret (by simp[results,results139,go_sem, *]) rfl (xQ (zy w _ _) hR1 hb1 hg1 hlt)
theorem zgZ(hR0:Rv w ((2,f)::r) S0 g0 n0 cap0)(hl:r.length<=99000):
  Calls prog 139 #[.agg #[.string S0,.slice (some ⟨g0,0,none⟩) n0 cap0,.bool fr],.int .u8 80,.int .u8 b,.int .i64 (p:Int)] w (zI w g0 (zF ((2,f)::r) fr b p).st (zF ((2,f)::r) fr b p).fresh):=by
 have hlt:=hR0.lt;obtain⟨X,hX⟩:∃X,zF ((2,f)::r) fr b p=X:=⟨_,rfl⟩;have hcall:=λW (h:Below w.heap.size w W)=>zgX W b f p r S0 g0 n0 cap0 fr (hR0.below h) hl;rw[hX]at hcall ⊢;obtain⟨sX,fX⟩:=X;clear hX;go_enter func139,ntmps139
 go_wp2_with fail
 refine(hcall _ (zy _ _ _)).mono ?_;rintro e w1 ⟨S1,g1,n1,cap1,rfl,hR1,hb1,hg1⟩;obtain⟨hs1,hg1,hZ1,yu,yw,yx,yz,yA,yC⟩:=vF hb1 hg1;go_wp2;exact bodyPost_ret (by simp[results,results139,go_sem, *]) rfl (xQ (zy w _ _) hR1 hb1 hg1 hlt)
theorem zg0(hR0:Rv w ((13,f)::r) S0 g0 n0 cap0)(hl:r.length<=99000):
  Calls prog 139 #[.agg #[.string S0,.slice (some ⟨g0,0,none⟩) n0 cap0,.bool fr],.int .u8 88,.int .u8 10,.int .i64 (p:Int)] w (zI w g0 r fr):=by
 have hlt:=hR0.lt;go_enter func139,ntmps139
 go_wp2_with fail
 refine(Vh _ r S0 g0 n0 cap0 fr 13 f (hR0.below (zy _ _ _)) (by omega)).mono ?_;rintro e w1 ⟨S1,g1,n1,cap1,rfl,hR1,hb1,hg1⟩;obtain⟨hs1,hg1,hZ1,yu,yw,yx,yz,yA,yC⟩:=vF hb1 hg1;have hL1:=wE (zy w _ _) hb1;obtain⟨JH,JI,JJ,JK,JL,JM,XH⟩:=qU (dB w _ _ _) hb1
 go_upto_region 5 with fail
 obtain⟨v1,hv1,dC,hV1,JO,hT1,hN1,nz,nC,nD,nG,nH,wJ,nI,vb1,nJ,nK,nM,lV⟩:=lT JH hZ1 hR1 hL1 (by omega) (.string S1) (.slice (some ⟨g1,0,none⟩) n1 cap1) (.bool fr);rw[hv1];clear hv1 JI JJ JK JL JM XH yu yw yx yz yA yC;go_wp2;exact bodyPost_ret (by simp[results,results139,go_sem, *]) rfl (gK (g0:=g0) JO hT1 (w.heap.size+1) (by omega) (by omega) (by omega) _ _ _)
theorem zg1(hR0:Rv w ((13,f)::r) S0 g0 n0 cap0)(hl:r.length<=99000)(t0:((b:Int)==10)=false):
  Calls prog 139 #[.agg #[.string S0,.slice (some ⟨g0,0,none⟩) n0 cap0,.bool fr],.int .u8 88,.int .u8 b,.int .i64 (p:Int)] w (zI w g0 r false):=by
 have hlt:=hR0.lt;go_enter func139,ntmps139
 go_wp2_with fail
 refine(Vh _ r S0 g0 n0 cap0 fr 13 f (hR0.below (zy _ _ _)) (by omega)).mono ?_;rintro e w1 ⟨S1,g1,n1,cap1,rfl,hR1,hb1,hg1⟩;obtain⟨hs1,hg1,hZ1,yu,yw,yx,yz,yA,yC⟩:=vF hb1 hg1;have hL1:=wE (zy w _ _) hb1;obtain⟨JH,JI,JJ,JK,JL,JM,XH⟩:=qU (dB w _ _ _) hb1
 go_upto_region 5 with fail
 obtain⟨v1,hv1,dC,hV1,JO,hT1,hN1,nz,nC,nD,nG,nH,wJ,nI,vb1,nJ,nK,nM,lV⟩:=lT JH hZ1 hR1 hL1 (by omega) (.string S1) (.slice (some ⟨g1,0,none⟩) n1 cap1) (.bool fr);rw[hv1];clear hv1 JI JJ JK JL JM XH yu yw yx yz yA yC
 go_wp2_with fail
 refine(Y8 _ r S1 g1 n1 cap1 fr false JO).mono ?_;rintro e w2 ⟨S2,g2,n2,cap2,rfl,hR2,hb2,hg2⟩;have hs2:=hb2.size;obtain⟨hZ2,XB,XC,XD,XE,XF,XG⟩:=qU hV1 hb2;rw[hN1]at hs2 hg2;have hL2:=hT1.trans (hb2.mono (by omega));obtain⟨hY2,ya2,yb2,yc2,yd2,ye2,pR⟩:=qU dC hb2
 go_upto_region 7 with fail
 obtain⟨v2,hv2,hU2,hV2,hQ2,hT2,hN2,ua2,ub2,uc2,ud2,ue2,BX,va2,vb2,vc2,vd2,ve2,UJ⟩:=lT hY2 hZ2 hR2 hL2 (by omega) (.string S2) (.slice (some ⟨g2,0,none⟩) n2 cap2) (.bool false);rw[hv2];clear hv2 ya2 yb2 yc2 yd2 ye2 pR XB XC XD XE XF XG;go_wp2;exact bodyPost_ret (by simp[results,results139,go_sem, *]) rfl (gK (g0:=g0) hQ2 hT2 (w.heap.size+1) (by omega) (by omega) (by omega) _ _ _)
theorem zg2(hR0:Rv w ((4,f)::r) S0 g0 n0 cap0)(hl:r.length<=99000):
  Calls prog 139 #[.agg #[.string S0,.slice (some ⟨g0,0,none⟩) n0 cap0,.bool fr],.int .u8 83,.int .u8 b,.int .i64 (p:Int)] w (zI w g0 (zF ((4,f)::r) fr b p).st (zF ((4,f)::r) fr b p).fresh):=by
 by_cases jf:b=39
 ·subst jf
  exact zf5 w f p r fr S0 g0 n0 cap0 hR0 hl
 have e:zF ((4,f)::r) fr b p=⟨(4,f)::r,fr⟩:=by
  have hm:mv 4 b fr=(.keep,fr):=by unfold mv;simp[vV, *]
  show fin (mv 4 b fr) _ _=_;rw[hm];rfl
 rw[e];exact zf6 w b f p r fr S0 g0 n0 cap0 hR0 hl (yL jf)
theorem zg3(hR0:Rv w ((14,f)::r) S0 g0 n0 cap0)(hl:r.length<=99000):
  Calls prog 139 #[.agg #[.string S0,.slice (some ⟨g0,0,none⟩) n0 cap0,.bool fr],.int .u8 35,.int .u8 b,.int .i64 (p:Int)] w (zI w g0 (zF ((14,f)::r) fr b p).st (zF ((14,f)::r) fr b p).fresh):=by
 by_cases h10:b=10
 ·subst h10
  exact zf7 w f p r fr S0 g0 n0 cap0 hR0 hl
 have e:zF ((14,f)::r) fr b p=⟨(14,f)::r,fr⟩:=by
  have hm:mv 14 b fr=(.keep,fr):=by unfold mv;simp[vV, *]
  show fin (mv 14 b fr) _ _=_;rw[hm];rfl
 rw[e];exact zf8 w b f p r fr S0 g0 n0 cap0 hR0 hl (yL h10)
theorem zg4(hR0:Rv w ((6,f)::r) S0 g0 n0 cap0)(hl:r.length<=99000):
  Calls prog 139 #[.agg #[.string S0,.slice (some ⟨g0,0,none⟩) n0 cap0,.bool fr],.int .u8 66,.int .u8 b,.int .i64 (p:Int)] w (zI w g0 (zF ((6,f)::r) fr b p).st (zF ((6,f)::r) fr b p).fresh):=by
 by_cases xg:b=96
 ·subst xg
  exact zf9 w f p r fr S0 g0 n0 cap0 hR0 hl
 by_cases yR:b=92
 ·subst yR
  exact zga w f p r fr S0 g0 n0 cap0 hR0 hl
 have e:zF ((6,f)::r) fr b p=⟨(6,f)::r,fr⟩:=by
  have hm:mv 6 b fr=(.keep,fr):=by unfold mv;simp[vV, *]
  show fin (mv 6 b fr) _ _=_;rw[hm];rfl
 rw[e];exact zgb w b f p r fr S0 g0 n0 cap0 hR0 hl (yL xg) (yL yR)
theorem zg5(hR0:Rv w ((13,f)::r) S0 g0 n0 cap0)(hl:r.length<=99000):
  Calls prog 139 #[.agg #[.string S0,.slice (some ⟨g0,0,none⟩) n0 cap0,.bool fr],.int .u8 88,.int .u8 b,.int .i64 (p:Int)] w (zI w g0 (zF ((13,f)::r) fr b p).st (zF ((13,f)::r) fr b p).fresh):=by
 by_cases h10:b=10
 ·subst h10
  exact zg0 w f p r S0 g0 n0 cap0 fr hR0 hl
 have e:zF ((13,f)::r) fr b p=⟨r,false⟩:=by
  have hm:mv 13 b fr=(.pop,false):=by unfold mv;simp[vV, *]
  show fin (mv 13 b fr) _ _=_;rw[hm];rfl
 rw[e];exact zg1 w b f p r S0 g0 n0 cap0 fr hR0 hl (yL h10)
theorem zg6(hR0:Rv w ((5,f)::r) S0 g0 n0 cap0)(hl:r.length<=99000):
  Calls prog 139 #[.agg #[.string S0,.slice (some ⟨g0,0,none⟩) n0 cap0,.bool fr],.int .u8 68,.int .u8 b,.int .i64 (p:Int)] w (zI w g0 (zF ((5,f)::r) fr b p).st (zF ((5,f)::r) fr b p).fresh):=by
 by_cases yR:b=92
 ·subst yR
  exact zgc w f p r fr S0 g0 n0 cap0 hR0 hl
 by_cases zV:b=36
 ·subst zV
  exact zgd w f p r fr S0 g0 n0 cap0 hR0 hl
 by_cases xg:b=96
 ·subst xg
  exact zge w f p r fr S0 g0 n0 cap0 hR0 hl
 by_cases jg:b=34
 ·subst jg
  exact zgf w f p r fr S0 g0 n0 cap0 hR0 hl
 have e:zF ((5,f)::r) fr b p=⟨(5,f)::r,fr⟩:=by
  have ho:opn b=15:=by unfold opn;simp[yR,zV,xg]
  have hm:mv 5 b fr=(.keep,fr):=by unfold mv;simp[vV, *]
  show fin (mv 5 b fr) _ _=_;rw[hm];rfl
 rw[e];exact zgg w b f p r fr S0 g0 n0 cap0 hR0 hl (yL yR) (yL zV) (yL xg) (yL jg)
theorem zg7(hR0:Rv w ((7,f)::r) S0 g0 n0 cap0)(hl:r.length<=99000):
  Calls prog 139 #[.agg #[.string S0,.slice (some ⟨g0,0,none⟩) n0 cap0,.bool fr],.int .u8 86,.int .u8 b,.int .i64 (p:Int)] w (zI w g0 (zF ((7,f)::r) fr b p).st (zF ((7,f)::r) fr b p).fresh):=by
 by_cases yR:b=92
 ·subst yR
  exact zgh w f p r fr S0 g0 n0 cap0 hR0 hl
 by_cases zV:b=36
 ·subst zV
  exact zgi w f p r fr S0 g0 n0 cap0 hR0 hl
 by_cases xg:b=96
 ·subst xg
  exact zgj w f p r fr S0 g0 n0 cap0 hR0 hl
 by_cases jg:b=34
 ·subst jg
  exact zgn w f p r fr S0 g0 n0 cap0 hR0 hl
 by_cases JP:b=125
 ·subst JP
  exact zgo w f p r fr S0 g0 n0 cap0 hR0 hl
 by_cases jf:b=39
 ·subst jf
  exact zgr w f p r fr S0 g0 n0 cap0 hR0 hl
 have e:zF ((7,f)::r) fr b p=⟨(7,f)::r,fr⟩:=by
  have ho:opn b=15:=by unfold opn;simp[yR,zV,xg]
  have hm:mv 7 b fr=(.keep,fr):=by unfold mv;simp[vV, *]
  show fin (mv 7 b fr) _ _=_;rw[hm];rfl
 rw[e];exact zgt w b f p r fr S0 g0 n0 cap0 hR0 hl (yL yR) (yL zV) (yL xg) (yL jg) (yL JP) (yL jf)
theorem zg8(hR0:Rv w ((8,f)::r) S0 g0 n0 cap0)(hl:r.length<=99000):
  Calls prog 139 #[.agg #[.string S0,.slice (some ⟨g0,0,none⟩) n0 cap0,.bool fr],.int .u8 73,.int .u8 b,.int .i64 (p:Int)] w (zI w g0 (zF ((8,f)::r) fr b p).st (zF ((8,f)::r) fr b p).fresh):=by
 by_cases yR:b=92
 ·subst yR
  exact zgk w f p r fr S0 g0 n0 cap0 hR0 hl
 by_cases zV:b=36
 ·subst zV
  exact zgl w f p r fr S0 g0 n0 cap0 hR0 hl
 by_cases xg:b=96
 ·subst xg
  exact zgm w f p r fr S0 g0 n0 cap0 hR0 hl
 by_cases jg:b=34
 ·subst jg
  exact zgp w f p r fr S0 g0 n0 cap0 hR0 hl
 by_cases JP:b=125
 ·subst JP
  exact zgq w f p r fr S0 g0 n0 cap0 hR0 hl
 by_cases jf:b=39
 ·subst jf
  exact zgs w f p r fr S0 g0 n0 cap0 hR0 hl
 have e:zF ((8,f)::r) fr b p=⟨(8,f)::r,fr⟩:=by
  have ho:opn b=15:=by unfold opn;simp[yR,zV,xg]
  have hm:mv 8 b fr=(.keep,fr):=by unfold mv;simp[vV, *]
  show fin (mv 8 b fr) _ _=_;rw[hm];rfl
 rw[e];exact zgu w b f p r fr S0 g0 n0 cap0 hR0 hl (yL yR) (yL zV) (yL xg) (yL jg) (yL JP) (yL jf)
theorem UH(hR0:Rv w ((9,f)::r) S0 g0 n0 cap0)(hl:r.length<=99000):
  Calls prog 139 #[.agg #[.string S0,.slice (some ⟨g0,0,none⟩) n0 cap0,.bool fr],.int .u8 65,.int .u8 b,.int .i64 (p:Int)] w (zI w g0 (zF ((9,f)::r) fr b p).st (zF ((9,f)::r) fr b p).fresh):=by
 by_cases yR:b=92
 ·subst yR
  exact zgv w f p r fr S0 g0 n0 cap0 hR0 hl
 by_cases zV:b=36
 ·subst zV
  exact zgw w f p r fr S0 g0 n0 cap0 hR0 hl
 by_cases xg:b=96
 ·subst xg
  exact zgx w f p r fr S0 g0 n0 cap0 hR0 hl
 by_cases yZ:b=40
 ·subst yZ
  exact zgB w f p r fr S0 g0 n0 cap0 hR0 hl
 by_cases jK:b=41
 ·subst jK
  exact zgD w f p r fr S0 g0 n0 cap0 hR0 hl
 have e:zF ((9,f)::r) fr b p=⟨(9,f)::r,fr⟩:=by
  have ho:opn b=15:=by unfold opn;simp[yR,zV,xg]
  have hm:mv 9 b fr=(.keep,fr):=by unfold mv;simp[vV, *]
  show fin (mv 9 b fr) _ _=_;rw[hm];rfl
 rw[e];exact zgF w b f p r fr S0 g0 n0 cap0 hR0 hl (yL yR) (yL zV) (yL xg) (yL yZ) (yL jK)
theorem zg9(hR0:Rv w ((10,f)::r) S0 g0 n0 cap0)(hl:r.length<=99000):
  Calls prog 139 #[.agg #[.string S0,.slice (some ⟨g0,0,none⟩) n0 cap0,.bool fr],.int .u8 82,.int .u8 b,.int .i64 (p:Int)] w (zI w g0 (zF ((10,f)::r) fr b p).st (zF ((10,f)::r) fr b p).fresh):=by
 by_cases yR:b=92
 ·subst yR
  exact zgy w f p r fr S0 g0 n0 cap0 hR0 hl
 by_cases zV:b=36
 ·subst zV
  exact zgz w f p r fr S0 g0 n0 cap0 hR0 hl
 by_cases xg:b=96
 ·subst xg
  exact zgA w f p r fr S0 g0 n0 cap0 hR0 hl
 by_cases yZ:b=40
 ·subst yZ
  exact zgC w f p r fr S0 g0 n0 cap0 hR0 hl
 by_cases jK:b=41
 ·subst jK
  exact zgE w f p r fr S0 g0 n0 cap0 hR0 hl
 have e:zF ((10,f)::r) fr b p=⟨(10,f)::r,fr⟩:=by
  have ho:opn b=15:=by unfold opn;simp[yR,zV,xg]
  have hm:mv 10 b fr=(.keep,fr):=by unfold mv;simp[vV, *]
  show fin (mv 10 b fr) _ _=_;rw[hm];rfl
 rw[e];exact zgG w b f p r fr S0 g0 n0 cap0 hR0 hl (yL yR) (yL zV) (yL xg) (yL yZ) (yL jK)
theorem UE(m:Nat)(hm:m<=14/\m≠3/\m≠11/\m≠12)(hR0:Rv w ((m,f)::r) S0 g0 n0 cap0)(hl:r.length<=99000):
  Calls prog 139 #[.agg #[.string S0,.slice (some ⟨g0,0,none⟩) n0 cap0,.bool fr],.int .u8 ((xe m).toNat:Nat),.int .u8 b,.int .i64 (p:Int)] w (zI w g0 (zF ((m,f)::r) fr b p).st (zF ((m,f)::r) fr b p).fresh):=by
 by_cases e0:m=0
 ·subst e0
  have e:(((xe 0).toNat:Nat):Int)=84:=by decide
  rw[e];exact zgY w b f p r S0 g0 n0 cap0 fr hR0 hl
 by_cases e1:m=1
 ·subst e1
  have e:(((xe 1).toNat:Nat):Int)=67:=by decide
  rw[e];exact UG w b f p r S0 g0 n0 cap0 fr hR0 hl
 by_cases e2:m=2
 ·subst e2
  have e:(((xe 2).toNat:Nat):Int)=80:=by decide
  rw[e];exact zgZ w b f p r S0 g0 n0 cap0 fr hR0 hl
 by_cases e4:m=4
 ·subst e4
  have e:(((xe 4).toNat:Nat):Int)=83:=by decide
  rw[e];exact zg2 w b f p r S0 g0 n0 cap0 fr hR0 hl
 by_cases e5:m=5
 ·subst e5
  have e:(((xe 5).toNat:Nat):Int)=68:=by decide
  rw[e];exact zg6 w b f p r S0 g0 n0 cap0 fr hR0 hl
 by_cases e6:m=6
 ·subst e6
  have e:(((xe 6).toNat:Nat):Int)=66:=by decide
  rw[e];exact zg4 w b f p r S0 g0 n0 cap0 fr hR0 hl
 by_cases e7:m=7
 ·subst e7
  have e:(((xe 7).toNat:Nat):Int)=86:=by decide
  rw[e];exact zg7 w b f p r S0 g0 n0 cap0 fr hR0 hl
 by_cases e8:m=8
 ·subst e8
  have e:(((xe 8).toNat:Nat):Int)=73:=by decide
  rw[e];exact zg8 w b f p r S0 g0 n0 cap0 fr hR0 hl
 by_cases e9:m=9
 ·subst e9
  have e:(((xe 9).toNat:Nat):Int)=65:=by decide
  rw[e];exact UH w b f p r S0 g0 n0 cap0 fr hR0 hl
 by_cases e10:m=10
 ·subst e10
  have e:(((xe 10).toNat:Nat):Int)=82:=by decide
  rw[e];exact zg9 w b f p r S0 g0 n0 cap0 fr hR0 hl
 by_cases e13:m=13
 ·subst e13
  have e:(((xe 13).toNat:Nat):Int)=88:=by decide
  rw[e];exact zg5 w b f p r S0 g0 n0 cap0 fr hR0 hl
 by_cases e14:m=14
 ·subst e14
  have e:(((xe 14).toNat:Nat):Int)=35:=by decide
  rw[e];exact zg3 w b f p r S0 g0 n0 cap0 fr hR0 hl
 omega
end
open _root_.List renaming length_cons->wan
open _root_.Go.IntWalk renaming i64_in->waq
open Lib(hid)
section
variable(w:World)(b f p:Nat)(r:List Fr)(S0:ByteArray)(g0 n0 cap0:Nat)(fr:Bool)
theorem UD{w:World}{m f:Nat}{r:List Fr}{S:ByteArray}{g n cap:Nat}(h:Rv w ((m,f)::r) S g n cap){k:Nat}(he:k=r.length)(hk:k<S.size):(S[k].toNat:Int)=(((xe m).toNat:Nat):Int):=by rw[←zT hk,he,h.top]
theorem BQ{w:World}{m f m2 f2:Nat}{r:List Fr}{S:ByteArray}{g n cap:Nat}(h:Rv w ((m,f)::(m2,f2)::r) S g n cap){k:Nat}(he:k=r.length)(hk:k<S.size):(S[k].toNat:Int)=(((xe m2).toNat:Nat):Int):=by rw[←zT hk,he,h.next]
theorem JG{w:World}{m f:Nat}{r:List Fr}{S:ByteArray}{g n cap:Nat}(h:Rv w ((m,f)::r) S g n cap)(hl:r.length<=90001)(c:Int)(hc:(((xe m).toNat:Nat):Int)=c):∃k,∃hk:k<S.size,g<w.heap.size/\(S[k].toNat:Int)=c/\Hid (S.size=k+1)/\Hid (k=r.length)/\IntKind.i64.wrap ((S.size:Int)-1)=(k:Int)/\(k:Int)<S.size/\(0:Int)<=(k:Int):=by
 have hz:S.size=r.length+1:=h.size;have hk:r.length<S.size:=by omega
 exact⟨r.length,hk,h.lt,by rw[UD h rfl hk,hc],hid hz,hid rfl,by rw[waq _ (by omega)];omega,by omega,by omega⟩
theorem zgH(m:Nat)(hm:m<=14/\m≠3/\m≠11/\m≠12)(hR0:Rv w ((m,f)::r) S0 g0 n0 cap0)(hl:r.length<=90000):
  Calls prog 114 #[.agg #[.string S0,.slice (some ⟨g0,0,none⟩) n0 cap0,.bool fr],.int .u8 b,.int .i64 (p:Int)] w (zI w g0 (zF ((m,f)::r) fr b p).st (zF ((m,f)::r) fr b p).fresh):=by
 obtain⟨X,hX⟩:∃X,zF ((m,f)::r) fr b p=X:=⟨_,rfl⟩;obtain⟨lc,hlc⟩:∃lc,(xe m).toNat=lc:=⟨_,rfl⟩;have hcall:=λW (h:Below w.heap.size w W)=>UE W b f p r S0 g0 n0 cap0 fr m hm (hR0.below h) (by omega);have hu:∀m,m<15->m≠3->m≠11->m≠12->((((xe m).toNat:Nat):Int)==76)=false/\((((xe m).toNat:Nat):Int)==79)=false/\((((xe m).toNat:Nat):Int)==69)=false:=by decide
 obtain⟨u76,UF,u69⟩:=hu m (by omega) hm.2.1 hm.2.2.1 hm.2.2.2;rw[hX,hlc]at hcall;rw[hlc]at u76 UF u69;rw[hX];obtain⟨sX,fX⟩:=X;obtain⟨k,hks,hlt,hby,HZ,HK,e1,QV,q0⟩:=JG hR0 (by omega) (lc:Int) (by rw[hlc]);clear hX hlc hu hm;go_enter func114,ntmps114
 go_wp2_with fail
 refine(hcall _ (zy _ _ _)).mono ?_;rintro e w1 ⟨S1,g1,n1,cap1,rfl,hR1,hb1,hg1⟩;obtain⟨hs1,hg1,hZ1,yu,yw,yx,yz,yA,yC⟩:=vF hb1 hg1;go_wp2;exact bodyPost_ret (by simp[results,results114,go_sem, *]) rfl (xQ (zy w _ _) hR1 hb1 hg1 hlt)
theorem zgI(hR0:Rv w ((12,f)::r) S0 g0 n0 cap0)(hl:r.length<=90000):
  Calls prog 114 #[.agg #[.string S0,.slice (some ⟨g0,0,none⟩) n0 cap0,.bool fr],.int .u8 40,.int .i64 (p:Int)] w (zI w g0 ((3,f)::r) true):=by
 obtain⟨k,hks,hlt,hby,HZ,HK,e1,QV,q0⟩:=JG hR0 (by first|omega|(simp only[wan];omega)) 76 (by decide);go_enter func114,ntmps114
 go_wp2_with fail
 refine(wC _ r S0 g0 n0 cap0 fr 12 f 3 _ rfl (hR0.below (zy _ _ _)) (by omega)).mono ?_;rintro e w1 ⟨S1,g1,n1,cap1,rfl,hR1,hb1,hg1⟩;obtain⟨hs1,hg1,hZ1,yu,yw,yx,yz,yA,yC⟩:=vF hb1 hg1
 go_wp2_with fail
 refine(Y8 _ ((3,f)::r) S1 g1 n1 cap1 fr true hR1).mono ?_;rintro e w2 ⟨S2,g2,n2,cap2,rfl,hR2,hb2,hg2⟩;have hs2:=hb2.size;obtain⟨hZ2,XB,XC,XD,XE,XF,XG⟩:=qU hZ1 hb2;go_wp2;exact bodyPost_ret (by simp[results,results114,go_sem, *]) rfl (JC (zy w _ _) hR2 hb1 hb2 hs1 hg1 hg2 hlt)
theorem zgJ(f2:Nat)(hR0:Rv w ((12,f)::(5,f2)::r) S0 g0 n0 cap0)(hl:r.length<=90000):
  Calls prog 114 #[.agg #[.string S0,.slice (some ⟨g0,0,none⟩) n0 cap0,.bool fr],.int .u8 123,.int .i64 (p:Int)] w (zI w g0 ((8,f)::(5,f2)::r) fr):=by
 obtain⟨k,hks,hlt,hby,HZ,HK,e1,QV,q0⟩:=JG hR0 (by first|omega|(simp only[wan];omega)) 76 (by decide);obtain⟨j,hj⟩:∃j,j=r.length:=⟨_,rfl⟩;have hkj:k=j+1:=by rw[HK.out,hj];rfl
 have hjs:j<S0.size:=by omega
 have wI:=BQ hR0 hj hjs;have BR:(j:Int)<S0.size:=by omega
 have q2:(0:Int)<=(j:Int):=by omega
 have e2:IntKind.i64.wrap ((S0.size:Int)-2)=(j:Int):=by have:=HZ.out;rw[waq _ (by omega)];omega
 rw[show(((xe 5).toNat:Nat):Int)=68 by decide]at wI;have HJ:=hid hj;clear hj hkj;go_enter func114,ntmps114
 go_wp2_with fail
 refine(wC _ ((5,f2)::r) S0 g0 n0 cap0 fr 12 f 8 _ rfl (hR0.below (zy _ _ _)) (by simp;omega)).mono ?_;rintro e w1 ⟨S1,g1,n1,cap1,rfl,hR1,hb1,hg1⟩;obtain⟨hs1,hg1,hZ1,yu,yw,yx,yz,yA,yC⟩:=vF hb1 hg1;go_wp2;exact bodyPost_ret (by simp[results,results114,go_sem, *]) rfl (xQ (zy w _ _) hR1 hb1 hg1 hlt)
theorem zgK(f2:Nat)(hR0:Rv w ((12,f)::(8,f2)::r) S0 g0 n0 cap0)(hl:r.length<=90000):
  Calls prog 114 #[.agg #[.string S0,.slice (some ⟨g0,0,none⟩) n0 cap0,.bool fr],.int .u8 123,.int .i64 (p:Int)] w (zI w g0 ((8,f)::(8,f2)::r) fr):=by
 obtain⟨k,hks,hlt,hby,HZ,HK,e1,QV,q0⟩:=JG hR0 (by first|omega|(simp only[wan];omega)) 76 (by decide);obtain⟨j,hj⟩:∃j,j=r.length:=⟨_,rfl⟩;have hkj:k=j+1:=by rw[HK.out,hj];rfl
 have hjs:j<S0.size:=by omega
 have wI:=BQ hR0 hj hjs;have BR:(j:Int)<S0.size:=by omega
 have q2:(0:Int)<=(j:Int):=by omega
 have e2:IntKind.i64.wrap ((S0.size:Int)-2)=(j:Int):=by have:=HZ.out;rw[waq _ (by omega)];omega
 rw[show(((xe 8).toNat:Nat):Int)=73 by decide]at wI;have HJ:=hid hj;clear hj hkj;go_enter func114,ntmps114
 go_wp2_with fail
 refine(wC _ ((8,f2)::r) S0 g0 n0 cap0 fr 12 f 8 _ rfl (hR0.below (zy _ _ _)) (by simp;omega)).mono ?_;rintro e w1 ⟨S1,g1,n1,cap1,rfl,hR1,hb1,hg1⟩;obtain⟨hs1,hg1,hZ1,yu,yw,yx,yz,yA,yC⟩:=vF hb1 hg1;go_wp2;exact bodyPost_ret (by simp[results,results114,go_sem, *]) rfl (xQ (zy w _ _) hR1 hb1 hg1 hlt)
theorem zgL(f2:Nat)(m2:Nat)(t5:m2≠5)(t8:m2≠8)(hm:m2<=14)(hR0:Rv w ((12,f)::(m2,f2)::r) S0 g0 n0 cap0)(hl:r.length<=90000):
  Calls prog 114 #[.agg #[.string S0,.slice (some ⟨g0,0,none⟩) n0 cap0,.bool fr],.int .u8 123,.int .i64 (p:Int)] w (zI w g0 ((7,f)::(m2,f2)::r) fr):=by
 obtain⟨k,hks,hlt,hby,HZ,HK,e1,QV,q0⟩:=JG hR0 (by first|omega|(simp only[wan];omega)) 76 (by decide);obtain⟨j,hj⟩:∃j,j=r.length:=⟨_,rfl⟩;have hkj:k=j+1:=by rw[HK.out,hj];rfl
 have hjs:j<S0.size:=by omega
 have wI:=BQ hR0 hj hjs;have BR:(j:Int)<S0.size:=by omega
 have q2:(0:Int)<=(j:Int):=by omega
 have e2:IntKind.i64.wrap ((S0.size:Int)-2)=(j:Int):=by have:=HZ.out;rw[waq _ (by omega)];omega
 have u5:((S0[j].toNat:Int)==68)=false:=by
  rw[wI];have:∀m,m<=14->m≠5->m≠8->((((xe m).toNat:Nat):Int)==68)=false:=by
   intro m h1 h2 h3;have:∀m,m<15->m≠5->m≠8->((((xe m).toNat:Nat):Int)==68)=false:=by decide
   exact this m (by omega) h2 h3
  exact this m2 hm t5 t8
 have u8:((S0[j].toNat:Int)==73)=false:=by
  rw[wI];have:∀m,m<=14->m≠5->m≠8->((((xe m).toNat:Nat):Int)==73)=false:=by
   intro m h1 h2 h3;have:∀m,m<15->m≠5->m≠8->((((xe m).toNat:Nat):Int)==73)=false:=by decide
   exact this m (by omega) h2 h3
  exact this m2 hm t5 t8
 clear wI t5 t8;have HJ:=hid hj;clear hj hkj;go_enter func114,ntmps114
 go_wp2_with fail
 refine(wC _ ((m2,f2)::r) S0 g0 n0 cap0 fr 12 f 7 _ rfl (hR0.below (zy _ _ _)) (by simp;omega)).mono ?_;rintro e w1 ⟨S1,g1,n1,cap1,rfl,hR1,hb1,hg1⟩;obtain⟨hs1,hg1,hZ1,yu,yw,yx,yz,yA,yC⟩:=vF hb1 hg1;go_wp2;exact bodyPost_ret (by simp[results,results114,go_sem, *]) rfl (xQ (zy w _ _) hR1 hb1 hg1 hlt)
theorem zgM(hR0:Rv w ((12,f)::r) S0 g0 n0 cap0)(hl:r.length<=90000):
  Calls prog 114 #[.agg #[.string S0,.slice (some ⟨g0,0,none⟩) n0 cap0,.bool fr],.int .u8 36,.int .i64 (p:Int)] w (zI w g0 r fr):=by
 obtain⟨k,hks,hlt,hby,HZ,HK,e1,QV,q0⟩:=JG hR0 (by first|omega|(simp only[wan];omega)) 76 (by decide);go_enter func114,ntmps114
 go_wp2_with fail
 refine(Vh _ r S0 g0 n0 cap0 fr 12 f (hR0.below (zy _ _ _)) (by omega)).mono ?_;rintro e w1 ⟨S1,g1,n1,cap1,rfl,hR1,hb1,hg1⟩;obtain⟨hs1,hg1,hZ1,yu,yw,yx,yz,yA,yC⟩:=vF hb1 hg1;have hL1:=wE (zy w _ _) hb1;obtain⟨JH,JI,JJ,JK,JL,JM,XH⟩:=qU (dB w _ _ _) hb1
 go_upto_region 10 with fail
 obtain⟨v1,hv1,dC,hV1,JO,hT1,hN1,nz,nC,nD,nG,nH,wJ,nI,vb1,nJ,nK,nM,lV⟩:=lT JH hZ1 hR1 hL1 (by omega) (.string S1) (.slice (some ⟨g1,0,none⟩) n1 cap1) (.bool fr);rw[hv1];clear hv1 JI JJ JK JL JM XH yu yw yx yz yA yC;go_wp2;exact bodyPost_ret (by simp[results,results114,go_sem, *]) rfl (gK (g0:=g0) JO hT1 (w.heap.size+1) (by omega) (by omega) (by omega) _ _ _)
theorem zgN(m2 f2:Nat)(hm:m2<=14/\m2≠3/\m2≠11/\m2≠12)(t40:((b:Int)==40)=false)(t123:((b:Int)==123)=false)(t36:((b:Int)==36)=false)(hR0:Rv w ((12,f)::(m2,f2)::r) S0 g0 n0 cap0)(hl:r.length<=90000):
  Calls prog 114 #[.agg #[.string S0,.slice (some ⟨g0,0,none⟩) n0 cap0,.bool fr],.int .u8 b,.int .i64 (p:Int)] w (zI w g0 (zF ((m2,f2)::r) fr b p).st (zF ((m2,f2)::r) fr b p).fresh):=by
 obtain⟨X,hX⟩:∃X,zF ((m2,f2)::r) fr b p=X:=⟨_,rfl⟩;have hcall:=λW S g n cap (h:Rv W ((m2,f2)::r) S g n cap)=>UE W b f2 p r S g n cap fr m2 hm h (by omega);rw[hX]at hcall ⊢;obtain⟨sX,fX⟩:=X;obtain⟨lc,hlc⟩:∃lc,(xe m2).toNat=lc:=⟨_,rfl⟩;rw[hlc]at hcall;have gu:=hid hlc;have HM:=hid hm;clear hX hlc hm;obtain⟨k,hks,hlt,hby,HZ,HK,e1,QV,q0⟩:=JG hR0 (by first|omega|(simp only[wan];omega)) 76 (by decide);go_enter func114,ntmps114
 go_wp2_with fail
 refine(Vh _ ((m2,f2)::r) S0 g0 n0 cap0 fr 12 f (hR0.below (zy _ _ _)) (by simp;omega)).mono ?_;rintro e w1 ⟨S1,g1,n1,cap1,rfl,hR1,hb1,hg1⟩;obtain⟨hs1,hg1,hZ1,yu,yw,yx,yz,yA,yC⟩:=vF hb1 hg1;have hL1:=wE (zy w _ _) hb1;obtain⟨JH,JI,JJ,JK,JL,JM,XH⟩:=qU (dB w _ _ _) hb1
 go_upto_region 10 with fail
 obtain⟨v1,hv1,dC,hV1,JO,hT1,hN1,nz,nC,nD,nG,nH,wJ,nI,vb1,nJ,nK,nM,lV⟩:=lT JH hZ1 hR1 hL1 (by omega) (.string S1) (.slice (some ⟨g1,0,none⟩) n1 cap1) (.bool fr);rw[hv1];clear hv1 JI JJ JK JL JM XH yu yw yx yz yA yC;have hsz1:=hR1.size;simp only[wan]at hsz1;obtain⟨j,hj⟩:∃j,j=r.length:=⟨_,rfl⟩;have zgO:j<S1.size:=by omega
 have zgP:=UD hR1 hj zgO;rw[gu.out]at zgP;have e3:IntKind.i64.wrap ((S1.size:Int)-1)=(j:Int):=by rw[waq _ (by omega)];omega
 have BR:(j:Int)<S1.size:=by omega
 have q2:(0:Int)<=(j:Int):=by omega
 have UF:((lc:Int)==79)=false:=by
  have:=HM.out;have h2:∀m,m<15->m≠3->((((xe m).toNat:Nat):Int)==79)=false:=by decide
  rw[←gu.out];exact h2 m2 (by omega) this.2.1
 have HJ:=hid hj;have HZ1:=hid hsz1;clear hj hsz1
 go_wp2_with fail
 refine(hcall _ S1 g1 n1 cap1 JO).mono ?_;rintro e w2 ⟨S2,g2,n2,cap2,rfl,hR2,hb2,hg2⟩;have hs2:=hb2.size;obtain⟨hZ2,XB,XC,XD,XE,XF,XG⟩:=qU hV1 hb2;rw[hN1]at hs2 hg2;go_wp2;exact bodyPost_ret (by simp[results,results114,go_sem, *]) rfl (gK (g0:=g0) hR2 (hT1.trans (hb2.mono (by omega))) (w.heap.size+1) (by omega) (by omega) (by omega) _ _ _)
theorem zgQ(hR0:Rv w ((3,f)::r) S0 g0 n0 cap0)(hl:r.length<=90000):
  Calls prog 114 #[.agg #[.string S0,.slice (some ⟨g0,0,none⟩) n0 cap0,.bool fr],.int .u8 40,.int .i64 (p:Int)] w (zI w g0 ((9,f)::r) false):=by
 obtain⟨k,hks,hlt,hby,HZ,HK,e1,QV,q0⟩:=JG hR0 (by first|omega|(simp only[wan];omega)) 79 (by decide);go_enter func114,ntmps114
 go_wp2_with fail
 refine(wC _ r S0 g0 n0 cap0 fr 3 f 9 _ rfl (hR0.below (zy _ _ _)) (by omega)).mono ?_;rintro e w1 ⟨S1,g1,n1,cap1,rfl,hR1,hb1,hg1⟩;obtain⟨hs1,hg1,hZ1,yu,yw,yx,yz,yA,yC⟩:=vF hb1 hg1
 go_wp2_with fail
 refine(Y8 _ ((9,f)::r) S1 g1 n1 cap1 fr false hR1).mono ?_;rintro e w2 ⟨S2,g2,n2,cap2,rfl,hR2,hb2,hg2⟩;have hs2:=hb2.size;obtain⟨hZ2,XB,XC,XD,XE,XF,XG⟩:=qU hZ1 hb2;go_wp2;exact bodyPost_ret (by simp[results,results114,go_sem, *]) rfl (JC (zy w _ _) hR2 hb1 hb2 hs1 hg1 hg2 hlt)
theorem zgR(hR0:Rv w ((3,f)::r) S0 g0 n0 cap0)(hl:r.length<=90000)(t0:((b:Int)==40)=false):
  Calls prog 114 #[.agg #[.string S0,.slice (some ⟨g0,0,none⟩) n0 cap0,.bool fr],.int .u8 b,.int .i64 (p:Int)] w (zI w g0 (zF ((1,f)::r) fr b p).st (zF ((1,f)::r) fr b p).fresh):=by
 obtain⟨X,hX⟩:∃X,zF ((1,f)::r) fr b p=X:=⟨_,rfl⟩;have hcall:=λW S g n cap (h:Rv W ((1,f)::r) S g n cap)=>UG W b f p r S g n cap fr h (by omega);rw[hX]at hcall ⊢;obtain⟨sX,fX⟩:=X;clear hX;obtain⟨k,hks,hlt,hby,HZ,HK,e1,QV,q0⟩:=JG hR0 (by first|omega|(simp only[wan];omega)) 79 (by decide);go_enter func114,ntmps114
 go_wp2_with fail
 refine(wC _ r S0 g0 n0 cap0 fr 3 f 1 _ rfl (hR0.below (zy _ _ _)) (by omega)).mono ?_;rintro e w1 ⟨S1,g1,n1,cap1,rfl,hR1,hb1,hg1⟩;obtain⟨hs1,hg1,hZ1,yu,yw,yx,yz,yA,yC⟩:=vF hb1 hg1;have hL1:=wE (zy w _ _) hb1;obtain⟨JH,JI,JJ,JK,JL,JM,XH⟩:=qU (dB w _ _ _) hb1
 go_upto_region 17 with fail
 obtain⟨v1,hv1,dC,hV1,JO,hT1,hN1,nz,nC,nD,nG,nH,wJ,nI,vb1,nJ,nK,nM,lV⟩:=lT JH hZ1 hR1 hL1 (by omega) (.string S1) (.slice (some ⟨g1,0,none⟩) n1 cap1) (.bool fr);rw[hv1];clear hv1 JI JJ JK JL JM XH yu yw yx yz yA yC
 go_wp2_with fail
 refine(hcall _ S1 g1 n1 cap1 JO).mono ?_;rintro e w2 ⟨S2,g2,n2,cap2,rfl,hR2,hb2,hg2⟩;have hs2:=hb2.size;obtain⟨hZ2,XB,XC,XD,XE,XF,XG⟩:=qU hV1 hb2;rw[hN1]at hs2 hg2;go_wp2;exact bodyPost_ret (by simp[results,results114,go_sem, *]) rfl (gK (g0:=g0) hR2 (hT1.trans (hb2.mono (by omega))) (w.heap.size+1) (by omega) (by omega) (by omega) _ _ _)
theorem zgS(hR0:Rv w ((11,f)::r) S0 g0 n0 cap0)(hl:r.length<=90000):
  Calls prog 114 #[.agg #[.string S0,.slice (some ⟨g0,0,none⟩) n0 cap0,.bool fr],.int .u8 41,.int .i64 (p:Int)] w (zI w g0 r fr):=by
 obtain⟨k,hks,hlt,hby,HZ,HK,e1,QV,q0⟩:=JG hR0 (by first|omega|(simp only[wan];omega)) 69 (by decide);go_enter func114,ntmps114
 go_wp2_with fail
 refine(Vh _ r S0 g0 n0 cap0 fr 11 f (hR0.below (zy _ _ _)) (by omega)).mono ?_;rintro e w1 ⟨S1,g1,n1,cap1,rfl,hR1,hb1,hg1⟩;obtain⟨hs1,hg1,hZ1,yu,yw,yx,yz,yA,yC⟩:=vF hb1 hg1;go_wp2;exact bodyPost_ret (by simp[results,results114,go_sem, *]) rfl (xQ (zy w _ _) hR1 hb1 hg1 hlt)
theorem zgT(hR0:Rv w ((11,f)::r) S0 g0 n0 cap0)(hl:r.length<=90000)(t0:((b:Int)==41)=false):
  Calls prog 114 #[.agg #[.string S0,.slice (some ⟨g0,0,none⟩) n0 cap0,.bool fr],.int .u8 b,.int .i64 (p:Int)] w (zI w g0 (zF ((9,f)::r) fr b p).st (zF ((9,f)::r) fr b p).fresh):=by
 obtain⟨X,hX⟩:∃X,zF ((9,f)::r) fr b p=X:=⟨_,rfl⟩;have hcall:=λW S g n cap (h:Rv W ((9,f)::r) S g n cap)=>UH W b f p r S g n cap fr h (by omega);rw[hX]at hcall ⊢;obtain⟨sX,fX⟩:=X;clear hX;obtain⟨k,hks,hlt,hby,HZ,HK,e1,QV,q0⟩:=JG hR0 (by first|omega|(simp only[wan];omega)) 69 (by decide);go_enter func114,ntmps114
 go_wp2_with fail
 refine(wC _ r S0 g0 n0 cap0 fr 11 f 9 _ rfl (hR0.below (zy _ _ _)) (by omega)).mono ?_;rintro e w1 ⟨S1,g1,n1,cap1,rfl,hR1,hb1,hg1⟩;obtain⟨hs1,hg1,hZ1,yu,yw,yx,yz,yA,yC⟩:=vF hb1 hg1;have hL1:=wE (zy w _ _) hb1;obtain⟨JH,JI,JJ,JK,JL,JM,XH⟩:=qU (dB w _ _ _) hb1
 go_upto_region 22 with fail
 obtain⟨v1,hv1,dC,hV1,JO,hT1,hN1,nz,nC,nD,nG,nH,wJ,nI,vb1,nJ,nK,nM,lV⟩:=lT JH hZ1 hR1 hL1 (by omega) (.string S1) (.slice (some ⟨g1,0,none⟩) n1 cap1) (.bool fr);rw[hv1];clear hv1 JI JJ JK JL JM XH yu yw yx yz yA yC
 go_wp2_with fail
 refine(hcall _ S1 g1 n1 cap1 JO).mono ?_;rintro e w2 ⟨S2,g2,n2,cap2,rfl,hR2,hb2,hg2⟩;have hs2:=hb2.size;obtain⟨hZ2,XB,XC,XD,XE,XF,XG⟩:=qU hV1 hb2;rw[hN1]at hs2 hg2;go_wp2;exact bodyPost_ret (by simp[results,results114,go_sem, *]) rfl (gK (g0:=g0) hR2 (hT1.trans (hb2.mono (by omega))) (w.heap.size+1) (by omega) (by omega) (by omega) _ _ _)
theorem BH(x:Ms)(hI:Inv x)(hR0:Rv w x.st S0 g0 n0 cap0)(hl:x.st.length<=90000):
  Calls prog 114 #[.agg #[.string S0,.slice (some ⟨g0,0,none⟩) n0 cap0,.bool x.fresh],.int .u8 b,.int .i64 (p:Int)] w (zI w g0 (y7 x b p).st (y7 x b p).fresh):=by
 obtain⟨st,fr⟩:=x
 cases st with
 |nil=>exact absurd hI.good (by simp[good])
 |cons a r=>
  obtain⟨m,f⟩:=a;have hle:=QT hI.good;simp only[wan]at hl hR0 ⊢;by_cases h12:m=12
  ·subst h12
   by_cases yZ:b=40
   ·subst yZ
    exact zgI w f p r S0 g0 n0 cap0 fr hR0 (by omega)
   obtain⟨m2,f2,r2,rfl,ho,hg2⟩:=Ve hI.good (by omega);have hb2:=Jw ho;unfold base at hb2;rw[decide_eq_true_iff]at hb2;simp only[wan]at hl;by_cases wH:b=123
   ·subst wH
    by_cases h5:m2=5
    ·subst h5
     exact zgJ w f p r2 S0 g0 n0 cap0 fr f2 hR0 (by omega)
    by_cases h8:m2=8
    ·subst h8
     exact zgK w f p r2 S0 g0 n0 cap0 fr f2 hR0 (by omega)
    have e:y7 ⟨(12,f)::(m2,f2)::r2,fr⟩ 123 p=⟨(7,f)::(m2,f2)::r2,fr⟩:=by
     show(⟨(ZK m2,f)::(m2,f2)::r2,fr⟩:Ms)=_;unfold ZK;rw[if_neg (by omega)]
    rw[e];exact zgL w f p r2 S0 g0 n0 cap0 fr f2 m2 h5 h8 (by omega) hR0 (by omega)
   by_cases zV:b=36
   ·subst zV
    exact zgM w f p ((m2,f2)::r2) S0 g0 n0 cap0 fr hR0 (by simp;omega)
   have e:y7 ⟨(12,f)::(m2,f2)::r2,fr⟩ b p=zF ((m2,f2)::r2) fr b p:=by
    unfold y7;simp[yZ,wH,zV]
   rw[e];exact zgN w b f p r2 S0 g0 n0 cap0 fr m2 f2 ⟨by omega,by omega,by omega,by omega⟩ (yL yZ) (yL wH) (yL zV) hR0 (by omega)
  by_cases h3:m=3
  ·subst h3
   by_cases yZ:b=40
   ·subst yZ
    exact zgQ w f p r S0 g0 n0 cap0 fr hR0 (by omega)
   have e:y7 ⟨(3,f)::r,fr⟩ b p=zF ((1,f)::r) fr b p:=by
    unfold y7;simp[yZ]
   rw[e];exact zgR w b f p r S0 g0 n0 cap0 fr hR0 (by omega) (yL yZ)
  by_cases h11:m=11
  ·subst h11
   by_cases jK:b=41
   ·subst jK
    exact zgS w f p r S0 g0 n0 cap0 fr hR0 (by omega)
   have e:y7 ⟨(11,f)::r,fr⟩ b p=zF ((9,f)::r) fr b p:=by
    unfold y7;simp[jK]
   rw[e];exact zgT w b f p r S0 g0 n0 cap0 fr hR0 (by omega) (yL jK)
  rw[pM h3 h11 h12];exact zgH w b f p r S0 g0 n0 cap0 fr m ⟨hle,h3,h11,h12⟩ hR0 (by omega)
end
end Go.Proofs.YtkolpaonccmgiaaGreatDoor

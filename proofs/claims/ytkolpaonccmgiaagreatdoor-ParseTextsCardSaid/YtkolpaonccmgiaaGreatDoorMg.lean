/- What the document's own machine makes of a byte in -/
import Derived.Test.YtkolpaonccmgiaaGreatDoorMdB
namespace Go.Proofs.YtkolpaonccmgiaaGreatDoor
set_option linter.unusedSectionVars false
set_option linter.unusedVariables false
open Go.Proofs.Tryz
set_option maxHeartbeats 8000000
open Go.RowKit
section
variable(w:World)(b f p:Nat)(r:List Fr)(S:ByteArray)(g n cap:Nat)(fr:Bool)
theorem BI(S0:ByteArray)(g0 n0 cap0:Nat)(m:Nat)(c:Int)(hR0:Rv w ((m,f)::r) S0 g0 n0 cap0)(hl:r.length<=99000):
  Calls prog 169 #[.agg #[.string S0,.slice (some ⟨g0,0,none⟩) n0 cap0,.bool fr],.int .u8 c,.int .u8 92,.int .i64 (p:Int)] w (zI w g0 ((13,p)::((m,f)::r)) fr):=by
 have hlt:=hR0.lt;go_enter func169,ntmps169
 go_wp2_with fail
 refine(jB _ ((m,f)::r) S0 g0 n0 cap0 fr 13 p _ rfl (hR0.below (zy _ _ _)) (by simp;omega) (by simp)).mono ?_;rintro e w1 ⟨S1,g1,n1,cap1,rfl,hR1,hb1,hg1⟩;obtain⟨hs1,hg1,hZ1,yu,yw,yx,yz,yA,yC⟩:=vF hb1 hg1;go_wp2;exact bodyPost_ret (by simp[results,results169,go_sem, *]) rfl (xQ (zy w _ _) hR1 hb1 hg1 hlt)
theorem BJ(S0:ByteArray)(g0 n0 cap0:Nat)(m:Nat)(c:Int)(hR0:Rv w ((m,f)::r) S0 g0 n0 cap0)(hl:r.length<=99000):
  Calls prog 169 #[.agg #[.string S0,.slice (some ⟨g0,0,none⟩) n0 cap0,.bool fr],.int .u8 c,.int .u8 39,.int .i64 (p:Int)] w (zI w g0 ((4,p)::((m,f)::r)) false):=by
 have hlt:=hR0.lt;go_enter func169,ntmps169
 go_wp2_with fail
 refine(jB _ ((m,f)::r) S0 g0 n0 cap0 fr 4 p _ rfl (hR0.below (zy _ _ _)) (by simp;omega) (by simp)).mono ?_;rintro e w1 ⟨S1,g1,n1,cap1,rfl,hR1,hb1,hg1⟩;obtain⟨hs1,hg1,hZ1,yu,yw,yx,yz,yA,yC⟩:=vF hb1 hg1
 go_wp2_with fail
 refine(Y8 _ ((4,p)::((m,f)::r)) S1 g1 n1 cap1 fr false hR1).mono ?_;rintro e w2 ⟨S2,g2,n2,cap2,rfl,hR2,hb2,hg2⟩;have hs2:=hb2.size;obtain⟨hZ2,XB,XC,XD,XE,XF,XG⟩:=qU hZ1 hb2;go_wp2;exact bodyPost_ret (by simp[results,results169,go_sem, *]) rfl (JC (zy w _ _) hR2 hb1 hb2 hs1 hg1 hg2 hlt)
theorem BK(S0:ByteArray)(g0 n0 cap0:Nat)(m:Nat)(c:Int)(hR0:Rv w ((m,f)::r) S0 g0 n0 cap0)(hl:r.length<=99000):
  Calls prog 169 #[.agg #[.string S0,.slice (some ⟨g0,0,none⟩) n0 cap0,.bool fr],.int .u8 c,.int .u8 34,.int .i64 (p:Int)] w (zI w g0 ((5,p)::((m,f)::r)) false):=by
 have hlt:=hR0.lt;go_enter func169,ntmps169
 go_wp2_with fail
 refine(jB _ ((m,f)::r) S0 g0 n0 cap0 fr 5 p _ rfl (hR0.below (zy _ _ _)) (by simp;omega) (by simp)).mono ?_;rintro e w1 ⟨S1,g1,n1,cap1,rfl,hR1,hb1,hg1⟩;obtain⟨hs1,hg1,hZ1,yu,yw,yx,yz,yA,yC⟩:=vF hb1 hg1
 go_wp2_with fail
 refine(Y8 _ ((5,p)::((m,f)::r)) S1 g1 n1 cap1 fr false hR1).mono ?_;rintro e w2 ⟨S2,g2,n2,cap2,rfl,hR2,hb2,hg2⟩;have hs2:=hb2.size;obtain⟨hZ2,XB,XC,XD,XE,XF,XG⟩:=qU hZ1 hb2;go_wp2;exact bodyPost_ret (by simp[results,results169,go_sem, *]) rfl (JC (zy w _ _) hR2 hb1 hb2 hs1 hg1 hg2 hlt)
theorem BL(S0:ByteArray)(g0 n0 cap0:Nat)(m:Nat)(c:Int)(hR0:Rv w ((m,f)::r) S0 g0 n0 cap0)(hl:r.length<=99000):
  Calls prog 169 #[.agg #[.string S0,.slice (some ⟨g0,0,none⟩) n0 cap0,.bool fr],.int .u8 c,.int .u8 96,.int .i64 (p:Int)] w (zI w g0 ((6,p)::((m,f)::r)) false):=by
 have hlt:=hR0.lt;go_enter func169,ntmps169;go_wp2
 go_region_with (first
  |(go_at_call 171;refine(JE _).mono ?_;rintro e w9 ⟨rfl,rfl⟩)
  |(go_at_call 170;refine(jB _ ((m,f)::r) S0 g0 n0 cap0 fr 6 p _ rfl (hR0.below ((zy _ _ _).drew)) (by simp;omega) (by simp)).mono ?_;rintro e w1 ⟨S1,g1,n1,cap1,rfl,hR1,hb1,hg1⟩;obtain⟨hs1,hg1,hZ1,yu,yw,yx,yz,yA,yC⟩:=ZM hb1 hg1)
  |(go_at_call 136;refine(Y8 _ ((6,p)::((m,f)::r)) S1 g1 n1 cap1 fr false hR1).mono ?_;rintro e w2 ⟨S2,g2,n2,cap2,rfl,hR2,hb2,hg2⟩;have hs2:=hb2.size;obtain⟨hZ2,XB,XC,XD,XE,XF,XG⟩:=qU hZ1 hb2))
 all_goals
  go_wp2;exact bodyPost_ret (by simp[results,results169,go_sem, *]) rfl (JC (zy w _ _).drew hR2 hb1 hb2 hs1 hg1 hg2 hlt)
theorem BM(S0:ByteArray)(g0 n0 cap0:Nat)(m:Nat)(c:Int)(hR0:Rv w ((m,f)::r) S0 g0 n0 cap0)(hl:r.length<=99000):
  Calls prog 169 #[.agg #[.string S0,.slice (some ⟨g0,0,none⟩) n0 cap0,.bool fr],.int .u8 c,.int .u8 36,.int .i64 (p:Int)] w (zI w g0 ((12,p)::((m,f)::r)) false):=by
 have hlt:=hR0.lt;go_enter func169,ntmps169;go_wp2
 go_region_with (first
  |(go_at_call 171;refine(JF _).mono ?_;rintro e w9 ⟨rfl,rfl⟩)
  |(go_at_call 170;refine(jB _ ((m,f)::r) S0 g0 n0 cap0 fr 12 p _ rfl (hR0.below ((zy _ _ _).drew)) (by simp;omega) (by simp)).mono ?_;rintro e w1 ⟨S1,g1,n1,cap1,rfl,hR1,hb1,hg1⟩;obtain⟨hs1,hg1,hZ1,yu,yw,yx,yz,yA,yC⟩:=ZM hb1 hg1)
  |(go_at_call 136;refine(Y8 _ ((12,p)::((m,f)::r)) S1 g1 n1 cap1 fr false hR1).mono ?_;rintro e w2 ⟨S2,g2,n2,cap2,rfl,hR2,hb2,hg2⟩;have hs2:=hb2.size;obtain⟨hZ2,XB,XC,XD,XE,XF,XG⟩:=qU hZ1 hb2))
 all_goals
  go_wp2;exact bodyPost_ret (by simp[results,results169,go_sem, *]) rfl (JC (zy w _ _).drew hR2 hb1 hb2 hs1 hg1 hg2 hlt)
theorem BN(S0:ByteArray)(g0 n0 cap0:Nat)(m:Nat)(c:Int)(hR0:Rv w ((m,f)::r) S0 g0 n0 cap0)(hl:r.length<=99000):
  Calls prog 169 #[.agg #[.string S0,.slice (some ⟨g0,0,none⟩) n0 cap0,.bool true],.int .u8 c,.int .u8 35,.int .i64 (p:Int)] w (zI w g0 ((14,p)::((m,f)::r)) true):=by
 have hlt:=hR0.lt;go_enter func169,ntmps169
 go_wp2_with fail
 refine(jB _ ((m,f)::r) S0 g0 n0 cap0 true 14 p _ rfl (hR0.below (zy _ _ _)) (by simp;omega) (by simp)).mono ?_;rintro e w1 ⟨S1,g1,n1,cap1,rfl,hR1,hb1,hg1⟩;obtain⟨hs1,hg1,hZ1,yu,yw,yx,yz,yA,yC⟩:=vF hb1 hg1;go_wp2;exact bodyPost_ret (by simp[results,results169,go_sem, *]) rfl (xQ (zy w _ _) hR1 hb1 hg1 hlt)
theorem zfX(S0:ByteArray)(g0 n0 cap0:Nat)(hR0:Rv w ((0,f)::r) S0 g0 n0 cap0)(hl:r.length<=99000):
  Calls prog 169 #[.agg #[.string S0,.slice (some ⟨g0,0,none⟩) n0 cap0,.bool fr],.int .u8 84,.int .u8 40,.int .i64 (p:Int)] w (zI w g0 ((0,f)::r) true):=by
 have hlt:=hR0.lt;go_enter func169,ntmps169
 go_wp2_with fail
 refine(Y8 _ ((0,f)::r) S0 g0 n0 cap0 fr true (hR0.below (zy _ _ _))).mono ?_;rintro e w1 ⟨S1,g1,n1,cap1,rfl,hR1,hb1,hg1⟩;obtain⟨hs1,hg1,hZ1,yu,yw,yx,yz,yA,yC⟩:=vF hb1 hg1;go_wp2;exact bodyPost_ret (by simp[results,results169,go_sem, *]) rfl (xQ (zy w _ _) hR1 hb1 hg1 hlt)
theorem zfY(S0:ByteArray)(g0 n0 cap0:Nat)(hR0:Rv w ((0,f)::r) S0 g0 n0 cap0)(hl:r.length<=99000):
  Calls prog 169 #[.agg #[.string S0,.slice (some ⟨g0,0,none⟩) n0 cap0,.bool fr],.int .u8 84,.int .u8 41,.int .i64 (p:Int)] w (zI w g0 ((0,f)::r) true):=by
 have hlt:=hR0.lt;go_enter func169,ntmps169
 go_wp2_with fail
 refine(Y8 _ ((0,f)::r) S0 g0 n0 cap0 fr true (hR0.below (zy _ _ _))).mono ?_;rintro e w1 ⟨S1,g1,n1,cap1,rfl,hR1,hb1,hg1⟩;obtain⟨hs1,hg1,hZ1,yu,yw,yx,yz,yA,yC⟩:=vF hb1 hg1;go_wp2;exact bodyPost_ret (by simp[results,results169,go_sem, *]) rfl (xQ (zy w _ _) hR1 hb1 hg1 hlt)
theorem zfZ(S0:ByteArray)(g0 n0 cap0:Nat)(hR0:Rv w ((1,f)::r) S0 g0 n0 cap0)(hl:r.length<=99000):
  Calls prog 169 #[.agg #[.string S0,.slice (some ⟨g0,0,none⟩) n0 cap0,.bool fr],.int .u8 67,.int .u8 40,.int .i64 (p:Int)] w (zI w g0 ((2,p)::((1,f)::r)) true):=by
 have hlt:=hR0.lt;go_enter func169,ntmps169
 go_wp2_with fail
 refine(jB _ ((1,f)::r) S0 g0 n0 cap0 fr 2 p _ rfl (hR0.below (zy _ _ _)) (by simp;omega) (by simp)).mono ?_;rintro e w1 ⟨S1,g1,n1,cap1,rfl,hR1,hb1,hg1⟩;obtain⟨hs1,hg1,hZ1,yu,yw,yx,yz,yA,yC⟩:=vF hb1 hg1
 go_wp2_with fail
 refine(Y8 _ ((2,p)::((1,f)::r)) S1 g1 n1 cap1 fr true hR1).mono ?_;rintro e w2 ⟨S2,g2,n2,cap2,rfl,hR2,hb2,hg2⟩;have hs2:=hb2.size;obtain⟨hZ2,XB,XC,XD,XE,XF,XG⟩:=qU hZ1 hb2;go_wp2;exact bodyPost_ret (by simp[results,results169,go_sem, *]) rfl (JC (zy w _ _) hR2 hb1 hb2 hs1 hg1 hg2 hlt)
theorem zf0(S0:ByteArray)(g0 n0 cap0:Nat)(hR0:Rv w ((1,f)::r) S0 g0 n0 cap0)(hl:r.length<=99000):
  Calls prog 169 #[.agg #[.string S0,.slice (some ⟨g0,0,none⟩) n0 cap0,.bool fr],.int .u8 67,.int .u8 41,.int .i64 (p:Int)] w (zI w g0 r false):=by
 have hlt:=hR0.lt;go_enter func169,ntmps169
 go_wp2_with fail
 refine(Vh _ r S0 g0 n0 cap0 fr 1 f (hR0.below (zy _ _ _)) (by omega)).mono ?_;rintro e w1 ⟨S1,g1,n1,cap1,rfl,hR1,hb1,hg1⟩;obtain⟨hs1,hg1,hZ1,yu,yw,yx,yz,yA,yC⟩:=vF hb1 hg1
 go_wp2_with fail
 refine(Y8 _ r S1 g1 n1 cap1 fr false hR1).mono ?_;rintro e w2 ⟨S2,g2,n2,cap2,rfl,hR2,hb2,hg2⟩;have hs2:=hb2.size;obtain⟨hZ2,XB,XC,XD,XE,XF,XG⟩:=qU hZ1 hb2;go_wp2;exact bodyPost_ret (by simp[results,results169,go_sem, *]) rfl (JC (zy w _ _) hR2 hb1 hb2 hs1 hg1 hg2 hlt)
theorem zf3(S0:ByteArray)(g0 n0 cap0:Nat)(hR0:Rv w ((2,f)::r) S0 g0 n0 cap0)(hl:r.length<=99000):
  Calls prog 169 #[.agg #[.string S0,.slice (some ⟨g0,0,none⟩) n0 cap0,.bool fr],.int .u8 80,.int .u8 40,.int .i64 (p:Int)] w (zI w g0 ((2,p)::((2,f)::r)) true):=by
 have hlt:=hR0.lt;go_enter func169,ntmps169
 go_wp2_with fail
 refine(jB _ ((2,f)::r) S0 g0 n0 cap0 fr 2 p _ rfl (hR0.below (zy _ _ _)) (by simp;omega) (by simp)).mono ?_;rintro e w1 ⟨S1,g1,n1,cap1,rfl,hR1,hb1,hg1⟩;obtain⟨hs1,hg1,hZ1,yu,yw,yx,yz,yA,yC⟩:=vF hb1 hg1
 go_wp2_with fail
 refine(Y8 _ ((2,p)::((2,f)::r)) S1 g1 n1 cap1 fr true hR1).mono ?_;rintro e w2 ⟨S2,g2,n2,cap2,rfl,hR2,hb2,hg2⟩;have hs2:=hb2.size;obtain⟨hZ2,XB,XC,XD,XE,XF,XG⟩:=qU hZ1 hb2;go_wp2;exact bodyPost_ret (by simp[results,results169,go_sem, *]) rfl (JC (zy w _ _) hR2 hb1 hb2 hs1 hg1 hg2 hlt)
theorem zf4(S0:ByteArray)(g0 n0 cap0:Nat)(hR0:Rv w ((2,f)::r) S0 g0 n0 cap0)(hl:r.length<=99000):
  Calls prog 169 #[.agg #[.string S0,.slice (some ⟨g0,0,none⟩) n0 cap0,.bool fr],.int .u8 80,.int .u8 41,.int .i64 (p:Int)] w (zI w g0 r true):=by
 have hlt:=hR0.lt;go_enter func169,ntmps169
 go_wp2_with fail
 refine(Vh _ r S0 g0 n0 cap0 fr 2 f (hR0.below (zy _ _ _)) (by omega)).mono ?_;rintro e w1 ⟨S1,g1,n1,cap1,rfl,hR1,hb1,hg1⟩;obtain⟨hs1,hg1,hZ1,yu,yw,yx,yz,yA,yC⟩:=vF hb1 hg1
 go_wp2_with fail
 refine(Y8 _ r S1 g1 n1 cap1 fr true hR1).mono ?_;rintro e w2 ⟨S2,g2,n2,cap2,rfl,hR2,hb2,hg2⟩;have hs2:=hb2.size;obtain⟨hZ2,XB,XC,XD,XE,XF,XG⟩:=qU hZ1 hb2;go_wp2;exact bodyPost_ret (by simp[results,results169,go_sem, *]) rfl (JC (zy w _ _) hR2 hb1 hb2 hs1 hg1 hg2 hlt)
theorem BO(S0:ByteArray)(g0 n0 cap0:Nat)(m:Nat)(c:Int)(hR0:Rv w ((m,f)::r) S0 g0 n0 cap0)(hl:r.length<=99000)(t0:((b:Int)==92)=false)(t1:((b:Int)==39)=false)(t2:((b:Int)==34)=false)(t3:((b:Int)==96)=false)(t4:((b:Int)==36)=false)(t5:((b:Int)==35)=false)(t6:((b:Int)==40)=false)(t7:((b:Int)==41)=false):
  Calls prog 169 #[.agg #[.string S0,.slice (some ⟨g0,0,none⟩) n0 cap0,.bool fr],.int .u8 c,.int .u8 b,.int .i64 (p:Int)] w (zI w g0 ((m,f)::r) (qo b)):=by
 have hlt:=hR0.lt;go_enter func169,ntmps169;go_wp2
 go_region_with (first
  |(go_at_call 113;refine(Bi _ _).mono ?_;rintro e w9 ⟨rfl,rfl⟩)
  |(go_at_call 136;refine(Y8 _ ((m,f)::r) S0 g0 n0 cap0 fr (qo b) (hR0.below ((zy _ _ _).drew))).mono ?_;rintro e w1 ⟨S1,g1,n1,cap1,rfl,hR1,hb1,hg1⟩;obtain⟨hs1,hg1,hZ1,yu,yw,yx,yz,yA,yC⟩:=ZM hb1 hg1))
 all_goals
  go_wp2;refine bodyPost_ret (v:=.agg #[.string S1,.slice (some ⟨g1,0,none⟩) n1 cap1,.bool (qo b)]) (by simp[results,results169,go_sem, *]) rfl ?_;exact xQ (zy w _ _).drew hR1 hb1 hg1 hlt
theorem BP(S0:ByteArray)(g0 n0 cap0:Nat)(m:Nat)(c:Int)(hR0:Rv w ((m,f)::r) S0 g0 n0 cap0)(hl:r.length<=99000):
  Calls prog 169 #[.agg #[.string S0,.slice (some ⟨g0,0,none⟩) n0 cap0,.bool false],.int .u8 c,.int .u8 35,.int .i64 (p:Int)] w (zI w g0 ((m,f)::r) (qo 35)):=by
 have hlt:=hR0.lt;go_enter func169,ntmps169;go_wp2
 go_region_with (first
  |(go_at_call 113;refine(Bi _ _).mono ?_;rintro e w9 ⟨rfl,rfl⟩)
  |(go_at_call 136;refine(Y8 _ ((m,f)::r) S0 g0 n0 cap0 false (qo 35) (hR0.below ((zy _ _ _).drew))).mono ?_;rintro e w1 ⟨S1,g1,n1,cap1,rfl,hR1,hb1,hg1⟩;obtain⟨hs1,hg1,hZ1,yu,yw,yx,yz,yA,yC⟩:=ZM hb1 hg1))
 all_goals
  go_wp2;refine bodyPost_ret (v:=.agg #[.string S1,.slice (some ⟨g1,0,none⟩) n1 cap1,.bool (qo 35)]) (by simp[results,results169,go_sem, *]) rfl ?_;exact xQ (zy w _ _).drew hR1 hb1 hg1 hlt
end
section
variable(w:World)(b f p:Nat)(r:List Fr)(S:ByteArray)(g n cap:Nat)(fr:Bool)
theorem zf5(S0:ByteArray)(g0 n0 cap0:Nat)(hR0:Rv w ((4,f)::r) S0 g0 n0 cap0)(hl:r.length<=99000):
  Calls prog 139 #[.agg #[.string S0,.slice (some ⟨g0,0,none⟩) n0 cap0,.bool fr],.int .u8 83,.int .u8 39,.int .i64 (p:Int)] w (zI w g0 r fr):=by
 have hlt:=hR0.lt;go_enter func139,ntmps139
 go_wp2_with fail
 refine(Vh _ r S0 g0 n0 cap0 fr 4 f (hR0.below (zy _ _ _)) (by omega)).mono ?_;rintro e w1 ⟨S1,g1,n1,cap1,rfl,hR1,hb1,hg1⟩;obtain⟨hs1,hg1,hZ1,yu,yw,yx,yz,yA,yC⟩:=vF hb1 hg1;go_wp2;exact bodyPost_ret (by simp[results,results139,go_sem, *]) rfl (xQ (zy w _ _) hR1 hb1 hg1 hlt)
theorem zf6(S0:ByteArray)(g0 n0 cap0:Nat)(hR0:Rv w ((4,f)::r) S0 g0 n0 cap0)(hl:r.length<=99000)(t0:((b:Int)==39)=false):
  Calls prog 139 #[.agg #[.string S0,.slice (some ⟨g0,0,none⟩) n0 cap0,.bool fr],.int .u8 83,.int .u8 b,.int .i64 (p:Int)] w (zI w g0 ((4,f)::r) fr):=by
 have hlt:=hR0.lt;go_enter func139,ntmps139;go_wp2;exact bodyPost_ret (by simp[results,results139,go_sem, *]) rfl ⟨S0,g0,n0,cap0,rfl,hR0.below (zy _ _ _),zy _ _ _,.inl rfl⟩
theorem zf7(S0:ByteArray)(g0 n0 cap0:Nat)(hR0:Rv w ((14,f)::r) S0 g0 n0 cap0)(hl:r.length<=99000):
  Calls prog 139 #[.agg #[.string S0,.slice (some ⟨g0,0,none⟩) n0 cap0,.bool fr],.int .u8 35,.int .u8 10,.int .i64 (p:Int)] w (zI w g0 r true):=by
 have hlt:=hR0.lt;go_enter func139,ntmps139
 go_wp2_with fail
 refine(Vh _ r S0 g0 n0 cap0 fr 14 f (hR0.below (zy _ _ _)) (by omega)).mono ?_;rintro e w1 ⟨S1,g1,n1,cap1,rfl,hR1,hb1,hg1⟩;obtain⟨hs1,hg1,hZ1,yu,yw,yx,yz,yA,yC⟩:=vF hb1 hg1
 go_wp2_with fail
 refine(Y8 _ r S1 g1 n1 cap1 fr true hR1).mono ?_;rintro e w2 ⟨S2,g2,n2,cap2,rfl,hR2,hb2,hg2⟩;have hs2:=hb2.size;obtain⟨hZ2,XB,XC,XD,XE,XF,XG⟩:=qU hZ1 hb2;go_wp2;exact bodyPost_ret (by simp[results,results139,go_sem, *]) rfl (JC (zy w _ _) hR2 hb1 hb2 hs1 hg1 hg2 hlt)
theorem zf8(S0:ByteArray)(g0 n0 cap0:Nat)(hR0:Rv w ((14,f)::r) S0 g0 n0 cap0)(hl:r.length<=99000)(t0:((b:Int)==10)=false):
  Calls prog 139 #[.agg #[.string S0,.slice (some ⟨g0,0,none⟩) n0 cap0,.bool fr],.int .u8 35,.int .u8 b,.int .i64 (p:Int)] w (zI w g0 ((14,f)::r) fr):=by
 have hlt:=hR0.lt;go_enter func139,ntmps139;go_wp2;exact bodyPost_ret (by simp[results,results139,go_sem, *]) rfl ⟨S0,g0,n0,cap0,rfl,hR0.below (zy _ _ _),zy _ _ _,.inl rfl⟩
theorem zf9(S0:ByteArray)(g0 n0 cap0:Nat)(hR0:Rv w ((6,f)::r) S0 g0 n0 cap0)(hl:r.length<=99000):
  Calls prog 139 #[.agg #[.string S0,.slice (some ⟨g0,0,none⟩) n0 cap0,.bool fr],.int .u8 66,.int .u8 96,.int .i64 (p:Int)] w (zI w g0 r fr):=by
 have hlt:=hR0.lt;go_enter func139,ntmps139
 go_wp2_with fail
 refine(Vh _ r S0 g0 n0 cap0 fr 6 f (hR0.below (zy _ _ _)) (by omega)).mono ?_;rintro e w1 ⟨S1,g1,n1,cap1,rfl,hR1,hb1,hg1⟩;obtain⟨hs1,hg1,hZ1,yu,yw,yx,yz,yA,yC⟩:=vF hb1 hg1;go_wp2;exact bodyPost_ret (by simp[results,results139,go_sem, *]) rfl (xQ (zy w _ _) hR1 hb1 hg1 hlt)
theorem zga(S0:ByteArray)(g0 n0 cap0:Nat)(hR0:Rv w ((6,f)::r) S0 g0 n0 cap0)(hl:r.length<=99000):
  Calls prog 139 #[.agg #[.string S0,.slice (some ⟨g0,0,none⟩) n0 cap0,.bool fr],.int .u8 66,.int .u8 92,.int .i64 (p:Int)] w (zI w g0 ((13,p)::((6,f)::r)) fr):=by
 have hlt:=hR0.lt;go_enter func139,ntmps139
 go_wp2_with fail
 refine(jB _ ((6,f)::r) S0 g0 n0 cap0 fr 13 p _ rfl (hR0.below (zy _ _ _)) (by simp;omega) (by simp)).mono ?_;rintro e w1 ⟨S1,g1,n1,cap1,rfl,hR1,hb1,hg1⟩;obtain⟨hs1,hg1,hZ1,yu,yw,yx,yz,yA,yC⟩:=vF hb1 hg1;go_wp2;exact bodyPost_ret (by simp[results,results139,go_sem, *]) rfl (xQ (zy w _ _) hR1 hb1 hg1 hlt)
theorem zgb(S0:ByteArray)(g0 n0 cap0:Nat)(hR0:Rv w ((6,f)::r) S0 g0 n0 cap0)(hl:r.length<=99000)(t0:((b:Int)==96)=false)(t1:((b:Int)==92)=false):
  Calls prog 139 #[.agg #[.string S0,.slice (some ⟨g0,0,none⟩) n0 cap0,.bool fr],.int .u8 66,.int .u8 b,.int .i64 (p:Int)] w (zI w g0 ((6,f)::r) fr):=by
 have hlt:=hR0.lt;go_enter func139,ntmps139;go_wp2;exact bodyPost_ret (by simp[results,results139,go_sem, *]) rfl ⟨S0,g0,n0,cap0,rfl,hR0.below (zy _ _ _),zy _ _ _,.inl rfl⟩
theorem zgc(S0:ByteArray)(g0 n0 cap0:Nat)(hR0:Rv w ((5,f)::r) S0 g0 n0 cap0)(hl:r.length<=99000):
  Calls prog 139 #[.agg #[.string S0,.slice (some ⟨g0,0,none⟩) n0 cap0,.bool fr],.int .u8 68,.int .u8 92,.int .i64 (p:Int)] w (zI w g0 ((13,p)::((5,f)::r)) fr):=by
 have hlt:=hR0.lt;go_enter func139,ntmps139
 go_wp2_with (go_at_call 171;refine(QU _).mono ?_;rintro e w9 ⟨rfl,rfl⟩)
 go_region_with (first
  |(go_at_call 171;refine(QU _).mono ?_;rintro e w9 ⟨rfl,rfl⟩)
  |(go_at_call 170;refine(jB _ ((5,f)::r) S0 g0 n0 cap0 fr 13 p _ rfl (hR0.below ((zy _ _ _).drew)) (by simp;omega) (by simp)).mono ?_;rintro e w1 ⟨S1,g1,n1,cap1,rfl,hR1,hb1,hg1⟩;obtain⟨hs1,hg1,hZ1,yu,yw,yx,yz,yA,yC⟩:=ZM hb1 hg1))
 all_goals
  go_wp2;exact bodyPost_ret (by simp[results,results139,go_sem, *]) rfl (xQ (zy w _ _).drew hR1 hb1 hg1 hlt)
theorem zgd(S0:ByteArray)(g0 n0 cap0:Nat)(hR0:Rv w ((5,f)::r) S0 g0 n0 cap0)(hl:r.length<=99000):
  Calls prog 139 #[.agg #[.string S0,.slice (some ⟨g0,0,none⟩) n0 cap0,.bool fr],.int .u8 68,.int .u8 36,.int .i64 (p:Int)] w (zI w g0 ((12,p)::((5,f)::r)) fr):=by
 have hlt:=hR0.lt;go_enter func139,ntmps139
 go_wp2_with (go_at_call 171;refine(JF _).mono ?_;rintro e w9 ⟨rfl,rfl⟩)
 go_region_with (first
  |(go_at_call 171;refine(JF _).mono ?_;rintro e w9 ⟨rfl,rfl⟩)
  |(go_at_call 170;refine(jB _ ((5,f)::r) S0 g0 n0 cap0 fr 12 p _ rfl (hR0.below ((zy _ _ _).drew)) (by simp;omega) (by simp)).mono ?_;rintro e w1 ⟨S1,g1,n1,cap1,rfl,hR1,hb1,hg1⟩;obtain⟨hs1,hg1,hZ1,yu,yw,yx,yz,yA,yC⟩:=ZM hb1 hg1))
 all_goals
  go_wp2;exact bodyPost_ret (by simp[results,results139,go_sem, *]) rfl (xQ (zy w _ _).drew hR1 hb1 hg1 hlt)
theorem zge(S0:ByteArray)(g0 n0 cap0:Nat)(hR0:Rv w ((5,f)::r) S0 g0 n0 cap0)(hl:r.length<=99000):
  Calls prog 139 #[.agg #[.string S0,.slice (some ⟨g0,0,none⟩) n0 cap0,.bool fr],.int .u8 68,.int .u8 96,.int .i64 (p:Int)] w (zI w g0 ((6,p)::((5,f)::r)) fr):=by
 have hlt:=hR0.lt;go_enter func139,ntmps139
 go_wp2_with (go_at_call 171;refine(JE _).mono ?_;rintro e w9 ⟨rfl,rfl⟩)
 go_region_with (first
  |(go_at_call 171;refine(JE _).mono ?_;rintro e w9 ⟨rfl,rfl⟩)
  |(go_at_call 170;refine(jB _ ((5,f)::r) S0 g0 n0 cap0 fr 6 p _ rfl (hR0.below ((zy _ _ _).drew)) (by simp;omega) (by simp)).mono ?_;rintro e w1 ⟨S1,g1,n1,cap1,rfl,hR1,hb1,hg1⟩;obtain⟨hs1,hg1,hZ1,yu,yw,yx,yz,yA,yC⟩:=ZM hb1 hg1))
 all_goals
  go_wp2;exact bodyPost_ret (by simp[results,results139,go_sem, *]) rfl (xQ (zy w _ _).drew hR1 hb1 hg1 hlt)
theorem zgf(S0:ByteArray)(g0 n0 cap0:Nat)(hR0:Rv w ((5,f)::r) S0 g0 n0 cap0)(hl:r.length<=99000):
  Calls prog 139 #[.agg #[.string S0,.slice (some ⟨g0,0,none⟩) n0 cap0,.bool fr],.int .u8 68,.int .u8 34,.int .i64 (p:Int)] w (zI w g0 r fr):=by
 have hlt:=hR0.lt;go_enter func139,ntmps139
 go_wp2_with fail
 refine(Y9 _ 34 rfl rfl rfl).mono ?_;rintro e w9 ⟨rfl,rfl⟩
 go_wp2_with fail
 refine(Vh _ r S0 g0 n0 cap0 fr 5 f (hR0.below (zy _ _ _)) (by omega)).mono ?_;rintro e w1 ⟨S1,g1,n1,cap1,rfl,hR1,hb1,hg1⟩;obtain⟨hs1,hg1,hZ1,yu,yw,yx,yz,yA,yC⟩:=vF hb1 hg1;go_wp2;exact bodyPost_ret (by simp[results,results139,go_sem, *]) rfl (xQ (zy w _ _) hR1 hb1 hg1 hlt)
theorem zgg(S0:ByteArray)(g0 n0 cap0:Nat)(hR0:Rv w ((5,f)::r) S0 g0 n0 cap0)(hl:r.length<=99000)(t0:((b:Int)==92)=false)(t1:((b:Int)==36)=false)(t2:((b:Int)==96)=false)(t3:((b:Int)==34)=false):
  Calls prog 139 #[.agg #[.string S0,.slice (some ⟨g0,0,none⟩) n0 cap0,.bool fr],.int .u8 68,.int .u8 b,.int .i64 (p:Int)] w (zI w g0 ((5,f)::r) fr):=by
 have hlt:=hR0.lt;go_enter func139,ntmps139
 go_wp2_with fail
 refine(Y9 _ b t0 t1 t2).mono ?_;rintro e w9 ⟨rfl,rfl⟩;go_wp2;exact bodyPost_ret (by simp[results,results139,go_sem, *]) rfl ⟨S0,g0,n0,cap0,rfl,hR0.below (zy _ _ _),zy _ _ _,.inl rfl⟩
end
end Go.Proofs.YtkolpaonccmgiaaGreatDoor

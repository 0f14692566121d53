/- What the document's own machine makes of a byte in -/
import Derived.Test.YtdjcidackkogjaaGreatDoorMdB
namespace Go.Proofs.YtdjcidackkogjaaGreatDoor
set_option linter.unusedSectionVars false
set_option linter.unusedVariables false
set_option maxHeartbeats 8000000
open Go.RowKit
section
variable(w:World)(b f p:Nat)(r:List Fr)(S:ByteArray)(g n cap:Nat)(fr:Bool)
theorem SK(S0:ByteArray)(g0 n0 cap0:Nat)(m:Nat)(c:Int)(hR0:Rv w ((m,f)::r) S0 g0 n0 cap0)(hl:r.length≤99000):
  Calls Tryz.prog 87 #[.agg #[.string S0,.slice (some ⟨g0,0,none⟩) n0 cap0,.bool fr],.int .u8 c,.int .u8 92,.int .i64 (p:Int)] w (zB w g0 ((13,p)::((m,f)::r)) fr):=by
 have hlt:=hR0.lt;go_enter Tryz.func87,Tryz.ntmps87
 go_wp2_with fail
 refine(uh _ ((m,f)::r) S0 g0 n0 cap0 fr 13 p _ rfl (hR0.below (zn _ _ _)) (by simp;omega) (by simp)).mono ?_;rintro e w1 ⟨S1,g1,n1,cap1,rfl,hR1,hb1,hg1⟩;obtain⟨hs1,hg1,hZ1,zT,zU,zV,zW,zX,zN⟩:=xu hb1 hg1;go_wp2;exact bodyPost_ret (by simp[results,Tryz.results87,go_sem, *]) rfl (y9 (zn w _ _) hR1 hb1 hg1 hlt)
theorem SL(S0:ByteArray)(g0 n0 cap0:Nat)(m:Nat)(c:Int)(hR0:Rv w ((m,f)::r) S0 g0 n0 cap0)(hl:r.length≤99000):
  Calls Tryz.prog 87 #[.agg #[.string S0,.slice (some ⟨g0,0,none⟩) n0 cap0,.bool fr],.int .u8 c,.int .u8 39,.int .i64 (p:Int)] w (zB w g0 ((4,p)::((m,f)::r)) false):=by
 have hlt:=hR0.lt;go_enter Tryz.func87,Tryz.ntmps87
 go_wp2_with fail
 refine(uh _ ((m,f)::r) S0 g0 n0 cap0 fr 4 p _ rfl (hR0.below (zn _ _ _)) (by simp;omega) (by simp)).mono ?_;rintro e w1 ⟨S1,g1,n1,cap1,rfl,hR1,hb1,hg1⟩;obtain⟨hs1,hg1,hZ1,zT,zU,zV,zW,zX,zN⟩:=xu hb1 hg1
 go_wp2_with fail
 refine(Zd _ ((4,p)::((m,f)::r)) S1 g1 n1 cap1 fr false hR1).mono ?_;rintro e w2 ⟨S2,g2,n2,cap2,rfl,hR2,hb2,hg2⟩;have hs2:=hb2.size;obtain⟨hZ2,Zx,Zy,Zz,ZA,ZB,qm⟩:=ja hZ1 hb2;go_wp2;exact bodyPost_ret (by simp[results,Tryz.results87,go_sem, *]) rfl (Xd (zn w _ _) hR2 hb1 hb2 hs1 hg1 hg2 hlt)
theorem SN(S0:ByteArray)(g0 n0 cap0:Nat)(m:Nat)(c:Int)(hR0:Rv w ((m,f)::r) S0 g0 n0 cap0)(hl:r.length≤99000):
  Calls Tryz.prog 87 #[.agg #[.string S0,.slice (some ⟨g0,0,none⟩) n0 cap0,.bool fr],.int .u8 c,.int .u8 34,.int .i64 (p:Int)] w (zB w g0 ((5,p)::((m,f)::r)) false):=by
 have hlt:=hR0.lt;go_enter Tryz.func87,Tryz.ntmps87
 go_wp2_with fail
 refine(uh _ ((m,f)::r) S0 g0 n0 cap0 fr 5 p _ rfl (hR0.below (zn _ _ _)) (by simp;omega) (by simp)).mono ?_;rintro e w1 ⟨S1,g1,n1,cap1,rfl,hR1,hb1,hg1⟩;obtain⟨hs1,hg1,hZ1,zT,zU,zV,zW,zX,zN⟩:=xu hb1 hg1
 go_wp2_with fail
 refine(Zd _ ((5,p)::((m,f)::r)) S1 g1 n1 cap1 fr false hR1).mono ?_;rintro e w2 ⟨S2,g2,n2,cap2,rfl,hR2,hb2,hg2⟩;have hs2:=hb2.size;obtain⟨hZ2,Zx,Zy,Zz,ZA,ZB,qm⟩:=ja hZ1 hb2;go_wp2;exact bodyPost_ret (by simp[results,Tryz.results87,go_sem, *]) rfl (Xd (zn w _ _) hR2 hb1 hb2 hs1 hg1 hg2 hlt)
theorem SQ(S0:ByteArray)(g0 n0 cap0:Nat)(m:Nat)(c:Int)(hR0:Rv w ((m,f)::r) S0 g0 n0 cap0)(hl:r.length≤99000):
  Calls Tryz.prog 87 #[.agg #[.string S0,.slice (some ⟨g0,0,none⟩) n0 cap0,.bool fr],.int .u8 c,.int .u8 96,.int .i64 (p:Int)] w (zB w g0 ((6,p)::((m,f)::r)) false):=by
 have hlt:=hR0.lt;go_enter Tryz.func87,Tryz.ntmps87;go_wp2
 go_region_with (first
  |(go_at_call 89;refine(Xe _).mono ?_;rintro e w9 ⟨rfl,rfl⟩)
  |(go_at_call 88;refine(uh _ ((m,f)::r) S0 g0 n0 cap0 fr 6 p _ rfl (hR0.below ((zn _ _ _).drew)) (by simp;omega) (by simp)).mono ?_;rintro e w1 ⟨S1,g1,n1,cap1,rfl,hR1,hb1,hg1⟩;obtain⟨hs1,hg1,hZ1,zT,zU,zV,zW,zX,zN⟩:=qj hb1 hg1)
  |(go_at_call 78;refine(Zd _ ((6,p)::((m,f)::r)) S1 g1 n1 cap1 fr false hR1).mono ?_;rintro e w2 ⟨S2,g2,n2,cap2,rfl,hR2,hb2,hg2⟩;have hs2:=hb2.size;obtain⟨hZ2,Zx,Zy,Zz,ZA,ZB,qm⟩:=ja hZ1 hb2))
 all_goals
  go_wp2;exact bodyPost_ret (by simp[results,Tryz.results87,go_sem, *]) rfl (Xd (zn w _ _).drew hR2 hb1 hb2 hs1 hg1 hg2 hlt)
theorem SS(S0:ByteArray)(g0 n0 cap0:Nat)(m:Nat)(c:Int)(hR0:Rv w ((m,f)::r) S0 g0 n0 cap0)(hl:r.length≤99000):
  Calls Tryz.prog 87 #[.agg #[.string S0,.slice (some ⟨g0,0,none⟩) n0 cap0,.bool fr],.int .u8 c,.int .u8 36,.int .i64 (p:Int)] w (zB w g0 ((12,p)::((m,f)::r)) false):=by
 have hlt:=hR0.lt;go_enter Tryz.func87,Tryz.ntmps87;go_wp2
 go_region_with (first
  |(go_at_call 89;refine(Xf _).mono ?_;rintro e w9 ⟨rfl,rfl⟩)
  |(go_at_call 88;refine(uh _ ((m,f)::r) S0 g0 n0 cap0 fr 12 p _ rfl (hR0.below ((zn _ _ _).drew)) (by simp;omega) (by simp)).mono ?_;rintro e w1 ⟨S1,g1,n1,cap1,rfl,hR1,hb1,hg1⟩;obtain⟨hs1,hg1,hZ1,zT,zU,zV,zW,zX,zN⟩:=qj hb1 hg1)
  |(go_at_call 78;refine(Zd _ ((12,p)::((m,f)::r)) S1 g1 n1 cap1 fr false hR1).mono ?_;rintro e w2 ⟨S2,g2,n2,cap2,rfl,hR2,hb2,hg2⟩;have hs2:=hb2.size;obtain⟨hZ2,Zx,Zy,Zz,ZA,ZB,qm⟩:=ja hZ1 hb2))
 all_goals
  go_wp2;exact bodyPost_ret (by simp[results,Tryz.results87,go_sem, *]) rfl (Xd (zn w _ _).drew hR2 hb1 hb2 hs1 hg1 hg2 hlt)
theorem SV(S0:ByteArray)(g0 n0 cap0:Nat)(m:Nat)(c:Int)(hR0:Rv w ((m,f)::r) S0 g0 n0 cap0)(hl:r.length≤99000):
  Calls Tryz.prog 87 #[.agg #[.string S0,.slice (some ⟨g0,0,none⟩) n0 cap0,.bool true],.int .u8 c,.int .u8 35,.int .i64 (p:Int)] w (zB w g0 ((14,p)::((m,f)::r)) true):=by
 have hlt:=hR0.lt;go_enter Tryz.func87,Tryz.ntmps87
 go_wp2_with fail
 refine(uh _ ((m,f)::r) S0 g0 n0 cap0 true 14 p _ rfl (hR0.below (zn _ _ _)) (by simp;omega) (by simp)).mono ?_;rintro e w1 ⟨S1,g1,n1,cap1,rfl,hR1,hb1,hg1⟩;obtain⟨hs1,hg1,hZ1,zT,zU,zV,zW,zX,zN⟩:=xu hb1 hg1;go_wp2;exact bodyPost_ret (by simp[results,Tryz.results87,go_sem, *]) rfl (y9 (zn w _ _) hR1 hb1 hg1 hlt)
theorem zea(S0:ByteArray)(g0 n0 cap0:Nat)(hR0:Rv w ((0,f)::r) S0 g0 n0 cap0)(hl:r.length≤99000):
  Calls Tryz.prog 87 #[.agg #[.string S0,.slice (some ⟨g0,0,none⟩) n0 cap0,.bool fr],.int .u8 84,.int .u8 40,.int .i64 (p:Int)] w (zB w g0 ((0,f)::r) true):=by
 have hlt:=hR0.lt;go_enter Tryz.func87,Tryz.ntmps87
 go_wp2_with fail
 refine(Zd _ ((0,f)::r) S0 g0 n0 cap0 fr true (hR0.below (zn _ _ _))).mono ?_;rintro e w1 ⟨S1,g1,n1,cap1,rfl,hR1,hb1,hg1⟩;obtain⟨hs1,hg1,hZ1,zT,zU,zV,zW,zX,zN⟩:=xu hb1 hg1;go_wp2;exact bodyPost_ret (by simp[results,Tryz.results87,go_sem, *]) rfl (y9 (zn w _ _) hR1 hb1 hg1 hlt)
theorem zeb(S0:ByteArray)(g0 n0 cap0:Nat)(hR0:Rv w ((0,f)::r) S0 g0 n0 cap0)(hl:r.length≤99000):
  Calls Tryz.prog 87 #[.agg #[.string S0,.slice (some ⟨g0,0,none⟩) n0 cap0,.bool fr],.int .u8 84,.int .u8 41,.int .i64 (p:Int)] w (zB w g0 ((0,f)::r) true):=by
 have hlt:=hR0.lt;go_enter Tryz.func87,Tryz.ntmps87
 go_wp2_with fail
 refine(Zd _ ((0,f)::r) S0 g0 n0 cap0 fr true (hR0.below (zn _ _ _))).mono ?_;rintro e w1 ⟨S1,g1,n1,cap1,rfl,hR1,hb1,hg1⟩;obtain⟨hs1,hg1,hZ1,zT,zU,zV,zW,zX,zN⟩:=xu hb1 hg1;go_wp2;exact bodyPost_ret (by simp[results,Tryz.results87,go_sem, *]) rfl (y9 (zn w _ _) hR1 hb1 hg1 hlt)
theorem zec(S0:ByteArray)(g0 n0 cap0:Nat)(hR0:Rv w ((1,f)::r) S0 g0 n0 cap0)(hl:r.length≤99000):
  Calls Tryz.prog 87 #[.agg #[.string S0,.slice (some ⟨g0,0,none⟩) n0 cap0,.bool fr],.int .u8 67,.int .u8 40,.int .i64 (p:Int)] w (zB w g0 ((2,p)::((1,f)::r)) true):=by
 have hlt:=hR0.lt;go_enter Tryz.func87,Tryz.ntmps87
 go_wp2_with fail
 refine(uh _ ((1,f)::r) S0 g0 n0 cap0 fr 2 p _ rfl (hR0.below (zn _ _ _)) (by simp;omega) (by simp)).mono ?_;rintro e w1 ⟨S1,g1,n1,cap1,rfl,hR1,hb1,hg1⟩;obtain⟨hs1,hg1,hZ1,zT,zU,zV,zW,zX,zN⟩:=xu hb1 hg1
 go_wp2_with fail
 refine(Zd _ ((2,p)::((1,f)::r)) S1 g1 n1 cap1 fr true hR1).mono ?_;rintro e w2 ⟨S2,g2,n2,cap2,rfl,hR2,hb2,hg2⟩;have hs2:=hb2.size;obtain⟨hZ2,Zx,Zy,Zz,ZA,ZB,qm⟩:=ja hZ1 hb2;go_wp2;exact bodyPost_ret (by simp[results,Tryz.results87,go_sem, *]) rfl (Xd (zn w _ _) hR2 hb1 hb2 hs1 hg1 hg2 hlt)
theorem zed(S0:ByteArray)(g0 n0 cap0:Nat)(hR0:Rv w ((1,f)::r) S0 g0 n0 cap0)(hl:r.length≤99000):
  Calls Tryz.prog 87 #[.agg #[.string S0,.slice (some ⟨g0,0,none⟩) n0 cap0,.bool fr],.int .u8 67,.int .u8 41,.int .i64 (p:Int)] w (zB w g0 r false):=by
 have hlt:=hR0.lt;go_enter Tryz.func87,Tryz.ntmps87
 go_wp2_with fail
 refine(ZZ _ r S0 g0 n0 cap0 fr 1 f (hR0.below (zn _ _ _)) (by omega)).mono ?_;rintro e w1 ⟨S1,g1,n1,cap1,rfl,hR1,hb1,hg1⟩;obtain⟨hs1,hg1,hZ1,zT,zU,zV,zW,zX,zN⟩:=xu hb1 hg1
 go_wp2_with fail
 refine(Zd _ r S1 g1 n1 cap1 fr false hR1).mono ?_;rintro e w2 ⟨S2,g2,n2,cap2,rfl,hR2,hb2,hg2⟩;have hs2:=hb2.size;obtain⟨hZ2,Zx,Zy,Zz,ZA,ZB,qm⟩:=ja hZ1 hb2;go_wp2;exact bodyPost_ret (by simp[results,Tryz.results87,go_sem, *]) rfl (Xd (zn w _ _) hR2 hb1 hb2 hs1 hg1 hg2 hlt)
theorem zee(S0:ByteArray)(g0 n0 cap0:Nat)(hR0:Rv w ((2,f)::r) S0 g0 n0 cap0)(hl:r.length≤99000):
  Calls Tryz.prog 87 #[.agg #[.string S0,.slice (some ⟨g0,0,none⟩) n0 cap0,.bool fr],.int .u8 80,.int .u8 40,.int .i64 (p:Int)] w (zB w g0 ((2,p)::((2,f)::r)) true):=by
 have hlt:=hR0.lt;go_enter Tryz.func87,Tryz.ntmps87
 go_wp2_with fail
 refine(uh _ ((2,f)::r) S0 g0 n0 cap0 fr 2 p _ rfl (hR0.below (zn _ _ _)) (by simp;omega) (by simp)).mono ?_;rintro e w1 ⟨S1,g1,n1,cap1,rfl,hR1,hb1,hg1⟩;obtain⟨hs1,hg1,hZ1,zT,zU,zV,zW,zX,zN⟩:=xu hb1 hg1
 go_wp2_with fail
 refine(Zd _ ((2,p)::((2,f)::r)) S1 g1 n1 cap1 fr true hR1).mono ?_;rintro e w2 ⟨S2,g2,n2,cap2,rfl,hR2,hb2,hg2⟩;have hs2:=hb2.size;obtain⟨hZ2,Zx,Zy,Zz,ZA,ZB,qm⟩:=ja hZ1 hb2;go_wp2;exact bodyPost_ret (by simp[results,Tryz.results87,go_sem, *]) rfl (Xd (zn w _ _) hR2 hb1 hb2 hs1 hg1 hg2 hlt)
theorem zef(S0:ByteArray)(g0 n0 cap0:Nat)(hR0:Rv w ((2,f)::r) S0 g0 n0 cap0)(hl:r.length≤99000):
  Calls Tryz.prog 87 #[.agg #[.string S0,.slice (some ⟨g0,0,none⟩) n0 cap0,.bool fr],.int .u8 80,.int .u8 41,.int .i64 (p:Int)] w (zB w g0 r true):=by
 have hlt:=hR0.lt;go_enter Tryz.func87,Tryz.ntmps87
 go_wp2_with fail
 refine(ZZ _ r S0 g0 n0 cap0 fr 2 f (hR0.below (zn _ _ _)) (by omega)).mono ?_;rintro e w1 ⟨S1,g1,n1,cap1,rfl,hR1,hb1,hg1⟩;obtain⟨hs1,hg1,hZ1,zT,zU,zV,zW,zX,zN⟩:=xu hb1 hg1
 go_wp2_with fail
 refine(Zd _ r S1 g1 n1 cap1 fr true hR1).mono ?_;rintro e w2 ⟨S2,g2,n2,cap2,rfl,hR2,hb2,hg2⟩;have hs2:=hb2.size;obtain⟨hZ2,Zx,Zy,Zz,ZA,ZB,qm⟩:=ja hZ1 hb2;go_wp2;exact bodyPost_ret (by simp[results,Tryz.results87,go_sem, *]) rfl (Xd (zn w _ _) hR2 hb1 hb2 hs1 hg1 hg2 hlt)
theorem SX(S0:ByteArray)(g0 n0 cap0:Nat)(m:Nat)(c:Int)(hR0:Rv w ((m,f)::r) S0 g0 n0 cap0)(hl:r.length≤99000)(t0:((b:Int)==92)=false)(t1:((b:Int)==39)=false)(t2:((b:Int)==34)=false)(t3:((b:Int)==96)=false)(t4:((b:Int)==36)=false)(t5:((b:Int)==35)=false)(t6:((b:Int)==40)=false)(t7:((b:Int)==41)=false):
  Calls Tryz.prog 87 #[.agg #[.string S0,.slice (some ⟨g0,0,none⟩) n0 cap0,.bool fr],.int .u8 c,.int .u8 b,.int .i64 (p:Int)] w (zB w g0 ((m,f)::r) (uG b)):=by
 have hlt:=hR0.lt;go_enter Tryz.func87,Tryz.ntmps87;go_wp2
 go_region_with (first
  |(go_at_call 72;refine(Sr _ _).mono ?_;rintro e w9 ⟨rfl,rfl⟩)
  |(go_at_call 78;refine(Zd _ ((m,f)::r) S0 g0 n0 cap0 fr (uG b) (hR0.below ((zn _ _ _).drew))).mono ?_;rintro e w1 ⟨S1,g1,n1,cap1,rfl,hR1,hb1,hg1⟩;obtain⟨hs1,hg1,hZ1,zT,zU,zV,zW,zX,zN⟩:=qj hb1 hg1))
 all_goals
  go_wp2;refine bodyPost_ret (v:=.agg #[.string S1,.slice (some ⟨g1,0,none⟩) n1 cap1,.bool (uG b)]) (by simp[results,Tryz.results87,go_sem, *]) rfl ?_;exact y9 (zn w _ _).drew hR1 hb1 hg1 hlt
theorem SY(S0:ByteArray)(g0 n0 cap0:Nat)(m:Nat)(c:Int)(hR0:Rv w ((m,f)::r) S0 g0 n0 cap0)(hl:r.length≤99000):
  Calls Tryz.prog 87 #[.agg #[.string S0,.slice (some ⟨g0,0,none⟩) n0 cap0,.bool false],.int .u8 c,.int .u8 35,.int .i64 (p:Int)] w (zB w g0 ((m,f)::r) (uG 35)):=by
 have hlt:=hR0.lt;go_enter Tryz.func87,Tryz.ntmps87;go_wp2
 go_region_with (first
  |(go_at_call 72;refine(Sr _ _).mono ?_;rintro e w9 ⟨rfl,rfl⟩)
  |(go_at_call 78;refine(Zd _ ((m,f)::r) S0 g0 n0 cap0 false (uG 35) (hR0.below ((zn _ _ _).drew))).mono ?_;rintro e w1 ⟨S1,g1,n1,cap1,rfl,hR1,hb1,hg1⟩;obtain⟨hs1,hg1,hZ1,zT,zU,zV,zW,zX,zN⟩:=qj hb1 hg1))
 all_goals
  go_wp2;refine bodyPost_ret (v:=.agg #[.string S1,.slice (some ⟨g1,0,none⟩) n1 cap1,.bool (uG 35)]) (by simp[results,Tryz.results87,go_sem, *]) rfl ?_;exact y9 (zn w _ _).drew hR1 hb1 hg1 hlt
end
end Go.Proofs.YtdjcidackkogjaaGreatDoor

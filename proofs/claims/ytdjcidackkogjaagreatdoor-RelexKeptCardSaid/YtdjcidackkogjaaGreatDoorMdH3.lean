/- What the document's own machine makes of a byte in -/
import Derived.Test.YtdjcidackkogjaaGreatDoorMdG
namespace Go.Proofs.YtdjcidackkogjaaGreatDoor
set_option linter.unusedSectionVars false
set_option linter.unusedVariables false
set_option maxHeartbeats 8000000
open Go.RowKit
section
variable(w:World)(b f p:Nat)(r:List Fr)(S:ByteArray)(g n cap:Nat)(fr:Bool)
theorem zeG(S0:ByteArray)(g0 n0 cap0:Nat)(hR0:Rv w ((9,f)::r) S0 g0 n0 cap0)(hl:r.length≤99000):
  Calls Tryz.prog 81 #[.agg #[.string S0,.slice (some ⟨g0,0,none⟩) n0 cap0,.bool fr],.int .u8 65,.int .u8 92,.int .i64 (p:Int)] w (zB w g0 ((13,p)::((9,f)::r)) fr):=by
 have hlt:=hR0.lt;go_enter Tryz.func81,Tryz.ntmps81
 go_wp2_with (go_at_call 89;refine(Vd _).mono ?_;rintro e w9 ⟨rfl,rfl⟩)
 go_region_with (first
  |(go_at_call 89;refine(Vd _).mono ?_;rintro e w9 ⟨rfl,rfl⟩)
  |(go_at_call 88;refine(uh _ ((9,f)::r) S0 g0 n0 cap0 fr 13 p _ rfl (hR0.below ((zn _ _ _).drew)) (by simp;omega) (by simp)).mono ?_;rintro e w1 ⟨S1,g1,n1,cap1,rfl,hR1,hb1,hg1⟩;obtain⟨hs1,hg1,hZ1,zT,zU,zV,zW,zX,zN⟩:=qj hb1 hg1))
 all_goals
  go_wp2;exact bodyPost_ret (by simp[results,Tryz.results81,go_sem, *]) rfl (y9 (zn w _ _).drew hR1 hb1 hg1 hlt)
theorem zeH(S0:ByteArray)(g0 n0 cap0:Nat)(hR0:Rv w ((9,f)::r) S0 g0 n0 cap0)(hl:r.length≤99000):
  Calls Tryz.prog 81 #[.agg #[.string S0,.slice (some ⟨g0,0,none⟩) n0 cap0,.bool fr],.int .u8 65,.int .u8 36,.int .i64 (p:Int)] w (zB w g0 ((12,p)::((9,f)::r)) fr):=by
 have hlt:=hR0.lt;go_enter Tryz.func81,Tryz.ntmps81
 go_wp2_with (go_at_call 89;refine(Xf _).mono ?_;rintro e w9 ⟨rfl,rfl⟩)
 go_region_with (first
  |(go_at_call 89;refine(Xf _).mono ?_;rintro e w9 ⟨rfl,rfl⟩)
  |(go_at_call 88;refine(uh _ ((9,f)::r) S0 g0 n0 cap0 fr 12 p _ rfl (hR0.below ((zn _ _ _).drew)) (by simp;omega) (by simp)).mono ?_;rintro e w1 ⟨S1,g1,n1,cap1,rfl,hR1,hb1,hg1⟩;obtain⟨hs1,hg1,hZ1,zT,zU,zV,zW,zX,zN⟩:=qj hb1 hg1))
 all_goals
  go_wp2;exact bodyPost_ret (by simp[results,Tryz.results81,go_sem, *]) rfl (y9 (zn w _ _).drew hR1 hb1 hg1 hlt)
theorem zeI(S0:ByteArray)(g0 n0 cap0:Nat)(hR0:Rv w ((9,f)::r) S0 g0 n0 cap0)(hl:r.length≤99000):
  Calls Tryz.prog 81 #[.agg #[.string S0,.slice (some ⟨g0,0,none⟩) n0 cap0,.bool fr],.int .u8 65,.int .u8 96,.int .i64 (p:Int)] w (zB w g0 ((6,p)::((9,f)::r)) fr):=by
 have hlt:=hR0.lt;go_enter Tryz.func81,Tryz.ntmps81
 go_wp2_with (go_at_call 89;refine(Xe _).mono ?_;rintro e w9 ⟨rfl,rfl⟩)
 go_region_with (first
  |(go_at_call 89;refine(Xe _).mono ?_;rintro e w9 ⟨rfl,rfl⟩)
  |(go_at_call 88;refine(uh _ ((9,f)::r) S0 g0 n0 cap0 fr 6 p _ rfl (hR0.below ((zn _ _ _).drew)) (by simp;omega) (by simp)).mono ?_;rintro e w1 ⟨S1,g1,n1,cap1,rfl,hR1,hb1,hg1⟩;obtain⟨hs1,hg1,hZ1,zT,zU,zV,zW,zX,zN⟩:=qj hb1 hg1))
 all_goals
  go_wp2;exact bodyPost_ret (by simp[results,Tryz.results81,go_sem, *]) rfl (y9 (zn w _ _).drew hR1 hb1 hg1 hlt)
theorem zeJ(S0:ByteArray)(g0 n0 cap0:Nat)(hR0:Rv w ((10,f)::r) S0 g0 n0 cap0)(hl:r.length≤99000):
  Calls Tryz.prog 81 #[.agg #[.string S0,.slice (some ⟨g0,0,none⟩) n0 cap0,.bool fr],.int .u8 82,.int .u8 92,.int .i64 (p:Int)] w (zB w g0 ((13,p)::((10,f)::r)) fr):=by
 have hlt:=hR0.lt;go_enter Tryz.func81,Tryz.ntmps81
 go_wp2_with (go_at_call 89;refine(Vd _).mono ?_;rintro e w9 ⟨rfl,rfl⟩)
 go_region_with (first
  |(go_at_call 89;refine(Vd _).mono ?_;rintro e w9 ⟨rfl,rfl⟩)
  |(go_at_call 88;refine(uh _ ((10,f)::r) S0 g0 n0 cap0 fr 13 p _ rfl (hR0.below ((zn _ _ _).drew)) (by simp;omega) (by simp)).mono ?_;rintro e w1 ⟨S1,g1,n1,cap1,rfl,hR1,hb1,hg1⟩;obtain⟨hs1,hg1,hZ1,zT,zU,zV,zW,zX,zN⟩:=qj hb1 hg1))
 all_goals
  go_wp2;exact bodyPost_ret (by simp[results,Tryz.results81,go_sem, *]) rfl (y9 (zn w _ _).drew hR1 hb1 hg1 hlt)
theorem zeK(S0:ByteArray)(g0 n0 cap0:Nat)(hR0:Rv w ((10,f)::r) S0 g0 n0 cap0)(hl:r.length≤99000):
  Calls Tryz.prog 81 #[.agg #[.string S0,.slice (some ⟨g0,0,none⟩) n0 cap0,.bool fr],.int .u8 82,.int .u8 36,.int .i64 (p:Int)] w (zB w g0 ((12,p)::((10,f)::r)) fr):=by
 have hlt:=hR0.lt;go_enter Tryz.func81,Tryz.ntmps81
 go_wp2_with (go_at_call 89;refine(Xf _).mono ?_;rintro e w9 ⟨rfl,rfl⟩)
 go_region_with (first
  |(go_at_call 89;refine(Xf _).mono ?_;rintro e w9 ⟨rfl,rfl⟩)
  |(go_at_call 88;refine(uh _ ((10,f)::r) S0 g0 n0 cap0 fr 12 p _ rfl (hR0.below ((zn _ _ _).drew)) (by simp;omega) (by simp)).mono ?_;rintro e w1 ⟨S1,g1,n1,cap1,rfl,hR1,hb1,hg1⟩;obtain⟨hs1,hg1,hZ1,zT,zU,zV,zW,zX,zN⟩:=qj hb1 hg1))
 all_goals
  go_wp2;exact bodyPost_ret (by simp[results,Tryz.results81,go_sem, *]) rfl (y9 (zn w _ _).drew hR1 hb1 hg1 hlt)
theorem zeL(S0:ByteArray)(g0 n0 cap0:Nat)(hR0:Rv w ((10,f)::r) S0 g0 n0 cap0)(hl:r.length≤99000):
  Calls Tryz.prog 81 #[.agg #[.string S0,.slice (some ⟨g0,0,none⟩) n0 cap0,.bool fr],.int .u8 82,.int .u8 96,.int .i64 (p:Int)] w (zB w g0 ((6,p)::((10,f)::r)) fr):=by
 have hlt:=hR0.lt;go_enter Tryz.func81,Tryz.ntmps81
 go_wp2_with (go_at_call 89;refine(Xe _).mono ?_;rintro e w9 ⟨rfl,rfl⟩)
 go_region_with (first
  |(go_at_call 89;refine(Xe _).mono ?_;rintro e w9 ⟨rfl,rfl⟩)
  |(go_at_call 88;refine(uh _ ((10,f)::r) S0 g0 n0 cap0 fr 6 p _ rfl (hR0.below ((zn _ _ _).drew)) (by simp;omega) (by simp)).mono ?_;rintro e w1 ⟨S1,g1,n1,cap1,rfl,hR1,hb1,hg1⟩;obtain⟨hs1,hg1,hZ1,zT,zU,zV,zW,zX,zN⟩:=qj hb1 hg1))
 all_goals
  go_wp2;exact bodyPost_ret (by simp[results,Tryz.results81,go_sem, *]) rfl (y9 (zn w _ _).drew hR1 hb1 hg1 hlt)
theorem zeM(S0:ByteArray)(g0 n0 cap0:Nat)(hR0:Rv w ((9,f)::r) S0 g0 n0 cap0)(hl:r.length≤99000):
  Calls Tryz.prog 81 #[.agg #[.string S0,.slice (some ⟨g0,0,none⟩) n0 cap0,.bool fr],.int .u8 65,.int .u8 40,.int .i64 (p:Int)] w (zB w g0 ((10,p)::((9,f)::r)) fr):=by
 have hlt:=hR0.lt;go_enter Tryz.func81,Tryz.ntmps81
 go_wp2_with fail
 refine(Ze _ 40 rfl rfl rfl).mono ?_;rintro e w9 ⟨rfl,rfl⟩
 go_wp2_with fail
 refine(uh _ ((9,f)::r) S0 g0 n0 cap0 fr 10 p _ rfl (hR0.below (zn _ _ _)) (by simp;omega) (by simp)).mono ?_;rintro e w1 ⟨S1,g1,n1,cap1,rfl,hR1,hb1,hg1⟩;obtain⟨hs1,hg1,hZ1,zT,zU,zV,zW,zX,zN⟩:=xu hb1 hg1;go_wp2;exact bodyPost_ret (by simp[results,Tryz.results81,go_sem, *]) rfl (y9 (zn w _ _) hR1 hb1 hg1 hlt)
theorem zeN(S0:ByteArray)(g0 n0 cap0:Nat)(hR0:Rv w ((10,f)::r) S0 g0 n0 cap0)(hl:r.length≤99000):
  Calls Tryz.prog 81 #[.agg #[.string S0,.slice (some ⟨g0,0,none⟩) n0 cap0,.bool fr],.int .u8 82,.int .u8 40,.int .i64 (p:Int)] w (zB w g0 ((10,p)::((10,f)::r)) fr):=by
 have hlt:=hR0.lt;go_enter Tryz.func81,Tryz.ntmps81
 go_wp2_with fail
 refine(Ze _ 40 rfl rfl rfl).mono ?_;rintro e w9 ⟨rfl,rfl⟩
 go_wp2_with fail
 refine(uh _ ((10,f)::r) S0 g0 n0 cap0 fr 10 p _ rfl (hR0.below (zn _ _ _)) (by simp;omega) (by simp)).mono ?_;rintro e w1 ⟨S1,g1,n1,cap1,rfl,hR1,hb1,hg1⟩;obtain⟨hs1,hg1,hZ1,zT,zU,zV,zW,zX,zN⟩:=xu hb1 hg1;go_wp2;exact bodyPost_ret (by simp[results,Tryz.results81,go_sem, *]) rfl (y9 (zn w _ _) hR1 hb1 hg1 hlt)
theorem zeO(S0:ByteArray)(g0 n0 cap0:Nat)(hR0:Rv w ((9,f)::r) S0 g0 n0 cap0)(hl:r.length≤99000):
  Calls Tryz.prog 81 #[.agg #[.string S0,.slice (some ⟨g0,0,none⟩) n0 cap0,.bool fr],.int .u8 65,.int .u8 41,.int .i64 (p:Int)] w (zB w g0 ((11,f)::r) fr):=by
 have hlt:=hR0.lt;go_enter Tryz.func81,Tryz.ntmps81
 go_wp2_with fail
 refine(Ze _ 41 rfl rfl rfl).mono ?_;rintro e w9 ⟨rfl,rfl⟩
 go_wp2_with fail
 refine(JU _ r S0 g0 n0 cap0 fr 9 f 11 _ rfl (hR0.below (zn _ _ _)) (by omega)).mono ?_;rintro e w1 ⟨S1,g1,n1,cap1,rfl,hR1,hb1,hg1⟩;obtain⟨hs1,hg1,hZ1,zT,zU,zV,zW,zX,zN⟩:=xu hb1 hg1;go_wp2;exact bodyPost_ret (by simp[results,Tryz.results81,go_sem, *]) rfl (y9 (zn w _ _) hR1 hb1 hg1 hlt)
theorem zeP(S0:ByteArray)(g0 n0 cap0:Nat)(hR0:Rv w ((10,f)::r) S0 g0 n0 cap0)(hl:r.length≤99000):
  Calls Tryz.prog 81 #[.agg #[.string S0,.slice (some ⟨g0,0,none⟩) n0 cap0,.bool fr],.int .u8 82,.int .u8 41,.int .i64 (p:Int)] w (zB w g0 r fr):=by
 have hlt:=hR0.lt;go_enter Tryz.func81,Tryz.ntmps81
 go_wp2_with fail
 refine(Ze _ 41 rfl rfl rfl).mono ?_;rintro e w9 ⟨rfl,rfl⟩
 go_wp2_with fail
 refine(ZZ _ r S0 g0 n0 cap0 fr 10 f (hR0.below (zn _ _ _)) (by omega)).mono ?_;rintro e w1 ⟨S1,g1,n1,cap1,rfl,hR1,hb1,hg1⟩;obtain⟨hs1,hg1,hZ1,zT,zU,zV,zW,zX,zN⟩:=xu hb1 hg1;go_wp2;exact bodyPost_ret (by simp[results,Tryz.results81,go_sem, *]) rfl (y9 (zn w _ _) hR1 hb1 hg1 hlt)
theorem zeQ(S0:ByteArray)(g0 n0 cap0:Nat)(hR0:Rv w ((9,f)::r) S0 g0 n0 cap0)(hl:r.length≤99000)(t0:((b:Int)==92)=false)(t1:((b:Int)==36)=false)(t2:((b:Int)==96)=false)(t3:((b:Int)==40)=false)(t4:((b:Int)==41)=false):
  Calls Tryz.prog 81 #[.agg #[.string S0,.slice (some ⟨g0,0,none⟩) n0 cap0,.bool fr],.int .u8 65,.int .u8 b,.int .i64 (p:Int)] w (zB w g0 ((9,f)::r) fr):=by
 have hlt:=hR0.lt;go_enter Tryz.func81,Tryz.ntmps81
 go_wp2_with fail
 refine(Ze _ b t0 t1 t2).mono ?_;rintro e w9 ⟨rfl,rfl⟩;go_wp2;exact bodyPost_ret (by simp[results,Tryz.results81,go_sem, *]) rfl ⟨S0,g0,n0,cap0,rfl,hR0.below (zn _ _ _),zn _ _ _,.inl rfl⟩
theorem zeR(S0:ByteArray)(g0 n0 cap0:Nat)(hR0:Rv w ((10,f)::r) S0 g0 n0 cap0)(hl:r.length≤99000)(t0:((b:Int)==92)=false)(t1:((b:Int)==36)=false)(t2:((b:Int)==96)=false)(t3:((b:Int)==40)=false)(t4:((b:Int)==41)=false):
  Calls Tryz.prog 81 #[.agg #[.string S0,.slice (some ⟨g0,0,none⟩) n0 cap0,.bool fr],.int .u8 82,.int .u8 b,.int .i64 (p:Int)] w (zB w g0 ((10,f)::r) fr):=by
 have hlt:=hR0.lt;go_enter Tryz.func81,Tryz.ntmps81
 go_wp2_with fail
 refine(Ze _ b t0 t1 t2).mono ?_;rintro e w9 ⟨rfl,rfl⟩;go_wp2;exact bodyPost_ret (by simp[results,Tryz.results81,go_sem, *]) rfl ⟨S0,g0,n0,cap0,rfl,hR0.below (zn _ _ _),zn _ _ _,.inl rfl⟩
end
end Go.Proofs.YtdjcidackkogjaaGreatDoor

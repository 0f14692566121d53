/- What the document's own machine makes of a byte in -/
import Derived.Test.YtkolpaonccmgiaaGreatDoorMg
namespace Go.Proofs.YtkolpaonccmgiaaGreatDoor
set_option linter.unusedSectionVars false
set_option linter.unusedVariables false
open Go.Proofs.Tryz
set_option maxHeartbeats 8000000
open Go.RowKit
section
variable(w:World)(b f p:Nat)(r:List Fr)(S:ByteArray)(g n cap:Nat)(fr:Bool)
theorem zgh(S0:ByteArray)(g0 n0 cap0:Nat)(hR0:Rv w ((7,f)::r) S0 g0 n0 cap0)(hl:r.length<=99000):
  Calls prog 139 #[.agg #[.string S0,.slice (some ⟨g0,0,none⟩) n0 cap0,.bool fr],.int .u8 86,.int .u8 92,.int .i64 (p:Int)] w (zI w g0 ((13,p)::((7,f)::r)) fr):=by
 have hlt:=hR0.lt;go_enter func139,ntmps139
 go_wp2_with (go_at_call 171;refine(QU _).mono ?_;rintro e w9 ⟨rfl,rfl⟩)
 go_region_with (first
  |(go_at_call 171;refine(QU _).mono ?_;rintro e w9 ⟨rfl,rfl⟩)
  |(go_at_call 170;refine(jB _ ((7,f)::r) S0 g0 n0 cap0 fr 13 p _ rfl (hR0.below ((zy _ _ _).drew)) (by simp;omega) (by simp)).mono ?_;rintro e w1 ⟨S1,g1,n1,cap1,rfl,hR1,hb1,hg1⟩;obtain⟨hs1,hg1,hZ1,yu,yw,yx,yz,yA,yC⟩:=ZM hb1 hg1))
 all_goals
  go_wp2;exact bodyPost_ret (by simp[results,results139,go_sem, *]) rfl (xQ (zy w _ _).drew hR1 hb1 hg1 hlt)
theorem zgi(S0:ByteArray)(g0 n0 cap0:Nat)(hR0:Rv w ((7,f)::r) S0 g0 n0 cap0)(hl:r.length<=99000):
  Calls prog 139 #[.agg #[.string S0,.slice (some ⟨g0,0,none⟩) n0 cap0,.bool fr],.int .u8 86,.int .u8 36,.int .i64 (p:Int)] w (zI w g0 ((12,p)::((7,f)::r)) fr):=by
 have hlt:=hR0.lt;go_enter func139,ntmps139
 go_wp2_with (go_at_call 171;refine(JF _).mono ?_;rintro e w9 ⟨rfl,rfl⟩)
 go_region_with (first
  |(go_at_call 171;refine(JF _).mono ?_;rintro e w9 ⟨rfl,rfl⟩)
  |(go_at_call 170;refine(jB _ ((7,f)::r) S0 g0 n0 cap0 fr 12 p _ rfl (hR0.below ((zy _ _ _).drew)) (by simp;omega) (by simp)).mono ?_;rintro e w1 ⟨S1,g1,n1,cap1,rfl,hR1,hb1,hg1⟩;obtain⟨hs1,hg1,hZ1,yu,yw,yx,yz,yA,yC⟩:=ZM hb1 hg1))
 all_goals
  go_wp2;exact bodyPost_ret (by simp[results,results139,go_sem, *]) rfl (xQ (zy w _ _).drew hR1 hb1 hg1 hlt)
theorem zgj(S0:ByteArray)(g0 n0 cap0:Nat)(hR0:Rv w ((7,f)::r) S0 g0 n0 cap0)(hl:r.length<=99000):
  Calls prog 139 #[.agg #[.string S0,.slice (some ⟨g0,0,none⟩) n0 cap0,.bool fr],.int .u8 86,.int .u8 96,.int .i64 (p:Int)] w (zI w g0 ((6,p)::((7,f)::r)) fr):=by
 have hlt:=hR0.lt;go_enter func139,ntmps139
 go_wp2_with (go_at_call 171;refine(JE _).mono ?_;rintro e w9 ⟨rfl,rfl⟩)
 go_region_with (first
  |(go_at_call 171;refine(JE _).mono ?_;rintro e w9 ⟨rfl,rfl⟩)
  |(go_at_call 170;refine(jB _ ((7,f)::r) S0 g0 n0 cap0 fr 6 p _ rfl (hR0.below ((zy _ _ _).drew)) (by simp;omega) (by simp)).mono ?_;rintro e w1 ⟨S1,g1,n1,cap1,rfl,hR1,hb1,hg1⟩;obtain⟨hs1,hg1,hZ1,yu,yw,yx,yz,yA,yC⟩:=ZM hb1 hg1))
 all_goals
  go_wp2;exact bodyPost_ret (by simp[results,results139,go_sem, *]) rfl (xQ (zy w _ _).drew hR1 hb1 hg1 hlt)
theorem zgk(S0:ByteArray)(g0 n0 cap0:Nat)(hR0:Rv w ((8,f)::r) S0 g0 n0 cap0)(hl:r.length<=99000):
  Calls prog 139 #[.agg #[.string S0,.slice (some ⟨g0,0,none⟩) n0 cap0,.bool fr],.int .u8 73,.int .u8 92,.int .i64 (p:Int)] w (zI w g0 ((13,p)::((8,f)::r)) fr):=by
 have hlt:=hR0.lt;go_enter func139,ntmps139
 go_wp2_with (go_at_call 171;refine(QU _).mono ?_;rintro e w9 ⟨rfl,rfl⟩)
 go_region_with (first
  |(go_at_call 171;refine(QU _).mono ?_;rintro e w9 ⟨rfl,rfl⟩)
  |(go_at_call 170;refine(jB _ ((8,f)::r) S0 g0 n0 cap0 fr 13 p _ rfl (hR0.below ((zy _ _ _).drew)) (by simp;omega) (by simp)).mono ?_;rintro e w1 ⟨S1,g1,n1,cap1,rfl,hR1,hb1,hg1⟩;obtain⟨hs1,hg1,hZ1,yu,yw,yx,yz,yA,yC⟩:=ZM hb1 hg1))
 all_goals
  go_wp2;exact bodyPost_ret (by simp[results,results139,go_sem, *]) rfl (xQ (zy w _ _).drew hR1 hb1 hg1 hlt)
theorem zgl(S0:ByteArray)(g0 n0 cap0:Nat)(hR0:Rv w ((8,f)::r) S0 g0 n0 cap0)(hl:r.length<=99000):
  Calls prog 139 #[.agg #[.string S0,.slice (some ⟨g0,0,none⟩) n0 cap0,.bool fr],.int .u8 73,.int .u8 36,.int .i64 (p:Int)] w (zI w g0 ((12,p)::((8,f)::r)) fr):=by
 have hlt:=hR0.lt;go_enter func139,ntmps139
 go_wp2_with (go_at_call 171;refine(JF _).mono ?_;rintro e w9 ⟨rfl,rfl⟩)
 go_region_with (first
  |(go_at_call 171;refine(JF _).mono ?_;rintro e w9 ⟨rfl,rfl⟩)
  |(go_at_call 170;refine(jB _ ((8,f)::r) S0 g0 n0 cap0 fr 12 p _ rfl (hR0.below ((zy _ _ _).drew)) (by simp;omega) (by simp)).mono ?_;rintro e w1 ⟨S1,g1,n1,cap1,rfl,hR1,hb1,hg1⟩;obtain⟨hs1,hg1,hZ1,yu,yw,yx,yz,yA,yC⟩:=ZM hb1 hg1))
 all_goals
  go_wp2;exact bodyPost_ret (by simp[results,results139,go_sem, *]) rfl (xQ (zy w _ _).drew hR1 hb1 hg1 hlt)
theorem zgm(S0:ByteArray)(g0 n0 cap0:Nat)(hR0:Rv w ((8,f)::r) S0 g0 n0 cap0)(hl:r.length<=99000):
  Calls prog 139 #[.agg #[.string S0,.slice (some ⟨g0,0,none⟩) n0 cap0,.bool fr],.int .u8 73,.int .u8 96,.int .i64 (p:Int)] w (zI w g0 ((6,p)::((8,f)::r)) fr):=by
 have hlt:=hR0.lt;go_enter func139,ntmps139
 go_wp2_with (go_at_call 171;refine(JE _).mono ?_;rintro e w9 ⟨rfl,rfl⟩)
 go_region_with (first
  |(go_at_call 171;refine(JE _).mono ?_;rintro e w9 ⟨rfl,rfl⟩)
  |(go_at_call 170;refine(jB _ ((8,f)::r) S0 g0 n0 cap0 fr 6 p _ rfl (hR0.below ((zy _ _ _).drew)) (by simp;omega) (by simp)).mono ?_;rintro e w1 ⟨S1,g1,n1,cap1,rfl,hR1,hb1,hg1⟩;obtain⟨hs1,hg1,hZ1,yu,yw,yx,yz,yA,yC⟩:=ZM hb1 hg1))
 all_goals
  go_wp2;exact bodyPost_ret (by simp[results,results139,go_sem, *]) rfl (xQ (zy w _ _).drew hR1 hb1 hg1 hlt)
theorem zgn(S0:ByteArray)(g0 n0 cap0:Nat)(hR0:Rv w ((7,f)::r) S0 g0 n0 cap0)(hl:r.length<=99000):
  Calls prog 139 #[.agg #[.string S0,.slice (some ⟨g0,0,none⟩) n0 cap0,.bool fr],.int .u8 86,.int .u8 34,.int .i64 (p:Int)] w (zI w g0 ((5,p)::((7,f)::r)) fr):=by
 have hlt:=hR0.lt;go_enter func139,ntmps139
 go_wp2_with fail
 refine(Y9 _ 34 rfl rfl rfl).mono ?_;rintro e w9 ⟨rfl,rfl⟩
 go_wp2_with fail
 refine(jB _ ((7,f)::r) S0 g0 n0 cap0 fr 5 p _ rfl (hR0.below (zy _ _ _)) (by simp;omega) (by simp)).mono ?_;rintro e w1 ⟨S1,g1,n1,cap1,rfl,hR1,hb1,hg1⟩;obtain⟨hs1,hg1,hZ1,yu,yw,yx,yz,yA,yC⟩:=vF hb1 hg1;go_wp2;exact bodyPost_ret (by simp[results,results139,go_sem, *]) rfl (xQ (zy w _ _) hR1 hb1 hg1 hlt)
theorem zgo(S0:ByteArray)(g0 n0 cap0:Nat)(hR0:Rv w ((7,f)::r) S0 g0 n0 cap0)(hl:r.length<=99000):
  Calls prog 139 #[.agg #[.string S0,.slice (some ⟨g0,0,none⟩) n0 cap0,.bool fr],.int .u8 86,.int .u8 125,.int .i64 (p:Int)] w (zI w g0 r fr):=by
 have hlt:=hR0.lt;go_enter func139,ntmps139
 go_wp2_with fail
 refine(Y9 _ 125 rfl rfl rfl).mono ?_;rintro e w9 ⟨rfl,rfl⟩
 go_wp2_with fail
 refine(Vh _ r S0 g0 n0 cap0 fr 7 f (hR0.below (zy _ _ _)) (by omega)).mono ?_;rintro e w1 ⟨S1,g1,n1,cap1,rfl,hR1,hb1,hg1⟩;obtain⟨hs1,hg1,hZ1,yu,yw,yx,yz,yA,yC⟩:=vF hb1 hg1;go_wp2;exact bodyPost_ret (by simp[results,results139,go_sem, *]) rfl (xQ (zy w _ _) hR1 hb1 hg1 hlt)
theorem zgp(S0:ByteArray)(g0 n0 cap0:Nat)(hR0:Rv w ((8,f)::r) S0 g0 n0 cap0)(hl:r.length<=99000):
  Calls prog 139 #[.agg #[.string S0,.slice (some ⟨g0,0,none⟩) n0 cap0,.bool fr],.int .u8 73,.int .u8 34,.int .i64 (p:Int)] w (zI w g0 ((5,p)::((8,f)::r)) fr):=by
 have hlt:=hR0.lt;go_enter func139,ntmps139
 go_wp2_with fail
 refine(Y9 _ 34 rfl rfl rfl).mono ?_;rintro e w9 ⟨rfl,rfl⟩
 go_wp2_with fail
 refine(jB _ ((8,f)::r) S0 g0 n0 cap0 fr 5 p _ rfl (hR0.below (zy _ _ _)) (by simp;omega) (by simp)).mono ?_;rintro e w1 ⟨S1,g1,n1,cap1,rfl,hR1,hb1,hg1⟩;obtain⟨hs1,hg1,hZ1,yu,yw,yx,yz,yA,yC⟩:=vF hb1 hg1;go_wp2;exact bodyPost_ret (by simp[results,results139,go_sem, *]) rfl (xQ (zy w _ _) hR1 hb1 hg1 hlt)
theorem zgq(S0:ByteArray)(g0 n0 cap0:Nat)(hR0:Rv w ((8,f)::r) S0 g0 n0 cap0)(hl:r.length<=99000):
  Calls prog 139 #[.agg #[.string S0,.slice (some ⟨g0,0,none⟩) n0 cap0,.bool fr],.int .u8 73,.int .u8 125,.int .i64 (p:Int)] w (zI w g0 r fr):=by
 have hlt:=hR0.lt;go_enter func139,ntmps139
 go_wp2_with fail
 refine(Y9 _ 125 rfl rfl rfl).mono ?_;rintro e w9 ⟨rfl,rfl⟩
 go_wp2_with fail
 refine(Vh _ r S0 g0 n0 cap0 fr 8 f (hR0.below (zy _ _ _)) (by omega)).mono ?_;rintro e w1 ⟨S1,g1,n1,cap1,rfl,hR1,hb1,hg1⟩;obtain⟨hs1,hg1,hZ1,yu,yw,yx,yz,yA,yC⟩:=vF hb1 hg1;go_wp2;exact bodyPost_ret (by simp[results,results139,go_sem, *]) rfl (xQ (zy w _ _) hR1 hb1 hg1 hlt)
theorem zgr(S0:ByteArray)(g0 n0 cap0:Nat)(hR0:Rv w ((7,f)::r) S0 g0 n0 cap0)(hl:r.length<=99000):
  Calls prog 139 #[.agg #[.string S0,.slice (some ⟨g0,0,none⟩) n0 cap0,.bool fr],.int .u8 86,.int .u8 39,.int .i64 (p:Int)] w (zI w g0 ((4,p)::((7,f)::r)) fr):=by
 have hlt:=hR0.lt;go_enter func139,ntmps139
 go_wp2_with fail
 refine(Y9 _ 39 rfl rfl rfl).mono ?_;rintro e w9 ⟨rfl,rfl⟩
 go_wp2_with fail
 refine(jB _ ((7,f)::r) S0 g0 n0 cap0 fr 4 p _ rfl (hR0.below (zy _ _ _)) (by simp;omega) (by simp)).mono ?_;rintro e w1 ⟨S1,g1,n1,cap1,rfl,hR1,hb1,hg1⟩;obtain⟨hs1,hg1,hZ1,yu,yw,yx,yz,yA,yC⟩:=vF hb1 hg1;go_wp2;exact bodyPost_ret (by simp[results,results139,go_sem, *]) rfl (xQ (zy w _ _) hR1 hb1 hg1 hlt)
theorem zgs(S0:ByteArray)(g0 n0 cap0:Nat)(hR0:Rv w ((8,f)::r) S0 g0 n0 cap0)(hl:r.length<=99000):
  Calls prog 139 #[.agg #[.string S0,.slice (some ⟨g0,0,none⟩) n0 cap0,.bool fr],.int .u8 73,.int .u8 39,.int .i64 (p:Int)] w (zI w g0 ((8,f)::r) fr):=by
 have hlt:=hR0.lt;go_enter func139,ntmps139
 go_wp2_with fail
 refine(Y9 _ 39 rfl rfl rfl).mono ?_;rintro e w9 ⟨rfl,rfl⟩;go_wp2;exact bodyPost_ret (by simp[results,results139,go_sem, *]) rfl ⟨S0,g0,n0,cap0,rfl,hR0.below (zy _ _ _),zy _ _ _,.inl rfl⟩
theorem zgt(S0:ByteArray)(g0 n0 cap0:Nat)(hR0:Rv w ((7,f)::r) S0 g0 n0 cap0)(hl:r.length<=99000)(t0:((b:Int)==92)=false)(t1:((b:Int)==36)=false)(t2:((b:Int)==96)=false)(t3:((b:Int)==34)=false)(t4:((b:Int)==125)=false)(t5:((b:Int)==39)=false):
  Calls prog 139 #[.agg #[.string S0,.slice (some ⟨g0,0,none⟩) n0 cap0,.bool fr],.int .u8 86,.int .u8 b,.int .i64 (p:Int)] w (zI w g0 ((7,f)::r) fr):=by
 have hlt:=hR0.lt;go_enter func139,ntmps139
 go_wp2_with fail
 refine(Y9 _ b t0 t1 t2).mono ?_;rintro e w9 ⟨rfl,rfl⟩;go_wp2;exact bodyPost_ret (by simp[results,results139,go_sem, *]) rfl ⟨S0,g0,n0,cap0,rfl,hR0.below (zy _ _ _),zy _ _ _,.inl rfl⟩
theorem zgu(S0:ByteArray)(g0 n0 cap0:Nat)(hR0:Rv w ((8,f)::r) S0 g0 n0 cap0)(hl:r.length<=99000)(t0:((b:Int)==92)=false)(t1:((b:Int)==36)=false)(t2:((b:Int)==96)=false)(t3:((b:Int)==34)=false)(t4:((b:Int)==125)=false)(t5:((b:Int)==39)=false):
  Calls prog 139 #[.agg #[.string S0,.slice (some ⟨g0,0,none⟩) n0 cap0,.bool fr],.int .u8 73,.int .u8 b,.int .i64 (p:Int)] w (zI w g0 ((8,f)::r) fr):=by
 have hlt:=hR0.lt;go_enter func139,ntmps139
 go_wp2_with fail
 refine(Y9 _ b t0 t1 t2).mono ?_;rintro e w9 ⟨rfl,rfl⟩;go_wp2;exact bodyPost_ret (by simp[results,results139,go_sem, *]) rfl ⟨S0,g0,n0,cap0,rfl,hR0.below (zy _ _ _),zy _ _ _,.inl rfl⟩
end
section
variable(w:World)(b f p:Nat)(r:List Fr)(S:ByteArray)(g n cap:Nat)(fr:Bool)
theorem zgv(S0:ByteArray)(g0 n0 cap0:Nat)(hR0:Rv w ((9,f)::r) S0 g0 n0 cap0)(hl:r.length<=99000):
  Calls prog 139 #[.agg #[.string S0,.slice (some ⟨g0,0,none⟩) n0 cap0,.bool fr],.int .u8 65,.int .u8 92,.int .i64 (p:Int)] w (zI w g0 ((13,p)::((9,f)::r)) fr):=by
 have hlt:=hR0.lt;go_enter func139,ntmps139
 go_wp2_with (go_at_call 171;refine(QU _).mono ?_;rintro e w9 ⟨rfl,rfl⟩)
 go_region_with (first
  |(go_at_call 171;refine(QU _).mono ?_;rintro e w9 ⟨rfl,rfl⟩)
  |(go_at_call 170;refine(jB _ ((9,f)::r) S0 g0 n0 cap0 fr 13 p _ rfl (hR0.below ((zy _ _ _).drew)) (by simp;omega) (by simp)).mono ?_;rintro e w1 ⟨S1,g1,n1,cap1,rfl,hR1,hb1,hg1⟩;obtain⟨hs1,hg1,hZ1,yu,yw,yx,yz,yA,yC⟩:=ZM hb1 hg1))
 all_goals
  go_wp2;exact bodyPost_ret (by simp[results,results139,go_sem, *]) rfl (xQ (zy w _ _).drew hR1 hb1 hg1 hlt)
theorem zgw(S0:ByteArray)(g0 n0 cap0:Nat)(hR0:Rv w ((9,f)::r) S0 g0 n0 cap0)(hl:r.length<=99000):
  Calls prog 139 #[.agg #[.string S0,.slice (some ⟨g0,0,none⟩) n0 cap0,.bool fr],.int .u8 65,.int .u8 36,.int .i64 (p:Int)] w (zI w g0 ((12,p)::((9,f)::r)) fr):=by
 have hlt:=hR0.lt;go_enter func139,ntmps139
 go_wp2_with (go_at_call 171;refine(JF _).mono ?_;rintro e w9 ⟨rfl,rfl⟩)
 go_region_with (first
  |(go_at_call 171;refine(JF _).mono ?_;rintro e w9 ⟨rfl,rfl⟩)
  |(go_at_call 170;refine(jB _ ((9,f)::r) S0 g0 n0 cap0 fr 12 p _ rfl (hR0.below ((zy _ _ _).drew)) (by simp;omega) (by simp)).mono ?_;rintro e w1 ⟨S1,g1,n1,cap1,rfl,hR1,hb1,hg1⟩;obtain⟨hs1,hg1,hZ1,yu,yw,yx,yz,yA,yC⟩:=ZM hb1 hg1))
 all_goals
  go_wp2;exact bodyPost_ret (by simp[results,results139,go_sem, *]) rfl (xQ (zy w _ _).drew hR1 hb1 hg1 hlt)
theorem zgx(S0:ByteArray)(g0 n0 cap0:Nat)(hR0:Rv w ((9,f)::r) S0 g0 n0 cap0)(hl:r.length<=99000):
  Calls prog 139 #[.agg #[.string S0,.slice (some ⟨g0,0,none⟩) n0 cap0,.bool fr],.int .u8 65,.int .u8 96,.int .i64 (p:Int)] w (zI w g0 ((6,p)::((9,f)::r)) fr):=by
 have hlt:=hR0.lt;go_enter func139,ntmps139
 go_wp2_with (go_at_call 171;refine(JE _).mono ?_;rintro e w9 ⟨rfl,rfl⟩)
 go_region_with (first
  |(go_at_call 171;refine(JE _).mono ?_;rintro e w9 ⟨rfl,rfl⟩)
  |(go_at_call 170;refine(jB _ ((9,f)::r) S0 g0 n0 cap0 fr 6 p _ rfl (hR0.below ((zy _ _ _).drew)) (by simp;omega) (by simp)).mono ?_;rintro e w1 ⟨S1,g1,n1,cap1,rfl,hR1,hb1,hg1⟩;obtain⟨hs1,hg1,hZ1,yu,yw,yx,yz,yA,yC⟩:=ZM hb1 hg1))
 all_goals
  go_wp2;exact bodyPost_ret (by simp[results,results139,go_sem, *]) rfl (xQ (zy w _ _).drew hR1 hb1 hg1 hlt)
theorem zgy(S0:ByteArray)(g0 n0 cap0:Nat)(hR0:Rv w ((10,f)::r) S0 g0 n0 cap0)(hl:r.length<=99000):
  Calls prog 139 #[.agg #[.string S0,.slice (some ⟨g0,0,none⟩) n0 cap0,.bool fr],.int .u8 82,.int .u8 92,.int .i64 (p:Int)] w (zI w g0 ((13,p)::((10,f)::r)) fr):=by
 have hlt:=hR0.lt;go_enter func139,ntmps139
 go_wp2_with (go_at_call 171;refine(QU _).mono ?_;rintro e w9 ⟨rfl,rfl⟩)
 go_region_with (first
  |(go_at_call 171;refine(QU _).mono ?_;rintro e w9 ⟨rfl,rfl⟩)
  |(go_at_call 170;refine(jB _ ((10,f)::r) S0 g0 n0 cap0 fr 13 p _ rfl (hR0.below ((zy _ _ _).drew)) (by simp;omega) (by simp)).mono ?_;rintro e w1 ⟨S1,g1,n1,cap1,rfl,hR1,hb1,hg1⟩;obtain⟨hs1,hg1,hZ1,yu,yw,yx,yz,yA,yC⟩:=ZM hb1 hg1))
 all_goals
  go_wp2;exact bodyPost_ret (by simp[results,results139,go_sem, *]) rfl (xQ (zy w _ _).drew hR1 hb1 hg1 hlt)
theorem zgz(S0:ByteArray)(g0 n0 cap0:Nat)(hR0:Rv w ((10,f)::r) S0 g0 n0 cap0)(hl:r.length<=99000):
  Calls prog 139 #[.agg #[.string S0,.slice (some ⟨g0,0,none⟩) n0 cap0,.bool fr],.int .u8 82,.int .u8 36,.int .i64 (p:Int)] w (zI w g0 ((12,p)::((10,f)::r)) fr):=by
 have hlt:=hR0.lt;go_enter func139,ntmps139
 go_wp2_with (go_at_call 171;refine(JF _).mono ?_;rintro e w9 ⟨rfl,rfl⟩)
 go_region_with (first
  |(go_at_call 171;refine(JF _).mono ?_;rintro e w9 ⟨rfl,rfl⟩)
  |(go_at_call 170;refine(jB _ ((10,f)::r) S0 g0 n0 cap0 fr 12 p _ rfl (hR0.below ((zy _ _ _).drew)) (by simp;omega) (by simp)).mono ?_;rintro e w1 ⟨S1,g1,n1,cap1,rfl,hR1,hb1,hg1⟩;obtain⟨hs1,hg1,hZ1,yu,yw,yx,yz,yA,yC⟩:=ZM hb1 hg1))
 all_goals
  go_wp2;exact bodyPost_ret (by simp[results,results139,go_sem, *]) rfl (xQ (zy w _ _).drew hR1 hb1 hg1 hlt)
theorem zgA(S0:ByteArray)(g0 n0 cap0:Nat)(hR0:Rv w ((10,f)::r) S0 g0 n0 cap0)(hl:r.length<=99000):
  Calls prog 139 #[.agg #[.string S0,.slice (some ⟨g0,0,none⟩) n0 cap0,.bool fr],.int .u8 82,.int .u8 96,.int .i64 (p:Int)] w (zI w g0 ((6,p)::((10,f)::r)) fr):=by
 have hlt:=hR0.lt;go_enter func139,ntmps139
 go_wp2_with (go_at_call 171;refine(JE _).mono ?_;rintro e w9 ⟨rfl,rfl⟩)
 go_region_with (first
  |(go_at_call 171;refine(JE _).mono ?_;rintro e w9 ⟨rfl,rfl⟩)
  |(go_at_call 170;refine(jB _ ((10,f)::r) S0 g0 n0 cap0 fr 6 p _ rfl (hR0.below ((zy _ _ _).drew)) (by simp;omega) (by simp)).mono ?_;rintro e w1 ⟨S1,g1,n1,cap1,rfl,hR1,hb1,hg1⟩;obtain⟨hs1,hg1,hZ1,yu,yw,yx,yz,yA,yC⟩:=ZM hb1 hg1))
 all_goals
  go_wp2;exact bodyPost_ret (by simp[results,results139,go_sem, *]) rfl (xQ (zy w _ _).drew hR1 hb1 hg1 hlt)
theorem zgB(S0:ByteArray)(g0 n0 cap0:Nat)(hR0:Rv w ((9,f)::r) S0 g0 n0 cap0)(hl:r.length<=99000):
  Calls prog 139 #[.agg #[.string S0,.slice (some ⟨g0,0,none⟩) n0 cap0,.bool fr],.int .u8 65,.int .u8 40,.int .i64 (p:Int)] w (zI w g0 ((10,p)::((9,f)::r)) fr):=by
 have hlt:=hR0.lt;go_enter func139,ntmps139
 go_wp2_with fail
 refine(Y9 _ 40 rfl rfl rfl).mono ?_;rintro e w9 ⟨rfl,rfl⟩
 go_wp2_with fail
 refine(jB _ ((9,f)::r) S0 g0 n0 cap0 fr 10 p _ rfl (hR0.below (zy _ _ _)) (by simp;omega) (by simp)).mono ?_;rintro e w1 ⟨S1,g1,n1,cap1,rfl,hR1,hb1,hg1⟩;obtain⟨hs1,hg1,hZ1,yu,yw,yx,yz,yA,yC⟩:=vF hb1 hg1;go_wp2;exact bodyPost_ret (by simp[results,results139,go_sem, *]) rfl (xQ (zy w _ _) hR1 hb1 hg1 hlt)
theorem zgC(S0:ByteArray)(g0 n0 cap0:Nat)(hR0:Rv w ((10,f)::r) S0 g0 n0 cap0)(hl:r.length<=99000):
  Calls prog 139 #[.agg #[.string S0,.slice (some ⟨g0,0,none⟩) n0 cap0,.bool fr],.int .u8 82,.int .u8 40,.int .i64 (p:Int)] w (zI w g0 ((10,p)::((10,f)::r)) fr):=by
 have hlt:=hR0.lt;go_enter func139,ntmps139
 go_wp2_with fail
 refine(Y9 _ 40 rfl rfl rfl).mono ?_;rintro e w9 ⟨rfl,rfl⟩
 go_wp2_with fail
 refine(jB _ ((10,f)::r) S0 g0 n0 cap0 fr 10 p _ rfl (hR0.below (zy _ _ _)) (by simp;omega) (by simp)).mono ?_;rintro e w1 ⟨S1,g1,n1,cap1,rfl,hR1,hb1,hg1⟩;obtain⟨hs1,hg1,hZ1,yu,yw,yx,yz,yA,yC⟩:=vF hb1 hg1;go_wp2;exact bodyPost_ret (by simp[results,results139,go_sem, *]) rfl (xQ (zy w _ _) hR1 hb1 hg1 hlt)
theorem zgD(S0:ByteArray)(g0 n0 cap0:Nat)(hR0:Rv w ((9,f)::r) S0 g0 n0 cap0)(hl:r.length<=99000):
  Calls prog 139 #[.agg #[.string S0,.slice (some ⟨g0,0,none⟩) n0 cap0,.bool fr],.int .u8 65,.int .u8 41,.int .i64 (p:Int)] w (zI w g0 ((11,f)::r) fr):=by
 have hlt:=hR0.lt;go_enter func139,ntmps139
 go_wp2_with fail
 refine(Y9 _ 41 rfl rfl rfl).mono ?_;rintro e w9 ⟨rfl,rfl⟩
 go_wp2_with fail
 refine(wC _ r S0 g0 n0 cap0 fr 9 f 11 _ rfl (hR0.below (zy _ _ _)) (by omega)).mono ?_;rintro e w1 ⟨S1,g1,n1,cap1,rfl,hR1,hb1,hg1⟩;obtain⟨hs1,hg1,hZ1,yu,yw,yx,yz,yA,yC⟩:=vF hb1 hg1;go_wp2;exact bodyPost_ret (by simp[results,results139,go_sem, *]) rfl (xQ (zy w _ _) hR1 hb1 hg1 hlt)
theorem zgE(S0:ByteArray)(g0 n0 cap0:Nat)(hR0:Rv w ((10,f)::r) S0 g0 n0 cap0)(hl:r.length<=99000):
  Calls prog 139 #[.agg #[.string S0,.slice (some ⟨g0,0,none⟩) n0 cap0,.bool fr],.int .u8 82,.int .u8 41,.int .i64 (p:Int)] w (zI w g0 r fr):=by
 have hlt:=hR0.lt;go_enter func139,ntmps139
 go_wp2_with fail
 refine(Y9 _ 41 rfl rfl rfl).mono ?_;rintro e w9 ⟨rfl,rfl⟩
 go_wp2_with fail
 refine(Vh _ r S0 g0 n0 cap0 fr 10 f (hR0.below (zy _ _ _)) (by omega)).mono ?_;rintro e w1 ⟨S1,g1,n1,cap1,rfl,hR1,hb1,hg1⟩;obtain⟨hs1,hg1,hZ1,yu,yw,yx,yz,yA,yC⟩:=vF hb1 hg1;go_wp2;exact bodyPost_ret (by simp[results,results139,go_sem, *]) rfl (xQ (zy w _ _) hR1 hb1 hg1 hlt)
theorem zgF(S0:ByteArray)(g0 n0 cap0:Nat)(hR0:Rv w ((9,f)::r) S0 g0 n0 cap0)(hl:r.length<=99000)(t0:((b:Int)==92)=false)(t1:((b:Int)==36)=false)(t2:((b:Int)==96)=false)(t3:((b:Int)==40)=false)(t4:((b:Int)==41)=false):
  Calls prog 139 #[.agg #[.string S0,.slice (some ⟨g0,0,none⟩) n0 cap0,.bool fr],.int .u8 65,.int .u8 b,.int .i64 (p:Int)] w (zI w g0 ((9,f)::r) fr):=by
 have hlt:=hR0.lt;go_enter func139,ntmps139
 go_wp2_with fail
 refine(Y9 _ b t0 t1 t2).mono ?_;rintro e w9 ⟨rfl,rfl⟩;go_wp2;exact bodyPost_ret (by simp[results,results139,go_sem, *]) rfl ⟨S0,g0,n0,cap0,rfl,hR0.below (zy _ _ _),zy _ _ _,.inl rfl⟩
theorem zgG(S0:ByteArray)(g0 n0 cap0:Nat)(hR0:Rv w ((10,f)::r) S0 g0 n0 cap0)(hl:r.length<=99000)(t0:((b:Int)==92)=false)(t1:((b:Int)==36)=false)(t2:((b:Int)==96)=false)(t3:((b:Int)==40)=false)(t4:((b:Int)==41)=false):
  Calls prog 139 #[.agg #[.string S0,.slice (some ⟨g0,0,none⟩) n0 cap0,.bool fr],.int .u8 82,.int .u8 b,.int .i64 (p:Int)] w (zI w g0 ((10,f)::r) fr):=by
 have hlt:=hR0.lt;go_enter func139,ntmps139
 go_wp2_with fail
 refine(Y9 _ b t0 t1 t2).mono ?_;rintro e w9 ⟨rfl,rfl⟩;go_wp2;exact bodyPost_ret (by simp[results,results139,go_sem, *]) rfl ⟨S0,g0,n0,cap0,rfl,hR0.below (zy _ _ _),zy _ _ _,.inl rfl⟩
end
end Go.Proofs.YtkolpaonccmgiaaGreatDoor

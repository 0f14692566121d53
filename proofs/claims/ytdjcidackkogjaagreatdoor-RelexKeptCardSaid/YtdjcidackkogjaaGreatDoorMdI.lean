/- What Step of the document's own machine returns: a -/
import Derived.Test.YtdjcidackkogjaaGreatDoorMdN
import Derived.Test.YtdjcidackkogjaaGreatDoorMdW
namespace Go.Proofs.YtdjcidackkogjaaGreatDoor
set_option linter.unusedSectionVars false
set_option linter.unusedVariables false
open Lib(hid)
set_option maxHeartbeats 8000000
open Go.RowKit
section
variable(w:World)(b f p:Nat)(r:List Fr)(S0:ByteArray)(g0 n0 cap0:Nat)(fr:Bool)
theorem Hw{w:World}{m f:Nat}{r:List Fr}{S:ByteArray}{g n cap:Nat}(h:Rv w ((m,f)::r) S g n cap){k:Nat}(he:k=r.length)(hk:k<S.size):(S[k].toNat:Int)=(((yI m).toNat:Nat):Int):=by rw[←yx hk,he,h.top]
theorem pg{w:World}{m f m2 f2:Nat}{r:List Fr}{S:ByteArray}{g n cap:Nat}(h:Rv w ((m,f)::(m2,f2)::r) S g n cap){k:Nat}(he:k=r.length)(hk:k<S.size):(S[k].toNat:Int)=(((yI m2).toNat:Nat):Int):=by rw[←yx hk,he,h.next]
theorem Xg{w:World}{m f:Nat}{r:List Fr}{S:ByteArray}{g n cap:Nat}(h:Rv w ((m,f)::r) S g n cap)(hl:r.length≤90001)(c:Int)(hc:(((yI m).toNat:Nat):Int)=c):∃k,∃hk:k<S.size,g<w.heap.size∧(S[k].toNat:Int)=c∧Hid (S.size=k+1)∧Hid (k=r.length)∧IntKind.i64.wrap ((S.size:Int)-1)=(k:Int)∧(k:Int)<S.size∧(0:Int)≤(k:Int):=by
 have hz:S.size=r.length+1:=h.size;have hk:r.length<S.size:=by omega
 exact⟨r.length,hk,h.lt,by rw[Hw h rfl hk,hc],hid hz,hid rfl,by rw[IntWalk.i64_in _ (by omega)];omega,by omega,by omega⟩
theorem zeS(m:Nat)(hm:m≤14∧m≠3∧m≠11∧m≠12)(hR0:Rv w ((m,f)::r) S0 g0 n0 cap0)(hl:r.length≤90000):
  Calls Tryz.prog 73 #[.agg #[.string S0,.slice (some ⟨g0,0,none⟩) n0 cap0,.bool fr],.int .u8 b,.int .i64 (p:Int)] w (zB w g0 (zu ((m,f)::r) fr b p).st (zu ((m,f)::r) fr b p).fresh):=by
 obtain⟨X,hX⟩:∃X,zu ((m,f)::r) fr b p=X:=⟨_,rfl⟩;obtain⟨lc,hlc⟩:∃lc,(yI m).toNat=lc:=⟨_,rfl⟩;have hcall:=λW (h:Below w.heap.size w W)=>Hy W b f p r S0 g0 n0 cap0 fr m hm (hR0.below h) (by omega);have hu:∀m,m<15→m≠3→m≠11→m≠12→((((yI m).toNat:Nat):Int)==76)=false∧((((yI m).toNat:Nat):Int)==79)=false∧((((yI m).toNat:Nat):Int)==69)=false:=by decide
 obtain⟨u76,Hz,u69⟩:=hu m (by omega) hm.2.1 hm.2.2.1 hm.2.2.2;rw[hX,hlc]at hcall;rw[hlc]at u76 Hz u69;rw[hX];obtain⟨sX,fX⟩:=X;obtain⟨k,hks,hlt,hby,HZ,HK,e1,Ve,q0⟩:=Xg hR0 (by omega) (lc:Int) (by rw[hlc]);clear hX hlc hu hm;go_enter Tryz.func73,Tryz.ntmps73
 go_wp2_with fail
 refine(hcall _ (zn _ _ _)).mono ?_;rintro e w1 ⟨S1,g1,n1,cap1,rfl,hR1,hb1,hg1⟩;obtain⟨hs1,hg1,hZ1,zT,zU,zV,zW,zX,zN⟩:=xu hb1 hg1;go_wp2;exact bodyPost_ret (by simp[results,Tryz.results73,go_sem, *]) rfl (y9 (zn w _ _) hR1 hb1 hg1 hlt)
theorem zeT(hR0:Rv w ((12,f)::r) S0 g0 n0 cap0)(hl:r.length≤90000):
  Calls Tryz.prog 73 #[.agg #[.string S0,.slice (some ⟨g0,0,none⟩) n0 cap0,.bool fr],.int .u8 40,.int .i64 (p:Int)] w (zB w g0 ((3,f)::r) true):=by
 obtain⟨k,hks,hlt,hby,HZ,HK,e1,Ve,q0⟩:=Xg hR0 (by first|omega|(simp only[List.length_cons];omega)) 76 (by decide);go_enter Tryz.func73,Tryz.ntmps73
 go_wp2_with fail
 refine(JU _ r S0 g0 n0 cap0 fr 12 f 3 _ rfl (hR0.below (zn _ _ _)) (by omega)).mono ?_;rintro e w1 ⟨S1,g1,n1,cap1,rfl,hR1,hb1,hg1⟩;obtain⟨hs1,hg1,hZ1,zT,zU,zV,zW,zX,zN⟩:=xu hb1 hg1
 go_wp2_with fail
 refine(Zd _ ((3,f)::r) S1 g1 n1 cap1 fr true hR1).mono ?_;rintro e w2 ⟨S2,g2,n2,cap2,rfl,hR2,hb2,hg2⟩;have hs2:=hb2.size;obtain⟨hZ2,Zx,Zy,Zz,ZA,ZB,qm⟩:=ja hZ1 hb2;go_wp2;exact bodyPost_ret (by simp[results,Tryz.results73,go_sem, *]) rfl (Xd (zn w _ _) hR2 hb1 hb2 hs1 hg1 hg2 hlt)
theorem zeU(f2:Nat)(hR0:Rv w ((12,f)::(5,f2)::r) S0 g0 n0 cap0)(hl:r.length≤90000):
  Calls Tryz.prog 73 #[.agg #[.string S0,.slice (some ⟨g0,0,none⟩) n0 cap0,.bool fr],.int .u8 123,.int .i64 (p:Int)] w (zB w g0 ((8,f)::(5,f2)::r) fr):=by
 obtain⟨k,hks,hlt,hby,HZ,HK,e1,Ve,q0⟩:=Xg hR0 (by first|omega|(simp only[List.length_cons];omega)) 76 (by decide);obtain⟨j,hj⟩:∃j,j=r.length:=⟨_,rfl⟩;have hkj:k=j+1:=by rw[HK.out,hj];rfl
 have hjs:j<S0.size:=by omega
 have JZ:=pg hR0 hj hjs;have pq:(j:Int)<S0.size:=by omega
 have q2:(0:Int)≤(j:Int):=by omega
 have e2:IntKind.i64.wrap ((S0.size:Int)-2)=(j:Int):=by have:=HZ.out;rw[IntWalk.i64_in _ (by omega)];omega
 rw[show(((yI 5).toNat:Nat):Int)=68 by decide]at JZ;have HJ:=hid hj;clear hj hkj;go_enter Tryz.func73,Tryz.ntmps73
 go_wp2_with fail
 refine(JU _ ((5,f2)::r) S0 g0 n0 cap0 fr 12 f 8 _ rfl (hR0.below (zn _ _ _)) (by simp;omega)).mono ?_;rintro e w1 ⟨S1,g1,n1,cap1,rfl,hR1,hb1,hg1⟩;obtain⟨hs1,hg1,hZ1,zT,zU,zV,zW,zX,zN⟩:=xu hb1 hg1;go_wp2;exact bodyPost_ret (by simp[results,Tryz.results73,go_sem, *]) rfl (y9 (zn w _ _) hR1 hb1 hg1 hlt)
theorem zeV(f2:Nat)(hR0:Rv w ((12,f)::(8,f2)::r) S0 g0 n0 cap0)(hl:r.length≤90000):
  Calls Tryz.prog 73 #[.agg #[.string S0,.slice (some ⟨g0,0,none⟩) n0 cap0,.bool fr],.int .u8 123,.int .i64 (p:Int)] w (zB w g0 ((8,f)::(8,f2)::r) fr):=by
 obtain⟨k,hks,hlt,hby,HZ,HK,e1,Ve,q0⟩:=Xg hR0 (by first|omega|(simp only[List.length_cons];omega)) 76 (by decide);obtain⟨j,hj⟩:∃j,j=r.length:=⟨_,rfl⟩;have hkj:k=j+1:=by rw[HK.out,hj];rfl
 have hjs:j<S0.size:=by omega
 have JZ:=pg hR0 hj hjs;have pq:(j:Int)<S0.size:=by omega
 have q2:(0:Int)≤(j:Int):=by omega
 have e2:IntKind.i64.wrap ((S0.size:Int)-2)=(j:Int):=by have:=HZ.out;rw[IntWalk.i64_in _ (by omega)];omega
 rw[show(((yI 8).toNat:Nat):Int)=73 by decide]at JZ;have HJ:=hid hj;clear hj hkj;go_enter Tryz.func73,Tryz.ntmps73
 go_wp2_with fail
 refine(JU _ ((8,f2)::r) S0 g0 n0 cap0 fr 12 f 8 _ rfl (hR0.below (zn _ _ _)) (by simp;omega)).mono ?_;rintro e w1 ⟨S1,g1,n1,cap1,rfl,hR1,hb1,hg1⟩;obtain⟨hs1,hg1,hZ1,zT,zU,zV,zW,zX,zN⟩:=xu hb1 hg1;go_wp2;exact bodyPost_ret (by simp[results,Tryz.results73,go_sem, *]) rfl (y9 (zn w _ _) hR1 hb1 hg1 hlt)
theorem zeW(f2:Nat)(m2:Nat)(t5:m2≠5)(t8:m2≠8)(hm:m2≤14)(hR0:Rv w ((12,f)::(m2,f2)::r) S0 g0 n0 cap0)(hl:r.length≤90000):
  Calls Tryz.prog 73 #[.agg #[.string S0,.slice (some ⟨g0,0,none⟩) n0 cap0,.bool fr],.int .u8 123,.int .i64 (p:Int)] w (zB w g0 ((7,f)::(m2,f2)::r) fr):=by
 obtain⟨k,hks,hlt,hby,HZ,HK,e1,Ve,q0⟩:=Xg hR0 (by first|omega|(simp only[List.length_cons];omega)) 76 (by decide);obtain⟨j,hj⟩:∃j,j=r.length:=⟨_,rfl⟩;have hkj:k=j+1:=by rw[HK.out,hj];rfl
 have hjs:j<S0.size:=by omega
 have JZ:=pg hR0 hj hjs;have pq:(j:Int)<S0.size:=by omega
 have q2:(0:Int)≤(j:Int):=by omega
 have e2:IntKind.i64.wrap ((S0.size:Int)-2)=(j:Int):=by have:=HZ.out;rw[IntWalk.i64_in _ (by omega)];omega
 have u5:((S0[j].toNat:Int)==68)=false:=by
  rw[JZ];have:∀m,m≤14→m≠5→m≠8→((((yI m).toNat:Nat):Int)==68)=false:=by
   intro m h1 h2 h3;have:∀m,m<15→m≠5→m≠8→((((yI m).toNat:Nat):Int)==68)=false:=by decide
   exact this m (by omega) h2 h3
  exact this m2 hm t5 t8
 have u8:((S0[j].toNat:Int)==73)=false:=by
  rw[JZ];have:∀m,m≤14→m≠5→m≠8→((((yI m).toNat:Nat):Int)==73)=false:=by
   intro m h1 h2 h3;have:∀m,m<15→m≠5→m≠8→((((yI m).toNat:Nat):Int)==73)=false:=by decide
   exact this m (by omega) h2 h3
  exact this m2 hm t5 t8
 clear JZ t5 t8;have HJ:=hid hj;clear hj hkj;go_enter Tryz.func73,Tryz.ntmps73
 go_wp2_with fail
 refine(JU _ ((m2,f2)::r) S0 g0 n0 cap0 fr 12 f 7 _ rfl (hR0.below (zn _ _ _)) (by simp;omega)).mono ?_;rintro e w1 ⟨S1,g1,n1,cap1,rfl,hR1,hb1,hg1⟩;obtain⟨hs1,hg1,hZ1,zT,zU,zV,zW,zX,zN⟩:=xu hb1 hg1;go_wp2;exact bodyPost_ret (by simp[results,Tryz.results73,go_sem, *]) rfl (y9 (zn w _ _) hR1 hb1 hg1 hlt)
theorem zeX(hR0:Rv w ((12,f)::r) S0 g0 n0 cap0)(hl:r.length≤90000):
  Calls Tryz.prog 73 #[.agg #[.string S0,.slice (some ⟨g0,0,none⟩) n0 cap0,.bool fr],.int .u8 36,.int .i64 (p:Int)] w (zB w g0 r fr):=by
 obtain⟨k,hks,hlt,hby,HZ,HK,e1,Ve,q0⟩:=Xg hR0 (by first|omega|(simp only[List.length_cons];omega)) 76 (by decide);go_enter Tryz.func73,Tryz.ntmps73
 go_wp2_with fail
 refine(ZZ _ r S0 g0 n0 cap0 fr 12 f (hR0.below (zn _ _ _)) (by omega)).mono ?_;rintro e w1 ⟨S1,g1,n1,cap1,rfl,hR1,hb1,hg1⟩;obtain⟨hs1,hg1,hZ1,zT,zU,zV,zW,zX,zN⟩:=xu hb1 hg1;have hL1:=JV (zn w _ _) hb1;obtain⟨Xh,Xi,Xj,Xk,Xl,Xm,ZC⟩:=ja (GX w _ _ _) hb1
 go_upto_region 10 with fail
 obtain⟨v1,hv1,GY,hV1,Xn,hT1,hN1,LC,LD,LG,LH,LJ,J3,LM,vb1,LP,LQ,LU,Q3⟩:=QX Xh hZ1 hR1 hL1 (by omega) (.string S1) (.slice (some ⟨g1,0,none⟩) n1 cap1) (.bool fr);rw[hv1];clear hv1 Xi Xj Xk Xl Xm ZC zT zU zV zW zX zN;go_wp2;exact bodyPost_ret (by simp[results,Tryz.results73,go_sem, *]) rfl (V5 (g0:=g0) Xn hT1 (w.heap.size+1) (by omega) (by omega) (by omega) _ _ _)
theorem zeY(m2 f2:Nat)(hm:m2≤14∧m2≠3∧m2≠11∧m2≠12)(t40:((b:Int)==40)=false)(t123:((b:Int)==123)=false)(t36:((b:Int)==36)=false)(hR0:Rv w ((12,f)::(m2,f2)::r) S0 g0 n0 cap0)(hl:r.length≤90000):
  Calls Tryz.prog 73 #[.agg #[.string S0,.slice (some ⟨g0,0,none⟩) n0 cap0,.bool fr],.int .u8 b,.int .i64 (p:Int)] w (zB w g0 (zu ((m2,f2)::r) fr b p).st (zu ((m2,f2)::r) fr b p).fresh):=by
 obtain⟨X,hX⟩:∃X,zu ((m2,f2)::r) fr b p=X:=⟨_,rfl⟩;have hcall:=λW S g n cap (h:Rv W ((m2,f2)::r) S g n cap)=>Hy W b f2 p r S g n cap fr m2 hm h (by omega);rw[hX]at hcall ⊢;obtain⟨sX,fX⟩:=X;obtain⟨lc,hlc⟩:∃lc,(yI m2).toNat=lc:=⟨_,rfl⟩;rw[hlc]at hcall;have VV:=hid hlc;have HM:=hid hm;clear hX hlc hm;obtain⟨k,hks,hlt,hby,HZ,HK,e1,Ve,q0⟩:=Xg hR0 (by first|omega|(simp only[List.length_cons];omega)) 76 (by decide);go_enter Tryz.func73,Tryz.ntmps73
 go_wp2_with fail
 refine(ZZ _ ((m2,f2)::r) S0 g0 n0 cap0 fr 12 f (hR0.below (zn _ _ _)) (by simp;omega)).mono ?_;rintro e w1 ⟨S1,g1,n1,cap1,rfl,hR1,hb1,hg1⟩;obtain⟨hs1,hg1,hZ1,zT,zU,zV,zW,zX,zN⟩:=xu hb1 hg1;have hL1:=JV (zn w _ _) hb1;obtain⟨Xh,Xi,Xj,Xk,Xl,Xm,ZC⟩:=ja (GX w _ _ _) hb1
 go_upto_region 10 with fail
 obtain⟨v1,hv1,GY,hV1,Xn,hT1,hN1,LC,LD,LG,LH,LJ,J3,LM,vb1,LP,LQ,LU,Q3⟩:=QX Xh hZ1 hR1 hL1 (by omega) (.string S1) (.slice (some ⟨g1,0,none⟩) n1 cap1) (.bool fr);rw[hv1];clear hv1 Xi Xj Xk Xl Xm ZC zT zU zV zW zX zN;have hsz1:=hR1.size;simp only[List.length_cons]at hsz1;obtain⟨j,hj⟩:∃j,j=r.length:=⟨_,rfl⟩;have zeZ:j<S1.size:=by omega
 have ze0:=Hw hR1 hj zeZ;rw[VV.out]at ze0;have e3:IntKind.i64.wrap ((S1.size:Int)-1)=(j:Int):=by rw[IntWalk.i64_in _ (by omega)];omega
 have pq:(j:Int)<S1.size:=by omega
 have q2:(0:Int)≤(j:Int):=by omega
 have Hz:((lc:Int)==79)=false:=by
  have:=HM.out;have h2:∀m,m<15→m≠3→((((yI m).toNat:Nat):Int)==79)=false:=by decide
  rw[←VV.out];exact h2 m2 (by omega) this.2.1
 have HJ:=hid hj;have HZ1:=hid hsz1;clear hj hsz1
 go_wp2_with fail
 refine(hcall _ S1 g1 n1 cap1 Xn).mono ?_;rintro e w2 ⟨S2,g2,n2,cap2,rfl,hR2,hb2,hg2⟩;have hs2:=hb2.size;obtain⟨hZ2,Zx,Zy,Zz,ZA,ZB,qm⟩:=ja hV1 hb2;rw[hN1]at hs2 hg2;go_wp2;exact bodyPost_ret (by simp[results,Tryz.results73,go_sem, *]) rfl (V5 (g0:=g0) hR2 (hT1.trans (hb2.mono (by omega))) (w.heap.size+1) (by omega) (by omega) (by omega) _ _ _)
theorem ze3(hR0:Rv w ((3,f)::r) S0 g0 n0 cap0)(hl:r.length≤90000):
  Calls Tryz.prog 73 #[.agg #[.string S0,.slice (some ⟨g0,0,none⟩) n0 cap0,.bool fr],.int .u8 40,.int .i64 (p:Int)] w (zB w g0 ((9,f)::r) false):=by
 obtain⟨k,hks,hlt,hby,HZ,HK,e1,Ve,q0⟩:=Xg hR0 (by first|omega|(simp only[List.length_cons];omega)) 79 (by decide);go_enter Tryz.func73,Tryz.ntmps73
 go_wp2_with fail
 refine(JU _ r S0 g0 n0 cap0 fr 3 f 9 _ rfl (hR0.below (zn _ _ _)) (by omega)).mono ?_;rintro e w1 ⟨S1,g1,n1,cap1,rfl,hR1,hb1,hg1⟩;obtain⟨hs1,hg1,hZ1,zT,zU,zV,zW,zX,zN⟩:=xu hb1 hg1
 go_wp2_with fail
 refine(Zd _ ((9,f)::r) S1 g1 n1 cap1 fr false hR1).mono ?_;rintro e w2 ⟨S2,g2,n2,cap2,rfl,hR2,hb2,hg2⟩;have hs2:=hb2.size;obtain⟨hZ2,Zx,Zy,Zz,ZA,ZB,qm⟩:=ja hZ1 hb2;go_wp2;exact bodyPost_ret (by simp[results,Tryz.results73,go_sem, *]) rfl (Xd (zn w _ _) hR2 hb1 hb2 hs1 hg1 hg2 hlt)
theorem ze4(hR0:Rv w ((3,f)::r) S0 g0 n0 cap0)(hl:r.length≤90000)(t0:((b:Int)==40)=false):
  Calls Tryz.prog 73 #[.agg #[.string S0,.slice (some ⟨g0,0,none⟩) n0 cap0,.bool fr],.int .u8 b,.int .i64 (p:Int)] w (zB w g0 (zu ((1,f)::r) fr b p).st (zu ((1,f)::r) fr b p).fresh):=by
 obtain⟨X,hX⟩:∃X,zu ((1,f)::r) fr b p=X:=⟨_,rfl⟩;have hcall:=λW S g n cap (h:Rv W ((1,f)::r) S g n cap)=>H5 W b f p r S g n cap fr h (by omega);rw[hX]at hcall ⊢;obtain⟨sX,fX⟩:=X;clear hX;obtain⟨k,hks,hlt,hby,HZ,HK,e1,Ve,q0⟩:=Xg hR0 (by first|omega|(simp only[List.length_cons];omega)) 79 (by decide);go_enter Tryz.func73,Tryz.ntmps73
 go_wp2_with fail
 refine(JU _ r S0 g0 n0 cap0 fr 3 f 1 _ rfl (hR0.below (zn _ _ _)) (by omega)).mono ?_;rintro e w1 ⟨S1,g1,n1,cap1,rfl,hR1,hb1,hg1⟩;obtain⟨hs1,hg1,hZ1,zT,zU,zV,zW,zX,zN⟩:=xu hb1 hg1;have hL1:=JV (zn w _ _) hb1;obtain⟨Xh,Xi,Xj,Xk,Xl,Xm,ZC⟩:=ja (GX w _ _ _) hb1
 go_upto_region 17 with fail
 obtain⟨v1,hv1,GY,hV1,Xn,hT1,hN1,LC,LD,LG,LH,LJ,J3,LM,vb1,LP,LQ,LU,Q3⟩:=QX Xh hZ1 hR1 hL1 (by omega) (.string S1) (.slice (some ⟨g1,0,none⟩) n1 cap1) (.bool fr);rw[hv1];clear hv1 Xi Xj Xk Xl Xm ZC zT zU zV zW zX zN
 go_wp2_with fail
 refine(hcall _ S1 g1 n1 cap1 Xn).mono ?_;rintro e w2 ⟨S2,g2,n2,cap2,rfl,hR2,hb2,hg2⟩;have hs2:=hb2.size;obtain⟨hZ2,Zx,Zy,Zz,ZA,ZB,qm⟩:=ja hV1 hb2;rw[hN1]at hs2 hg2;go_wp2;exact bodyPost_ret (by simp[results,Tryz.results73,go_sem, *]) rfl (V5 (g0:=g0) hR2 (hT1.trans (hb2.mono (by omega))) (w.heap.size+1) (by omega) (by omega) (by omega) _ _ _)
theorem ze5(hR0:Rv w ((11,f)::r) S0 g0 n0 cap0)(hl:r.length≤90000):
  Calls Tryz.prog 73 #[.agg #[.string S0,.slice (some ⟨g0,0,none⟩) n0 cap0,.bool fr],.int .u8 41,.int .i64 (p:Int)] w (zB w g0 r fr):=by
 obtain⟨k,hks,hlt,hby,HZ,HK,e1,Ve,q0⟩:=Xg hR0 (by first|omega|(simp only[List.length_cons];omega)) 69 (by decide);go_enter Tryz.func73,Tryz.ntmps73
 go_wp2_with fail
 refine(ZZ _ r S0 g0 n0 cap0 fr 11 f (hR0.below (zn _ _ _)) (by omega)).mono ?_;rintro e w1 ⟨S1,g1,n1,cap1,rfl,hR1,hb1,hg1⟩;obtain⟨hs1,hg1,hZ1,zT,zU,zV,zW,zX,zN⟩:=xu hb1 hg1;go_wp2;exact bodyPost_ret (by simp[results,Tryz.results73,go_sem, *]) rfl (y9 (zn w _ _) hR1 hb1 hg1 hlt)
theorem ze6(hR0:Rv w ((11,f)::r) S0 g0 n0 cap0)(hl:r.length≤90000)(t0:((b:Int)==41)=false):
  Calls Tryz.prog 73 #[.agg #[.string S0,.slice (some ⟨g0,0,none⟩) n0 cap0,.bool fr],.int .u8 b,.int .i64 (p:Int)] w (zB w g0 (zu ((9,f)::r) fr b p).st (zu ((9,f)::r) fr b p).fresh):=by
 obtain⟨X,hX⟩:∃X,zu ((9,f)::r) fr b p=X:=⟨_,rfl⟩;have hcall:=λW S g n cap (h:Rv W ((9,f)::r) S g n cap)=>H7 W b f p r S g n cap fr h (by omega);rw[hX]at hcall ⊢;obtain⟨sX,fX⟩:=X;clear hX;obtain⟨k,hks,hlt,hby,HZ,HK,e1,Ve,q0⟩:=Xg hR0 (by first|omega|(simp only[List.length_cons];omega)) 69 (by decide);go_enter Tryz.func73,Tryz.ntmps73
 go_wp2_with fail
 refine(JU _ r S0 g0 n0 cap0 fr 11 f 9 _ rfl (hR0.below (zn _ _ _)) (by omega)).mono ?_;rintro e w1 ⟨S1,g1,n1,cap1,rfl,hR1,hb1,hg1⟩;obtain⟨hs1,hg1,hZ1,zT,zU,zV,zW,zX,zN⟩:=xu hb1 hg1;have hL1:=JV (zn w _ _) hb1;obtain⟨Xh,Xi,Xj,Xk,Xl,Xm,ZC⟩:=ja (GX w _ _ _) hb1
 go_upto_region 22 with fail
 obtain⟨v1,hv1,GY,hV1,Xn,hT1,hN1,LC,LD,LG,LH,LJ,J3,LM,vb1,LP,LQ,LU,Q3⟩:=QX Xh hZ1 hR1 hL1 (by omega) (.string S1) (.slice (some ⟨g1,0,none⟩) n1 cap1) (.bool fr);rw[hv1];clear hv1 Xi Xj Xk Xl Xm ZC zT zU zV zW zX zN
 go_wp2_with fail
 refine(hcall _ S1 g1 n1 cap1 Xn).mono ?_;rintro e w2 ⟨S2,g2,n2,cap2,rfl,hR2,hb2,hg2⟩;have hs2:=hb2.size;obtain⟨hZ2,Zx,Zy,Zz,ZA,ZB,qm⟩:=ja hV1 hb2;rw[hN1]at hs2 hg2;go_wp2;exact bodyPost_ret (by simp[results,Tryz.results73,go_sem, *]) rfl (V5 (g0:=g0) hR2 (hT1.trans (hb2.mono (by omega))) (w.heap.size+1) (by omega) (by omega) (by omega) _ _ _)
theorem SI(x:Ms)(hI:Inv x)(hR0:Rv w x.st S0 g0 n0 cap0)(hl:x.st.length≤90000):
  Calls Tryz.prog 73 #[.agg #[.string S0,.slice (some ⟨g0,0,none⟩) n0 cap0,.bool x.fresh],.int .u8 b,.int .i64 (p:Int)] w (zB w g0 (yE x b p).st (yE x b p).fresh):=by
 obtain⟨st,fr⟩:=x
 cases st with
 |nil=>exact absurd hI.good (by simp[good])
 |cons a r=>
  obtain⟨m,f⟩:=a;have hle:=Vb hI.good;simp only[List.length_cons]at hl hR0 ⊢;by_cases h12:m=12
  ·subst h12
   by_cases yV:b=40
   ·subst yV
    exact zeT w f p r S0 g0 n0 cap0 fr hR0 (by omega)
   obtain⟨m2,f2,r2,rfl,ho,hg2⟩:=ZV hI.good (by omega);have hb2:=Y8 ho;unfold base at hb2;rw[decide_eq_true_iff]at hb2;simp only[List.length_cons]at hl;by_cases JY:b=123
   ·subst JY
    by_cases h5:m2=5
    ·subst h5
     exact zeU w f p r2 S0 g0 n0 cap0 fr f2 hR0 (by omega)
    by_cases h8:m2=8
    ·subst h8
     exact zeV w f p r2 S0 g0 n0 cap0 fr f2 hR0 (by omega)
    have e:yE ⟨(12,f)::(m2,f2)::r2,fr⟩ 123 p=⟨(7,f)::(m2,f2)::r2,fr⟩:=by
     show(⟨(qh m2,f)::(m2,f2)::r2,fr⟩:Ms)=_;unfold qh;rw[if_neg (by omega)]
    rw[e];exact zeW w f p r2 S0 g0 n0 cap0 fr f2 m2 h5 h8 (by omega) hR0 (by omega)
   by_cases zO:b=36
   ·subst zO
    exact zeX w f p ((m2,f2)::r2) S0 g0 n0 cap0 fr hR0 (by simp;omega)
   have e:yE ⟨(12,f)::(m2,f2)::r2,fr⟩ b p=zu ((m2,f2)::r2) fr b p:=by
    unfold yE;simp[yV,JY,zO]
   rw[e];exact zeY w b f p r2 S0 g0 n0 cap0 fr m2 f2 ⟨by omega,by omega,by omega,by omega⟩ (yl yV) (yl JY) (yl zO) hR0 (by omega)
  by_cases h3:m=3
  ·subst h3
   by_cases yV:b=40
   ·subst yV
    exact ze3 w f p r S0 g0 n0 cap0 fr hR0 (by omega)
   have e:yE ⟨(3,f)::r,fr⟩ b p=zu ((1,f)::r) fr b p:=by
    unfold yE;simp[yV]
   rw[e];exact ze4 w b f p r S0 g0 n0 cap0 fr hR0 (by omega) (yl yV)
  by_cases h11:m=11
  ·subst h11
   by_cases uk:b=41
   ·subst uk
    exact ze5 w f p r S0 g0 n0 cap0 fr hR0 (by omega)
   have e:yE ⟨(11,f)::r,fr⟩ b p=zu ((9,f)::r) fr b p:=by
    unfold yE;simp[uk]
   rw[e];exact ze6 w b f p r S0 g0 n0 cap0 fr hR0 (by omega) (yl uk)
  rw[mP h3 h11 h12];exact zeS w b f p r S0 g0 n0 cap0 fr m ⟨hle,h3,h11,h12⟩ hR0 (by omega)
end
end Go.Proofs.YtdjcidackkogjaaGreatDoor

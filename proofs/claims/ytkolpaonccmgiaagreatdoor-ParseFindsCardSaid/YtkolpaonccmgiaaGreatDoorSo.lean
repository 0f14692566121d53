/- What the document's own Fits of layer 12 (rules) a -/
import Derived.Test.YtkolpaonccmgiaaGreatDoorPdM
import Derived.Test.YtkolpaonccmgiaaGreatDoorPbE
set_option linter.unusedVariables false
namespace Go.Proofs.YtkolpaonccmgiaaGreatDoor.Q
set_option linter.unusedSectionVars false
set_option linter.unusedVariables false
open Go.RowKit
def FwQ (lv:Nat→Lf) (N:Nat) (nv:Nat→Nd) (i:Nat) (pk:Int) (pf pt:Nat) (e:Ending):Prop:=∃b,e=.returned (.bool b)∧(b=true→pt=pf+1∧(i+1<N→(nv (i+1)).u≠(i:Int))∧(lv pf).k=6∧(pk=6→0<assignN (lv pf).s))
theorem FwQ.no {lv:Nat→Lf} {N:Nat} {nv:Nat→Nd} {i:Nat} {pk:Int} {pf pt:Nat}:FwQ lv N nv i pk pf pt (.returned (.bool false)):=⟨false,rfl,fun h=>by cases h⟩
section
variable (w:World) (la:Option Addr) (n lc:Nat) (lv:Nat→Lf) (oa:Option Addr) (N oc:Nat) (nv:Nat→Nd) (i:Nat)
set_option maxRecDepth 100000 in
set_option maxHeartbeats 8000000 in
theorem fits_eq (hrow:NRow w oa N nv) (hi:i<N) (hN:N≤200) (pk:Int) (pf pu:Int) (hx:nv i=⟨pk,pf,pf,pu⟩) (h1:pk≠1):
  Calls Tryz.prog 37 #[.slice la n lc,.slice oa N oc,.int .i64 (i:Int)] w fun e w'=>e=.returned (.bool false)∧Below w.heap.size w w':=by
 obtain⟨ob,oo,hoa,hob,c0,c1,c2,c3⟩:=hrow i hi
 rw [hx]at c0 c1 c2 c3
 simp only at c0 c1 c2 c3
 subst hoa
 have hB:=((Below.refl w.heap.size w).alloc (Nat.le_refl _) (.cells #[.int .i64 0,.int .i64 0,.int .i64 0,.int .i64 0] 32))
 have hB2:=((Below.refl w.heap.size w).alloc (Nat.le_refl _) (.cells #[.int .i64 pk,.int .i64 pf,.int .i64 pf,.int .i64 pu] 32))
 have m0:=(hB.cell (p:=⟨ob,oo+i*4,none⟩) hob).trans c0
 have m1:=(hB.cell (p:=⟨ob,oo+i*4+1,none⟩) hob).trans c1
 have m2:=(hB.cell (p:=⟨ob,oo+i*4+2,none⟩) hob).trans c2
 have m3:=(hB.cell (p:=⟨ob,oo+i*4+3,none⟩) hob).trans c3
 have q0:(0:Int)≤(i:Int):=by omega
 have q1:(i:Int)<(N:Int):=by omega
 have u1:(pk !=1)=true:=by simpa using h1
 have HB2:=Lib.hid hB2
 clear hx hB hB2 h1
 go_enter Tryz.func37,Tryz.ntmps37
 go_wp2
 go_ret
 exact⟨rfl,HB2.out⟩
set_option maxRecDepth 100000 in
set_option maxHeartbeats 8000000 in
theorem fits_w (hrow:LfRow w la n lv) (hsm:∀i,i<n→(lv i).s.size≤100) (hl:NRow w oa N nv) (hi:i<N) (hN:N≤200) (hn:n≤40) (pk:Int) (hk:pk=6∨pk=7) (pf pt:Nat) (pu:Int) (hx:nv i=⟨pk,pf,pt,pu⟩) (h2:pf≠pt) (hfn:pf<n) (hul:i+1<N→0≤(nv (i+1)).u):
  Calls Tryz.prog 37 #[.slice la n lc,.slice oa N oc,.int .i64 (i:Int)] w fun e w'=>FwQ lv N nv i pk pf pt e∧Below w.heap.size w w':=by
 obtain⟨ob,oo,hoa,hob,c0,c1,c2,c3⟩:=hl i hi
 rw [hx]at c0 c1 c2 c3
 simp only at c0 c1 c2 c3
 subst hoa
 have HL:=Lib.hid hl
 have HROW:=Lib.hid hrow
 have hB:=((Below.refl w.heap.size w).alloc (Nat.le_refl _) (.cells #[.int .i64 0,.int .i64 0,.int .i64 0,.int .i64 0] 32))
 have m0:=(hB.cell (p:=⟨ob,oo+i*4,none⟩) hob).trans c0
 have m1:=(hB.cell (p:=⟨ob,oo+i*4+1,none⟩) hob).trans c1
 have m2:=(hB.cell (p:=⟨ob,oo+i*4+2,none⟩) hob).trans c2
 have m3:=(hB.cell (p:=⟨ob,oo+i*4+3,none⟩) hob).trans c3
 have q0:(0:Int)≤(i:Int):=by omega
 have q1:(i:Int)<(N:Int):=by omega
 have r0:(0:Int)≤(pf:Int):=by omega
 have r1:(pf:Int)<(n:Int):=by omega
 have e1:IntKind.i64.wrap ((pf:Int)+1)=(pf:Int)+1:=IntWalk.i64_in _ (by omega)
 have e2:IntKind.i64.wrap ((i:Int)+1)=(i:Int)+1:=IntWalk.i64_in _ (by omega)
 have HAS:=Lib.hid (fun W=>refassign_any (lv pf).s W (by have:=hsm pf hfn;omega))
 obtain⟨z,hz⟩:∃z,assignN (lv pf).s=z:=⟨_,rfl⟩
 rw [hz]at HAS
 have HZ:=Lib.hid hz
 have hbn:decide ((0:Int)<(z:Int))=decide (0<z):=by congr 1;apply propext;omega
 have HX:=Lib.hid hx
 clear hrow hl hx hsm hz
 go_enter Tryz.func37,Tryz.ntmps37
 go_upto_region 2 with fail
 obtain⟨W,hW⟩:∃X,w.alloc (.cells #[.int .i64 pk,.int .i64 (pf:Int),.int .i64 (pt:Int),.int .i64 pu] 32)=X:=⟨_,rfl⟩
 have kB:=Blk.new w #[.int .i64 pk,.int .i64 (pf:Int),.int .i64 (pt:Int),.int .i64 pu] 32
 have hB2:=(Below.refl w.heap.size w).alloc (Nat.le_refl _) (.cells #[.int .i64 pk,.int .i64 (pf:Int),.int .i64 (pt:Int),.int .i64 pu] 32)
 rw [hW]at kB hB2 ⊢
 have HBW:=Lib.hid hB2
 obtain⟨B,hBB⟩:∃B,w.heap.size=B:=⟨_,rfl⟩
 have HKB:=Lib.hid (hBB▸kB)
 rw [hBB]
 have n0:=HKB.out.cell 0
 have n1:=HKB.out.cell 1
 have n2:=HKB.out.cell 2
 have n3:=HKB.out.cell 3
 simp only [List.getElem?_toArray,List.getElem?_cons_zero,List.getElem?_cons_succ]at n0 n1 n2 n3
 clear hW kB hB2 m0 m1 m2 m3 c0 c1 c2 c3 hB
 have u2:((pf:Int)==(pt:Int))=false:=by simp;omega
 obtain⟨lb,lo,hla,hlb,l0,l1,l2,l3⟩:=(HROW.out.below HBW.out) pf hfn
 subst hla
 obtain⟨Q,hQ⟩:∃Q,lv pf=Q:=⟨_,rfl⟩
 rw [hQ]at l0 l1 l2 l3 HAS
 obtain⟨lk,ls,lf,lt⟩:=Q
 simp only at l0 l1 l2 l3 HAS
 have HQ:=Lib.hid hQ
 clear hQ h2
 by_cases h1:pt=pf+1
 ·have v1:((pt:Int)!=(pf:Int)+1)=false:=by
   rw [h1]
   simp
  have H1:=Lib.hid h1
  clear h1
  have hfin:∀(b:Bool),(i+1<N→(nv (i+1)).u≠(i:Int))→lk=6→(b=true→pk=6→0<z)→FwQ lv N nv i pk pf pt (.returned (.bool b)):=fun b g1 g2 g3=>⟨b,rfl,fun h=>⟨H1.out,g1,by rw [HQ.out];exact g2,fun h6=>by rw [HZ.out];exact g3 h h6⟩⟩
  have HFIN:=Lib.hid hfin
  clear hfin
  by_cases hN1:i+1<N
  ·have s0:(0:Int)≤(i:Int)+1:=by omega
   have s1:(i:Int)+1<(N:Int):=by omega
   obtain⟨ob2,oo2,hoa2,hob2,d0,d1,d2,d3⟩:=(HL.out.below HBW.out) (i+1) hN1
   cases hoa2
   obtain⟨y,hy⟩:∃y,(nv (i+1)).u=y:=⟨_,rfl⟩
   rw [hy]at d3
   by_cases hu:y=(i:Int)
   ·subst hu
    rcases hk with rfl|rfl
    ·go_wp2
     go_ret
     exact⟨FwQ.no,by first|exact HBW.out|(rw [←hBB];exact HBW.out)⟩
    ·go_wp2
     go_ret
     exact⟨FwQ.no,by first|exact HBW.out|(rw [←hBB];exact HBW.out)⟩
   ·have d4:(y==(i:Int))=false:=by simpa using hu
    have HUP:=Lib.hid (show i+1<N→(nv (i+1)).u≠(i:Int)from fun _=>by rw [hy];exact hu)
    clear hu hy d0 d1 d2
    by_cases h6:lk=6
    ·subst h6
     rcases hk with rfl|rfl
     ·obtain⟨bz,hbz⟩:∃b,decide (0<z)=b:=⟨_,rfl⟩
      rw [hbz]at hbn
      go_wp2_with fail
      refine(HAS.out _).mono ?_
      rintro e we ⟨rfl,rfl⟩
      go_wp2
      go_ret
      exact⟨HFIN.out bz HUP.out (by first|rfl|trivial) (fun h _=>by rw [h]at hbz;exact of_decide_eq_true hbz),by first|exact HBW.out|(rw [←hBB];exact HBW.out)⟩
     ·go_wp2
      go_ret
      exact⟨HFIN.out true HUP.out (by first|rfl|trivial) (fun _ h=>absurd h (by decide)),by first|exact HBW.out|(rw [←hBB];exact HBW.out)⟩
    ·have d6:(lk !=6)=true:=by simpa using h6
     clear h6
     rcases hk with rfl|rfl
     ·go_wp2
      go_ret
      exact⟨FwQ.no,by first|exact HBW.out|(rw [←hBB];exact HBW.out)⟩
     ·go_wp2
      go_ret
      exact⟨FwQ.no,by first|exact HBW.out|(rw [←hBB];exact HBW.out)⟩
  ·have s1:¬(i:Int)+1<(N:Int):=by omega
   have HUP:=Lib.hid (show i+1<N→(nv (i+1)).u≠(i:Int)from fun h=>absurd h hN1)
   by_cases h6:lk=6
   ·subst h6
    rcases hk with rfl|rfl
    ·obtain⟨bz,hbz⟩:∃b,decide (0<z)=b:=⟨_,rfl⟩
     rw [hbz]at hbn
     go_wp2_with fail
     refine(HAS.out _).mono ?_
     rintro e we ⟨rfl,rfl⟩
     go_wp2
     go_ret
     exact⟨HFIN.out bz HUP.out (by first|rfl|trivial) (fun h _=>by rw [h]at hbz;exact of_decide_eq_true hbz),by first|exact HBW.out|(rw [←hBB];exact HBW.out)⟩
    ·go_wp2
     go_ret
     exact⟨HFIN.out true HUP.out (by first|rfl|trivial) (fun _ h=>absurd h (by decide)),by first|exact HBW.out|(rw [←hBB];exact HBW.out)⟩
   ·have d6:(lk !=6)=true:=by simpa using h6
    clear h6
    rcases hk with rfl|rfl
    ·go_wp2
     go_ret
     exact⟨FwQ.no,by first|exact HBW.out|(rw [←hBB];exact HBW.out)⟩
    ·go_wp2
     go_ret
     exact⟨FwQ.no,by first|exact HBW.out|(rw [←hBB];exact HBW.out)⟩
 ·have v1:((pt:Int)!=(pf:Int)+1)=true:=by simp;omega
  rcases hk with rfl|rfl
  ·go_wp2
   go_ret
   exact⟨FwQ.no,by first|exact HBW.out|(rw [←hBB];exact HBW.out)⟩
  ·go_wp2
   go_ret
   exact⟨FwQ.no,by first|exact HBW.out|(rw [←hBB];exact HBW.out)⟩
end
structure FitP (n:Nat) (lv:Nat→Lf) (N:Nat) (nv:Nat→Nd) (i:Nat):Prop where
 ne:(nv i).k≠1→(nv i).f≠(nv i).t
 w1:((nv i).k=6∨(nv i).k=7)→(nv i).t=(nv i).f+1∧(i+1<N→(nv (i+1)).u≠(i:Int))∧(lv (nv i).f.toNat).k=6∧((nv i).k=6→0<assignN (lv (nv i).f.toNat).s)
 fm:(nv i).k≠6→(nv i).k≠7→qForm (nv i).k (rowF (sgA n lv) nv N i)
 dp:nsF (nv i).k=true→depF nv i<200
 s5:(nv i).k=5→((lv (nv i).f.toNat).k=6→resB (lv (nv i).f.toNat).s=false)∧assignN (wtx lv nv N i)=0∧((nv i).t=(n:Int)∨((lv (nv i).t.toNat).k≠6∧(lv (nv i).t.toNat).k≠5∧sgA n lv (nv i).t.toNat≠60))
 n16:(nv i).k=16→isNm (wtx lv nv N i)=true∧resB (wtx lv nv N i)=false
 n13:(nv i).k=13→isNm (wtx lv nv N i)=true
 t15:(nv i).k=15→sgA n lv (nv i).f.toNat=40∨(wtx lv nv N i).data.toList≠ [101,115,97,99]
section
variable (w:World) (la:Option Addr) (n lc:Nat) (lv:Nat→Lf) (oa:Option Addr) (N oc:Nat) (nv:Nat→Nd) (i:Nat)
theorem row_back {k:Int} (h:formF k (bOf (rowF (sgA n lv) nv N i))=true):qForm k (rowF (sgA n lv) nv N i):=by
 have h1:=form_q h
 rwa [rlB_bOf (l:=rowF (sgA n lv) nv N i) (fun x hx=>rowG_mem (fun a=>(sgn_lt _ _:sgA n lv a<256)) nv i _ _ _ x hx)]at h1
theorem fits_all (hC:FtC w la n lc lv oa N oc nv i):
  Calls Tryz.prog 37 #[.slice la n lc,.slice oa N oc,.int .i64 (i:Int)] w fun e w'=>(∃b,e=.returned (.bool b)∧(b=true→FitP n lv N nv i))∧Below w.heap.size w w':=by
 obtain⟨f0,f1,f2⟩:=hC.f0 i hC.i
 obtain⟨X,hX⟩:∃X,nv i=X:=⟨_,rfl⟩
 rw [hX]at f0 f1 f2
 obtain⟨pk,pf',pt',pu⟩:=X
 simp only at f0 f1 f2
 obtain⟨pf,rfl⟩:∃f:Nat,pf'=(f:Int):=⟨pf'.toNat,by omega⟩
 obtain⟨pt,rfl⟩:∃t:Nat,pt'=(t:Int):=⟨pt'.toNat,by omega⟩
 have ek:(nv i).k=pk:=by rw [hX]
 have ef:(nv i).f=(pf:Int):=by rw [hX]
 have et:(nv i).t=(pt:Int):=by rw [hX]
 have ef2:(nv i).f.toNat=pf:=by rw [ef];rfl
 have et2:(nv i).t.toNat=pt:=by rw [et];rfl
 by_cases heq:pk≠1∧pf=pt
 ·obtain⟨h1,rfl⟩:=heq
  refine(fits_eq w la n lc oa N oc nv i hC.nrow hC.i hC.N pk (pf:Int) pu hX h1).mono ?_
  rintro e w' ⟨rfl,hb⟩
  exact⟨⟨false,rfl,fun h=>by cases h⟩,hb⟩
 have hne:pk≠1→pf≠pt:=fun h g=>heq ⟨h,g⟩
 have hNE:(nv i).k≠1→(nv i).f≠(nv i).t:=fun h g=>by
  rw [ek]at h
  rw [ef,et]at g
  exact hne h (by omega)
 by_cases h67:pk=6∨pk=7
 ·have h2:pf≠pt:=hne (by omega)
  refine(fits_w w la n lc lv oa N oc nv i hC.row hC.sml hC.nrow hC.i hC.N hC.n pk h67 pf pt pu hX h2 (by omega) (fun h=>?_)).mono ?_
  ·obtain⟨u,e1,_⟩:=(hC.rt.ok (i+1) h).hang (by omega)
   rw [e1]
   exact Int.natCast_nonneg _
  rintro e w' ⟨⟨b,rfl,hq⟩,hb⟩
  refine⟨⟨b,rfl,fun h=>?_⟩,hb⟩
  obtain⟨g1,g2,g3,g4⟩:=hq h
  exact⟨hNE,fun _=>⟨by rw [ef,et,g1];rfl,g2,by rw [ef2];exact g3,fun h6=>by rw [ef2];exact g4 (by rw [←ek];exact h6)⟩,fun h6 h7=>by rw [ek]at h6 h7;omega,fun hn=>by rw [ek]at hn;have:=of_decide_eq_true hn;omega,fun h=>by rw [ek]at h;omega,fun h=>by rw [ek]at h;omega,fun h=>by rw [ek]at h;omega,fun h=>by rw [ek]at h;omega⟩
 by_cases h1:pk=1
 ·subst h1
  refine(fits_1 w la n lc lv oa N oc nv i hC pf pt pu hX).mono ?_
  rintro e w' ⟨⟨b,rfl,hq⟩,hb⟩
  refine⟨⟨b,rfl,fun h=>?_⟩,hb⟩
  obtain⟨⟨g1,g2⟩,_⟩:=hq h
  exact⟨hNE,fun h=>by rw [ek]at h;omega,fun _ _=>by rw [ek];exact row_back n lv N nv i g1,fun hn=>g2 (by rw [←ek];exact hn),fun h=>by rw [ek]at h;omega,fun h=>by rw [ek]at h;omega,fun h=>by rw [ek]at h;omega,fun h=>by rw [ek]at h;omega⟩
 ·refine(fits_g w la n lc lv oa N oc nv i hC pk pf pt pu hX h1 (hne h1) (fun h=>h67 (.inl h)) (fun h=>h67 (.inr h))).mono ?_
  rintro e w' ⟨⟨b,rfl,hq⟩,hb⟩
  refine⟨⟨b,rfl,fun h=>?_⟩,hb⟩
  obtain⟨⟨g1,g2⟩,g5,g16,g13,g15⟩:=hq h
  refine⟨hNE,fun h=>by rw [ek]at h;exact absurd h h67,fun _ _=>by rw [ek];exact row_back n lv N nv i g1,fun hn=>g2 (by rw [←ek];exact hn),fun h=>?_,fun h=>g16 (by rw [←ek];exact h),fun h=>g13 (by rw [←ek];exact h),fun h=>by rw [ef2];exact g15 (by rw [←ek];exact h)⟩
  obtain⟨m1,m2,m3⟩:=g5 (by rw [←ek];exact h)
  rw [ef2,et2,et]
  exact⟨m1,m2,m3.imp (fun h=>by omega) id⟩
set_option maxRecDepth 100000 in
set_option maxHeartbeats 4000000 in
theorem right12_any (hrow:LfRow w la n lv) (hsm:∀i,i<n→(lv i).s.size≤100) (hl:NRow w oa N nv) (hN:N≤200) (hn:n≤40):
  Calls Tryz.prog 15 #[.slice la n lc,.slice oa N oc] w fun e w'=>(∃b,e=.returned (.bool b)∧(b=true→DvF n lv N nv))∧Below w.heap.size w w':=by
 have HR:=Lib.hid (refright_any w oa N oc nv hl (n:Int) (by omega))
 have HL:=Lib.hid hl
 have HROW:=Lib.hid hrow
 have HSM:=Lib.hid hsm
 clear hl hrow hsm
 go_enter Tryz.func15,Tryz.ntmps15
 go_wp2_with fail
 refine HR.out.mono ?_
 rintro e w1 ⟨⟨b,rfl,hb⟩,hb1⟩
 have HB1:=Lib.hid hb1
 cases b with
 |false=>
  clear hb hb1
  go_wp2
  go_ret
  exact⟨⟨false,rfl,fun h=>by cases h⟩,HB1.out⟩
 |true=>
  have HRT:=Lib.hid (hb.1 rfl)
  have hpos:=HRT.out.pos
  obtain⟨b0,o0,hao,hbw,c0,c1,c2,c3⟩:=(HL.out.below hb1) 0 hpos
  subst hao
  simp only [Nat.zero_mul,Nat.add_zero]at c0
  obtain⟨x,hx⟩:∃x,(nv 0).k=x:=⟨_,rfl⟩
  rw [hx]at c0
  have HX:=Lib.hid hx
  have p0:(0:Int)<(N:Int):=by omega
  clear hb hb1 c1 c2 c3 hx HR
  by_cases h1:x=1
  ·subst h1
   go_wp2
   go_loopw [5] (fun v5 wr=>∃i:Nat,i≤N∧v5=.int .i64 (i:Int)∧(∀j,j<i→FitP n lv N nv j)∧Below w.heap.size w wr) (fun v5 _=>N - (intOf v5).toNat)
   case atStart=>exact⟨0,Nat.zero_le _,rfl,fun j hj=>by omega,HB1.out⟩
   case round=>
    obtain⟨i,hi,rfl,hall,hbr⟩:=hrel
    have HA:=Lib.hid hall
    have HBR:=Lib.hid hbr
    clear hall hbr
    by_cases hlt:i<N
    ·have q0:(0:Int)≤(i:Int):=by omega
     have q1:(i:Int)<(N:Int):=by omega
     have e1:IntKind.i64.wrap ((i:Int)+1)=((i+1:Nat):Int):=by rw [IntWalk.i64_in _ (by omega)];rfl
     have HF:=Lib.hid (fits_all wr la n lc lv (some ⟨b0,o0,none⟩) N oc nv i ⟨HROW.out.below HBR.out,HSM.out,HL.out.below HBR.out,HRT.out,hlt,hN,hn⟩)
     go_wp2_with fail
     refine HF.out.mono ?_
     rintro e w2 ⟨⟨b,rfl,hb⟩,hb2⟩
     have HB2:=Lib.hid (HBR.out.trans (hb2.mono HBR.out.size))
     clear hb2 HF
     cases b with
     |false=>
      clear hb
      go_wp2
      go_ret
      exact⟨⟨false,rfl,fun h=>by cases h⟩,HB2.out⟩
     |true=>
      have HFI:=Lib.hid (hb rfl)
      clear hb
      go_wp2
      refine⟨⟨i+1,by omega,by go_num,fun j hj=>?_,HB2.out⟩,by simp [intOf];omega⟩
      by_cases g:j=i
      ·rw [g];exact HFI.out
      ·exact HA.out j (by omega)
    ·obtain rfl:i=N:=by omega
     have HD:=Lib.hid (show DvF n lv i nv from⟨HRT.out,HX.out,fun j hj=>(HA.out j hj).ne,fun j hj=>(HA.out j hj).w1,fun j hj=>(HA.out j hj).fm,fun j hj=>(HA.out j hj).dp,fun j hj=>(HA.out j hj).s5,fun j hj=>(HA.out j hj).n16,fun j hj=>(HA.out j hj).n13,fun j hj=>(HA.out j hj).t15⟩)
     go_wp2
     go_ret
     exact⟨⟨true,rfl,fun _=>HD.out⟩,HBR.out⟩
  ·have d1:(x !=1)=true:=by simpa using h1
   clear h1
   go_wp2
   go_ret
   exact⟨⟨false,rfl,fun h=>by cases h⟩,HB1.out⟩
end
theorem eq_ndF (a b c d a' b' c' d':Int) (w:World):(Op.equalIn 10000 32 (.agg #[.int .i64 a,.int .i64 b,.int .i64 c,.int .i64 d]) (.agg #[.int .i64 a',.int .i64 b',.int .i64 c',.int .i64 d'])).run Tryz.prog w=.ok (a==a' &&(b==b' &&(c==c' && d==d'))) w:=by
 have u3:=Tryz.underlying3
 have a3:=Tryz.isAgg3
 have z3:=Tryz.sizeOf3
 have hS:Tryz.prog.underlying 32=some (.struct (Tryz.prog.fieldsOf 32)):=by kernel_rfl
 rw [show(10000:Nat)=9999+1 from rfl,run_equalIn_agg w 9999 32 _ _ hS (by kernel_rfl)]
 simp only [Program.fieldsOf,Tryz.underlying32]
 go_simp
 by_cases h1:a=a'<;>by_cases h2:b=b'<;>by_cases h3:c=c'<;>by_cases h4:d=d'<;>simp [h1,h2,h3,h4]
theorem neq_ndF_same (a b c d:Int) (w:World):(binOp .neq 32 (.agg #[.int .i64 a,.int .i64 b,.int .i64 c,.int .i64 d]) (.agg #[.int .i64 a,.int .i64 b,.int .i64 c,.int .i64 d])).run Tryz.prog w=.ok (.bool false) w:=by
 rw [run_neq_struct,eq_ndF]
 simp [Result.andThen]
def StRlF (m:Nat) (w:World) (v:Value) (wr:World):Prop:=∃k:Nat,k≤m∧v=.int .i64 (k:Int)∧Below w.heap.size w wr
set_option maxRecDepth 100000 in
set_option maxHeartbeats 8000000 in
theorem same_anyF (w:World) (oa ob:Option Addr) (m ca cb:Nat) (nv:Nat→Nd) (h1:NRow w oa m nv) (h2:NRow w ob m nv) (hm:m≤1000000):
  Calls Tryz.prog 12 #[.slice oa m ca,.slice ob m cb] w fun e w'=>e=.returned (.bool true)∧Below w.heap.size w w':=by
 have H1:=Lib.hid h1
 have H2:=Lib.hid h2
 clear h1 h2
 go_enter Tryz.func12,Tryz.ntmps12
 go_wp2
 go_loopw [5] (fun v wr=>StRlF m w v wr) (fun v _=>m - (intOf v).toNat)
 case atStart=>exact⟨0,Nat.zero_le _,rfl,Below.refl _ _⟩
 case round=>
  obtain⟨k,hk,rfl,hbr⟩:=hrel
  have HBR:=Lib.hid hbr
  by_cases hlt:k<m
  ·obtain⟨b1,o1,hao,hbw,c0,c1,c2,c3⟩:=(H1.out.below hbr) k hlt
   obtain⟨b2,o2,hbo,hbw2,d0,d1,d2,d3⟩:=(H2.out.below hbr) k hlt
   subst hao
   subst hbo
   obtain⟨X,hX⟩:∃X,nv k=X:=⟨_,rfl⟩
   rw [hX]at c0 c1 c2 c3 d0 d1 d2 d3
   obtain⟨pk,pf,pt,pu⟩:=X
   simp only at c0 c1 c2 c3 d0 d1 d2 d3
   have hneq:=neq_ndF_same pk pf pt pu
   have q0:(0:Int)≤(k:Int):=by omega
   have q1:(k:Int)<(m:Int):=by omega
   have e1:IntKind.i64.wrap ((k:Int)+1)=((k+1:Nat):Int):=by rw [IntWalk.i64_in _ (by omega)];rfl
   clear hX hbr hbw hbw2
   go_wp2
   go_quiet (fail)
   go_wp2
   go_roundw
   case rel=>exact⟨k+1,by omega,rfl,belN HBR.out _⟩
   case measure=>simp [intOf];omega
  ·obtain rfl:k=m:=by omega
   clear hlt hbr
   go_wp2
   go_ret
   exact⟨rfl,HBR.out⟩
theorem slc_nl {nv:Nat→Nd} {N i:Nat} (h:i<N):nl (slcF nv 0 N) i=nv i:=by
 unfold nl slcF
 rw [Nat.sub_zero,List.getElem?_map,List.getElem?_range h]
 show nv (0+i)=nv i
 rw [Nat.zero_add]
section
variable (w:World)
set_option maxRecDepth 100000 in
set_option maxHeartbeats 8000000 in
theorem finds_law (hT:Tx w) (la:Option Addr) (n lc:Nat) (lv:Nat→Lf) (hrow:LfRow w la n lv) (oa:Option Addr) (N oc:Nat) (nv:Nat→Nd) (hnr:NRow w oa N nv):
  Calls Tryz.prog 4 #[.slice la n lc,.slice oa N oc] w fun e w'=>e=.returned (.bool true)∧Below w.heap.size w w':=by
 have HA:=Lib.hid (awakeP_any w hT)
 have HROW:=Lib.hid hrow
 have HNR:=Lib.hid hnr
 have HT:=Lib.hid hT
 have HS:=Lib.hid (fun W (h:Below w.heap.size w W)=>short_any W la n lc lv (hrow.below h) 40 (by omega))
 clear hT hrow hnr
 go_enter Tryz.func4,Tryz.ntmps4
 go_wp2_with fail
 refine HA.out.mono ?_
 rintro e w1 ⟨rfl,hb1⟩
 have HB1:=Lib.hid hb1
 clear hb1
 go_wp2_with fail
 refine(HS.out _ HB1.out).mono ?_
 rintro e w2 ⟨⟨b,rfl,hb⟩,rfl⟩
 cases b with
 |false=>
  go_wp2
  go_ret
  exact⟨rfl,HB1.out⟩
 |true=>
 obtain⟨hn,hs⟩:=hb.1 rfl
 have HSM:=Lib.hid (show ∀i,i<n→(lv i).s.size≤100 from fun i hi=>Nat.le_trans (hs i hi) (by omega))
 clear hb hs
 by_cases hN:N≤200
 ·have t1:¬(200:Int)<(N:Int):=by omega
  have t2:decide ((200:Int)<(N:Int))=false:=decide_eq_false t1
  have t3:decide (200<N)=false:=decide_eq_false (by omega)
  have HR:=Lib.hid (right12_any w2 la n lc lv oa N oc nv (HROW.out.below HB1.out) HSM.out (HNR.out.below HB1.out) hN hn)
  go_wp2_with fail
  refine HR.out.mono ?_
  rintro e w3 ⟨⟨b,rfl,hb⟩,hb3⟩
  have HB3:=Lib.hid (HB1.out.trans (hb3.mono HB1.out.size))
  clear hb3 HR
  cases b with
  |false=>
   clear hb
   go_wp2
   go_ret
   exact⟨rfl,HB3.out⟩
  |true=>
   have HD:=Lib.hid (dv_tree (hb rfl))
   clear hb
   have HP:=Lib.hid (parse_any (lc:=lc) w3 (HROW.out.below HB3.out) (HT.out.b HB3.out) HSM.out (by omega))
   go_wp2_with fail
   refine HP.out.mono ?_
   rintro e w4 ⟨L,pa,pc,rfl,hTr,hO,hb4⟩
   have hL:=hTr.one HD.out
   subst hL
   have hR:=(owns_nrow hO).2
   have hlen:(slcF nv 0 N).length=N:=by rw [slcF_len,Nat.sub_zero]
   rw [hlen]at hR ⊢
   have HB4:=Lib.hid (HB3.out.trans (hb4.mono HB3.out.size))
   have HSA:=Lib.hid (same_anyF w4 pa oa N pc oc nv (hR.congr (fun i hi=>slc_nl hi)) (HNR.out.below HB4.out) (by omega))
   clear hTr hO hb4 hR hlen
   go_wp2_with fail
   refine HSA.out.mono ?_
   rintro e w5 ⟨rfl,hb5⟩
   have HB5:=Lib.hid (HB4.out.trans (hb5.mono HB4.out.size))
   clear hb5
   go_wp2
   go_ret
   exact⟨rfl,HB5.out⟩
 ·have t1:(200:Int)<(N:Int):=by omega
  have t2:decide ((200:Int)<(N:Int))=true:=decide_eq_true t1
  have t3:decide (200<N)=true:=decide_eq_true (by omega)
  go_wp2
  go_ret
  exact⟨rfl,HB1.out⟩
end
end Go.Proofs.YtkolpaonccmgiaaGreatDoor.Q

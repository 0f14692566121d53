/- What the document's own Fits of layer 12 (rules) answers, of a node of a right tree. Condition: at most 200 nodes over at most 40 leaves of at most 100 bytes. -/
import Derived.Test.YtkolpaonccmgiaaGreatDoorSl
import Derived.Deep.RegionHeldLaw
set_option linter.unusedVariables false
namespace Go.Proofs.YtkolpaonccmgiaaGreatDoor.Q
set_option linter.unusedSectionVars false
set_option linter.unusedVariables false
open Go.RowKit
structure FtC (w:World) (la:Option Addr) (n lc:Nat) (lv:Nat→Lf) (oa:Option Addr) (N oc:Nat) (nv:Nat→Nd) (i:Nat):Prop where
 row:LfRow w la n lv
 sml:∀i,i<n→(lv i).s.size≤100
 nrow:NRow w oa N nv
 rt:Rt nv N (n:Int)
 i:i<N
 N:N≤200
 n:n≤40
theorem step_callH {ops:Array Oper} {o:Oper} {a:Act} {w:World} {K:Act→World→Prop} {Q:Exit→Act→World→Prop} {E:Prop} (hw:Region.wanted o (yielded ops a.tmps)=true) {f:FuncId} {fn:Func} (hf:Tryz.prog.funcs[f]?=some fn) (hname:(fn.name== "runtime.NumGoroutine")=false) (hb:fn.body.isSome=true) (args:List Operand) (tys:Array TypeId)
  (ho:o.op=.call { callee:=.value (.func f),args:=args.toArray,argTypes:=tys }) (vs:List Value) (hv:args.map a.eval=vs) (v:Value) (R:World→Prop)
  (hc:Calls Tryz.prog f vs.toArray w fun e w'=>e=.returned v∧R w') (h:∀w',R w'→K (a.put o.dst v) w'):
  if Region.wanted o (yielded ops a.tmps)=true then Oper.wp Tryz.prog o a w K Q else E:=by
 rw [if_pos hw]
 have e1:a.eval (.func f)=.func (.func f) #[] #[]:=rfl
 obtain⟨c,hc'⟩:=Option.isSome_iff_exists.1 hb
 have h1:fn.name≠ "runtime.NumGoroutine":=by simpa using hname
 have hen:(callFunc f vs.toArray).run Tryz.prog w=.ok (.enter f vs.toArray) w:=by simp [callFunc,hf,h1,hc']
 unfold Oper.wp execOp
 simp only [ho,resolve,List.map_toArray,hv,e1,Deferred.ofValue,invoke,Sem.run_bind,Sem.run_pure,Result.andThen_ok,Array.empty_append,Array.append_empty,hen]
 rw [Oper.upon_enter]
 refine hc.mono ?_
 rintro e w' ⟨rfl,hr⟩
 exact h w' hr
@[local go_sem] theorem und_match (f:Bool→Option Bool) (g:Option Value→Option Bool):yielded.match_1 (fun _=>Option Bool) (some undef) f g=g (some undef):=rfl
theorem fsF_some {nv:Nat→Nd} {i:Nat}:∀(d k j:Nat),fsF nv i d k=some j→k≤j∧j<k+d∧(nv j).f<(nv j).t
 |0,k,j,h=>by cases h
 |d+1,k,j,h=>by
  unfold fsF at h
  split at h
  ·rename_i g
   cases h
   exact⟨Nat.le_refl _,by omega,g.2.2⟩
  ·obtain⟨h1,h2,h3⟩:=fsF_some d (k+1) j h
   exact⟨by omega,by omega,h3⟩
theorem FtC.f0 {w:World} {la:Option Addr} {n lc:Nat} {lv:Nat→Lf} {oa:Option Addr} {N oc:Nat} {nv:Nat→Nd} {i:Nat} (h:FtC w la n lc lv oa N oc nv i) (x:Nat) (hx:x<N):0≤(nv x).f∧(nv x).f≤(nv x).t∧(nv x).t≤(n:Int):=by
 have h1:=nest h.rt.ok x hx 0 (abv0 h.rt.sp x hx)
 rw [h.rt.f0,h.rt.t0]at h1
 exact⟨h1.1,(h.rt.ok x hx).ft,h1.2⟩
theorem FtC.ws {w:World} {la:Option Addr} {n lc:Nat} {lv:Nat→Lf} {oa:Option Addr} {N oc:Nat} {nv:Nat→Nd} {i:Nat} (h:FtC w la n lc lv oa N oc nv i):(fsLf lv nv N i).s.size≤100:=by
 unfold fsLf
 cases g:fsF nv i (N - (i+1)) (i+1)with
 |none=>exact Nat.zero_le _
 |some k=>
  obtain⟨h1,h2,h3⟩:=fsF_some _ _ _ g
  have hi:=h.i
  have:=h.f0 k (by omega)
  exact h.sml _ (by omega)
theorem FtC.rl {w:World} {la:Option Addr} {n lc:Nat} {lv:Nat→Lf} {oa:Option Addr} {N oc:Nat} {nv:Nat→Nd} {i:Nat} (h:FtC w la n lc lv oa N oc nv i):(bOf (rowF (sgA n lv) nv N i)).size≤100000:=by
 rw [bOf_size]
 have h1:(rowF (sgA n lv) nv N i).length≤(N - (i+1)+1)*(n+1):=rowG_len h.i (fun x hx=>by have:=h.f0 x hx;omega) _ _ _ (by have:=h.i;omega)
 have h2:=h.N
 have h3:=h.n
 exact Nat.le_trans h1 (Nat.le_trans (Nat.mul_le_mul (show N - (i+1)+1≤201 by omega) (show n+1≤41 by omega)) (by decide))
def FtT (n:Nat) (lv:Nat→Lf) (N:Nat) (nv:Nat→Nd) (i:Nat) (pk:Int) (pf pt:Nat):Prop:=(pk=5→((lv pf).k=6→resB (lv pf).s=false)∧assignN (wtx lv nv N i)=0∧(pt=n∨((lv pt).k≠6∧(lv pt).k≠5∧sgA n lv pt≠60)))∧(pk=16→isNm (wtx lv nv N i)=true∧resB (wtx lv nv N i)=false)∧(pk=13→isNm (wtx lv nv N i)=true)∧(pk=15→(sgA n lv pf=40∨(wtx lv nv N i).data.toList≠ [101,115,97,99]))
def FtQ (n:Nat) (lv:Nat→Lf) (N:Nat) (nv:Nat→Nd) (i:Nat) (pk:Int) (P:Prop) (e:Ending):Prop:=∃b,e=.returned (.bool b)∧(b=true→(formF pk (bOf (rowF (sgA n lv) nv N i))=true∧(nsF pk=true→depF nv i<200))∧P)
theorem FtQ.no {n:Nat} {lv:Nat→Lf} {N:Nat} {nv:Nat→Nd} {i:Nat} {pk:Int} {P:Prop}:FtQ n lv N nv i pk P (.returned (.bool false)):=⟨false,rfl,fun h=>by cases h⟩
theorem bOf_one {x:Nat} (hx:x<256) (c:UInt8):((bOf [x]).toList==[c])=decide (x=c.toNat):=by
 rw [Go.ByteArray.toList_eq]
 show([x.toUInt8]==[c])=_
 rw [Bool.eq_iff_iff,decide_eq_true_iff,beq_iff_eq]
 have hm:x.toUInt8.toNat=x:=by simp [Nat.mod_eq_of_lt hx]
 constructor
 ·intro h
  have h:x.toUInt8=c:=by simpa using h
  rw [←h,hm]
 ·intro h
  have h2:x.toUInt8=c:=UInt8.toNat_inj.1 (by rw [hm];exact h)
  rw [h2]
section
variable (w:World) (la:Option Addr) (n lc:Nat) (lv:Nat→Lf) (oa:Option Addr) (N oc:Nat) (nv:Nat→Nd) (i:Nat)
set_option maxRecDepth 100000 in
set_option maxHeartbeats 8000000 in
theorem fits_1 (hC:FtC w la n lc lv oa N oc nv i) (pf pt:Nat) (pu:Int) (hx:nv i=⟨1,pf,pt,pu⟩):
  Calls Tryz.prog 37 #[.slice la n lc,.slice oa N oc,.int .i64 (i:Int)] w fun e w'=>FtQ n lv N nv i 1 (True) e∧Below w.heap.size w w':=by
 obtain⟨ob,oo,hoa,hob,c0,c1,c2,c3⟩:=hC.nrow i hC.i
 rw [hx]at c0 c1 c2 c3
 simp only at c0 c1 c2 c3
 subst hoa
 have HC:=Lib.hid hC
 have hB:=((Below.refl w.heap.size w).alloc (Nat.le_refl _) (.cells #[.int .i64 0,.int .i64 0,.int .i64 0,.int .i64 0] 32))
 have m0:=(hB.cell (p:=⟨ob,oo+i*4,none⟩) hob).trans c0
 have m1:=(hB.cell (p:=⟨ob,oo+i*4+1,none⟩) hob).trans c1
 have m2:=(hB.cell (p:=⟨ob,oo+i*4+2,none⟩) hob).trans c2
 have m3:=(hB.cell (p:=⟨ob,oo+i*4+3,none⟩) hob).trans c3
 have hi:=hC.i
 have hN:=hC.N
 have q0:(0:Int)≤(i:Int):=by omega
 have q1:(i:Int)<(N:Int):=by omega
 have hfz:=hC.f0 i hC.i
 rw [hx]at hfz
 simp only at hfz
 have HFZ:=Lib.hid hfz
 have HX:=Lib.hid hx
 clear hC hx hfz
 go_enter Tryz.func37,Tryz.ntmps37
 go_upto_region 2 with fail
 obtain⟨W,hW⟩:∃X,w.alloc (.cells #[.int .i64 1,.int .i64 (pf:Int),.int .i64 (pt:Int),.int .i64 pu] 32)=X:=⟨_,rfl⟩
 have kB:=Blk.new w #[.int .i64 1,.int .i64 (pf:Int),.int .i64 (pt:Int),.int .i64 pu] 32
 have hB2:=(Below.refl w.heap.size w).alloc (Nat.le_refl _) (.cells #[.int .i64 1,.int .i64 (pf:Int),.int .i64 (pt:Int),.int .i64 pu] 32)
 rw [hW]at kB hB2 ⊢
 have HBW:=Lib.hid hB2
 obtain⟨B,hBB⟩:∃B,w.heap.size=B:=⟨_,rfl⟩
 have HKB:=Lib.hid (hBB▸kB)
 rw [hBB]
 have n0:=HKB.out.cell 0
 have n1:=HKB.out.cell 1
 have n2:=HKB.out.cell 2
 have n3:=HKB.out.cell 3
 simp only [List.getElem?_toArray,List.getElem?_cons_zero,List.getElem?_cons_succ]at n0 n1 n2 n3
 clear hW kB hB2 m0 m1 m2 m3 c0 c1 c2 c3 hB
 have HRW:=Lib.hid (fun W' (h:Below w.heap.size w W')=>row12_any W' la n lc lv (HC.out.row.below h) HC.out.sml (some ⟨ob,oo,none⟩) N oc nv (HC.out.nrow.below h) HC.out.rt i HC.out.i (Nat.le_trans HC.out.N (by omega)) (Nat.le_trans HC.out.n (by omega)))
 have HDP:=Lib.hid (fun W' (h:Below w.heap.size w W')=>deep12_any W' (some ⟨ob,oo,none⟩) N oc nv (HC.out.nrow.below h) HC.out.rt.sp i HC.out.i (Nat.le_trans HC.out.N (by omega)))
 have HNS:=Lib.hid (fun W'=>nests12_any W' 1)
 obtain⟨R,hR⟩:∃R,rowF (sgA n lv) nv N i=R:=⟨_,rfl⟩
 have hRl:=HC.out.rl
 rw [hR]at HRW hRl
 have HFM:=Lib.hid (fun W'=>pform_any W' 1 (bOf R) (by omega))
 obtain⟨b1,hb1⟩:∃b,formF 1 (bOf R)=b:=⟨_,rfl⟩
 obtain⟨b2,hb2⟩:∃b,nsF 1=b:=⟨_,rfl⟩
 obtain⟨d,hd⟩:∃d,depF nv i=d:=⟨_,rfl⟩
 obtain⟨b3,hb3⟩:∃b,decide ((200:Int)≤(d:Int))=b:=⟨_,rfl⟩
 rw [hb1]at HFM
 rw [hb2]at HNS
 rw [hd]at HDP
 have HF1:=Lib.hid (And.intro hR hb1)
 have HF2:=Lib.hid (And.intro hb2 (And.intro hd hb3))
 clear hR hRl hb1 hb2 hd
 go_upto_region 8 with fail
 go_cut [94]from 76 to 94 (fun v94 wx=>v94=.bool (!b1||(b2 && b3))∧Below W.heap.size W wx)
 case first=>
  have e0:(W.drew).cell? ⟨B,0,none⟩=some (.int .i64 1):=n0
  have e0:(W.drew).cell? ⟨B,0,none⟩=some (.int .i64 1):=n0
  cases b1 with
  |false=>
   first
   |(go_region_law (first
    |(have gg:=HFM;have gg2:=hb3x;clear gg gg2;refine step_callH (by rfl) Tryz.func58 (by kernel_rfl) (by kernel_rfl) _ _ (by rfl) [.int .i64 1,.string (bOf R)] (by rfl) (.bool _) _ (HFM.out _) ?_;intro w4 hb4x;have s4:=(hb4x.cell (p:=⟨B,0,none⟩) (Nat.lt_of_lt_of_le HKB.out.lt hb3x.size)).trans s3;clear HFM;(try simp only [Act.put]))
    |(have gg:=HRW;clear gg;refine step_callH (by rfl) Tryz.func59 (by kernel_rfl) (by kernel_rfl) _ _ (by rfl) [.slice la n lc,.slice (some ⟨ob,oo,none⟩) N oc,.int .i64 (i:Int)] (by rfl) (.string (bOf R)) _ (HRW.out _ (by exact HBW.out.drew)) ?_;intro w3 hb3x;have s3:=(hb3x.cell (p:=⟨B,0,none⟩) HKB.out.lt).trans n0;clear HRW;(try simp only [Act.put,List.getElem_toArray,List.getElem_cons_succ,List.getElem_cons_zero,List.setIfInBounds_toArray,List.set_cons_zero,List.set_cons_succ]))))
   |fail
   all_goals
    go_wp2_with fail
    go_meet
    case rel=>exact⟨rfl,((Below.refl _ W).drew).trans (hb3x.trans (hb4x.mono hb3x.size))⟩
  |true=>
   cases b2 with
   |false=>
    first
    |(go_region_held_law (fun W'=>W'.cell? ⟨B,0,none⟩=some (.int .i64 1)) (with_reducible (first|exact e0|exact s3|exact s4)) (first
     |(have gg:=HNS;have gg2:=hb4x;clear gg gg2;refine step_callH (by rfl) Tryz.func53 (by kernel_rfl) (by kernel_rfl) _ _ (by rfl) [.int .i64 1] (by rfl) (.bool _) _ (HNS.out _) ?_;intro w5 h5x;obtain rfl:=h5x;clear HNS;have h5y:=trivial;(try simp only [Act.put,List.getElem_toArray,List.getElem_cons_succ,List.getElem_cons_zero,List.setIfInBounds_toArray,List.set_cons_zero,List.set_cons_succ]))
     |(have gg:=HFM;have gg2:=hb3x;clear gg gg2;refine step_callH (by rfl) Tryz.func58 (by kernel_rfl) (by kernel_rfl) _ _ (by rfl) [.int .i64 1,.string (bOf R)] (by rfl) (.bool _) _ (HFM.out _) ?_;intro w4 hb4x;have s4:=(hb4x.cell (p:=⟨B,0,none⟩) (Nat.lt_of_lt_of_le HKB.out.lt hb3x.size)).trans s3;clear HFM;(try simp only [Act.put,List.getElem_toArray,List.getElem_cons_succ,List.getElem_cons_zero,List.setIfInBounds_toArray,List.set_cons_zero,List.set_cons_succ]))
     |(have gg:=HRW;clear gg;refine step_callH (by rfl) Tryz.func59 (by kernel_rfl) (by kernel_rfl) _ _ (by rfl) [.slice la n lc,.slice (some ⟨ob,oo,none⟩) N oc,.int .i64 (i:Int)] (by rfl) (.string (bOf R)) _ (HRW.out _ (by exact HBW.out.drew)) ?_;intro w3 hb3x;have s3:=(hb3x.cell (p:=⟨B,0,none⟩) HKB.out.lt).trans n0;clear HRW;(try simp only [Act.put,List.getElem_toArray,List.getElem_cons_succ,List.getElem_cons_zero,List.setIfInBounds_toArray,List.set_cons_zero,List.set_cons_succ]))))
    |fail
    all_goals
     go_wp2_with fail
     go_meet
     case rel=>exact⟨rfl,((Below.refl _ W).drew).trans (hb3x.trans (hb4x.mono hb3x.size))⟩
   |true=>
    first
    |(go_region_held_law (fun W'=>W'.cell? ⟨B,0,none⟩=some (.int .i64 1)) (with_reducible (first|exact e0|exact s3|exact s4)) (first
     |(have gg:=HDP;have gg2:=h5y;clear gg gg2;refine step_callH (by rfl) Tryz.func60 (by kernel_rfl) (by kernel_rfl) _ _ (by rfl) [.slice (some ⟨ob,oo,none⟩) N oc,.int .i64 (i:Int)] (by rfl) (.int .i64 (d:Int)) _ (HDP.out _ (by exact((HBW.out.drew).trans (hb3x.mono HBW.out.size)).trans (hb4x.mono (Nat.le_trans HBW.out.size hb3x.size)))) ?_;intro w6 h6x;obtain rfl:=h6x;clear HDP;(try simp only [Act.put,List.getElem_toArray,List.getElem_cons_succ,List.getElem_cons_zero,List.setIfInBounds_toArray,List.set_cons_zero,List.set_cons_succ]))
     |(have gg:=HNS;have gg2:=hb4x;clear gg gg2;refine step_callH (by rfl) Tryz.func53 (by kernel_rfl) (by kernel_rfl) _ _ (by rfl) [.int .i64 1] (by rfl) (.bool _) _ (HNS.out _) ?_;intro w5 h5x;obtain rfl:=h5x;clear HNS;have h5y:=trivial;(try simp only [Act.put,List.getElem_toArray,List.getElem_cons_succ,List.getElem_cons_zero,List.setIfInBounds_toArray,List.set_cons_zero,List.set_cons_succ]))
     |(have gg:=HFM;have gg2:=hb3x;clear gg gg2;refine step_callH (by rfl) Tryz.func58 (by kernel_rfl) (by kernel_rfl) _ _ (by rfl) [.int .i64 1,.string (bOf R)] (by rfl) (.bool _) _ (HFM.out _) ?_;intro w4 hb4x;have s4:=(hb4x.cell (p:=⟨B,0,none⟩) (Nat.lt_of_lt_of_le HKB.out.lt hb3x.size)).trans s3;clear HFM;(try simp only [Act.put,List.getElem_toArray,List.getElem_cons_succ,List.getElem_cons_zero,List.setIfInBounds_toArray,List.set_cons_zero,List.set_cons_succ]))
     |(have gg:=HRW;clear gg;refine step_callH (by rfl) Tryz.func59 (by kernel_rfl) (by kernel_rfl) _ _ (by rfl) [.slice la n lc,.slice (some ⟨ob,oo,none⟩) N oc,.int .i64 (i:Int)] (by rfl) (.string (bOf R)) _ (HRW.out _ (by exact HBW.out.drew)) ?_;intro w3 hb3x;have s3:=(hb3x.cell (p:=⟨B,0,none⟩) HKB.out.lt).trans n0;clear HRW;(try simp only [Act.put,List.getElem_toArray,List.getElem_cons_succ,List.getElem_cons_zero,List.setIfInBounds_toArray,List.set_cons_zero,List.set_cons_succ]))))
    |fail
    all_goals
     go_wp2_with fail
     go_meet
     case rel=>exact⟨rfl,((Below.refl _ W).drew).trans (hb3x.trans (hb4x.mono hb3x.size))⟩
 case rest=>
  obtain⟨rfl,hbc⟩:=hcut
  have HBC:=Lib.hid (HBW.out.trans (hbc.mono HBW.out.size))
  have n0:=(hbc.cell (p:=⟨B,0,none⟩) HKB.out.lt).trans n0
  have n1:=(hbc.cell (p:=⟨B,1,none⟩) HKB.out.lt).trans n1
  have n2:=(hbc.cell (p:=⟨B,2,none⟩) HKB.out.lt).trans n2
  have HKC:=Lib.hid (HKB.out.below hbc)
  clear hbc
  obtain⟨bv,hv⟩:∃b,(!b1||(b2 && b3))=b:=⟨_,rfl⟩
  rw [hv]
  cases bv with
  |true=>
   clear hv
   go_wp2
   go_ret
   exact⟨FtQ.no,HBC.out⟩
  |false=>
   have hF:formF 1 (bOf (rowF (sgA n lv) nv N i))=true∧(nsF 1=true→depF nv i<200):=by
    rw [HF1.out.1,HF1.out.2,HF2.out.1,HF2.out.2.1]
    cases b1 with
    |false=>cases hv
    |true=>
     refine⟨rfl,fun g=>?_⟩
     rw [g]at hv
     have h3:b3=false:=by simpa using hv
     have h4:=HF2.out.2.2
     rw [h3]at h4
     have:=of_decide_eq_false h4
     omega
   have HF:=Lib.hid hF
   clear hv hF
   have hfr:=first12_any wc la n lc lv (HC.out.row.below HBC.out) (some ⟨ob,oo,none⟩) N oc nv (HC.out.nrow.below HBC.out) HC.out.rt i HC.out.i (Nat.le_trans HC.out.N (by omega)) (Nat.le_trans HC.out.n (by omega))
   have hws:=HC.out.ws
   have hwx:=fsLf_s lv nv N i
   obtain⟨Q,hQ⟩:∃Q,fsLf lv nv N i=Q:=⟨_,rfl⟩
   rw [hQ]at hfr hws hwx
   obtain⟨wk,ws,wf,wt⟩:=Q
   unfold aggF at hfr
   simp only at hfr hws hwx
   have hfld:∀X,(Instr.field 37 (.agg #[.int .i64 wk,.string ws,.int .i64 wf,.int .i64 wt]) 1).run Tryz.prog X=.ok (.string ws) X:=fun X=>by kernel_rfl
   have HFR:=Lib.hid hfr
   have HWX:=Lib.hid hwx
   clear hfr hwx hQ
   go_wp2_with fail
   refine HFR.out.mono ?_
   rintro e wd ⟨rfl,hbd⟩
   have HBD:=Lib.hid (HBC.out.trans (hbd.mono HBC.out.size))
   have n0:=(hbd.cell (p:=⟨B,0,none⟩) HKC.out.lt).trans n0
   have n1:=(hbd.cell (p:=⟨B,1,none⟩) HKC.out.lt).trans n1
   have n2:=(hbd.cell (p:=⟨B,2,none⟩) HKC.out.lt).trans n2
   clear hbd HFR
   go_wp2
   go_ret
   exact⟨⟨true,rfl,fun _=>⟨HF.out,trivial⟩⟩,HBD.out⟩
set_option maxRecDepth 100000 in
set_option maxHeartbeats 8000000 in
theorem fits_g (hC:FtC w la n lc lv oa N oc nv i) (pk:Int) (pf pt:Nat) (pu:Int) (hx:nv i=⟨pk,pf,pt,pu⟩) (h1:pk≠1) (h2:pf≠pt) (h6:pk≠6) (h7:pk≠7):
  Calls Tryz.prog 37 #[.slice la n lc,.slice oa N oc,.int .i64 (i:Int)] w fun e w'=>FtQ n lv N nv i pk (FtT n lv N nv i pk pf pt) e∧Below w.heap.size w w':=by
 obtain⟨ob,oo,hoa,hob,c0,c1,c2,c3⟩:=hC.nrow i hC.i
 rw [hx]at c0 c1 c2 c3
 simp only at c0 c1 c2 c3
 subst hoa
 have HC:=Lib.hid hC
 have hB:=((Below.refl w.heap.size w).alloc (Nat.le_refl _) (.cells #[.int .i64 0,.int .i64 0,.int .i64 0,.int .i64 0] 32))
 have m0:=(hB.cell (p:=⟨ob,oo+i*4,none⟩) hob).trans c0
 have m1:=(hB.cell (p:=⟨ob,oo+i*4+1,none⟩) hob).trans c1
 have m2:=(hB.cell (p:=⟨ob,oo+i*4+2,none⟩) hob).trans c2
 have m3:=(hB.cell (p:=⟨ob,oo+i*4+3,none⟩) hob).trans c3
 have hi:=hC.i
 have hN:=hC.N
 have q0:(0:Int)≤(i:Int):=by omega
 have q1:(i:Int)<(N:Int):=by omega
 have hfz:=hC.f0 i hC.i
 rw [hx]at hfz
 simp only at hfz
 have HFZ:=Lib.hid hfz
 have HX:=Lib.hid hx
 clear hC hx hfz
 go_enter Tryz.func37,Tryz.ntmps37
 go_upto_region 2 with fail
 obtain⟨W,hW⟩:∃X,w.alloc (.cells #[.int .i64 pk,.int .i64 (pf:Int),.int .i64 (pt:Int),.int .i64 pu] 32)=X:=⟨_,rfl⟩
 have kB:=Blk.new w #[.int .i64 pk,.int .i64 (pf:Int),.int .i64 (pt:Int),.int .i64 pu] 32
 have hB2:=(Below.refl w.heap.size w).alloc (Nat.le_refl _) (.cells #[.int .i64 pk,.int .i64 (pf:Int),.int .i64 (pt:Int),.int .i64 pu] 32)
 rw [hW]at kB hB2 ⊢
 have HBW:=Lib.hid hB2
 obtain⟨B,hBB⟩:∃B,w.heap.size=B:=⟨_,rfl⟩
 have HKB:=Lib.hid (hBB▸kB)
 rw [hBB]
 have n0:=HKB.out.cell 0
 have n1:=HKB.out.cell 1
 have n2:=HKB.out.cell 2
 have n3:=HKB.out.cell 3
 simp only [List.getElem?_toArray,List.getElem?_cons_zero,List.getElem?_cons_succ]at n0 n1 n2 n3
 clear hW kB hB2 m0 m1 m2 m3 c0 c1 c2 c3 hB
 have u1:(pk !=1)=true:=by simpa using h1
 have u2:((pf:Int)==(pt:Int))=false:=by simp;omega
 have u6:(pk==6)=false:=by simpa using h6
 have u7:(pk==7)=false:=by simpa using h7
 have H2:=Lib.hid h2
 clear h1 h2 h6 h7
 have HRW:=Lib.hid (fun W' (h:Below w.heap.size w W')=>row12_any W' la n lc lv (HC.out.row.below h) HC.out.sml (some ⟨ob,oo,none⟩) N oc nv (HC.out.nrow.below h) HC.out.rt i HC.out.i (Nat.le_trans HC.out.N (by omega)) (Nat.le_trans HC.out.n (by omega)))
 have HDP:=Lib.hid (fun W' (h:Below w.heap.size w W')=>deep12_any W' (some ⟨ob,oo,none⟩) N oc nv (HC.out.nrow.below h) HC.out.rt.sp i HC.out.i (Nat.le_trans HC.out.N (by omega)))
 have HNS:=Lib.hid (fun W'=>nests12_any W' pk)
 obtain⟨R,hR⟩:∃R,rowF (sgA n lv) nv N i=R:=⟨_,rfl⟩
 have hRl:=HC.out.rl
 rw [hR]at HRW hRl
 have HFM:=Lib.hid (fun W'=>pform_any W' pk (bOf R) (by omega))
 obtain⟨b1,hb1⟩:∃b,formF pk (bOf R)=b:=⟨_,rfl⟩
 obtain⟨b2,hb2⟩:∃b,nsF pk=b:=⟨_,rfl⟩
 obtain⟨d,hd⟩:∃d,depF nv i=d:=⟨_,rfl⟩
 obtain⟨b3,hb3⟩:∃b,decide ((200:Int)≤(d:Int))=b:=⟨_,rfl⟩
 rw [hb1]at HFM
 rw [hb2]at HNS
 rw [hd]at HDP
 have HF1:=Lib.hid (And.intro hR hb1)
 have HF2:=Lib.hid (And.intro hb2 (And.intro hd hb3))
 clear hR hRl hb1 hb2 hd
 go_upto_region 8 with fail
 go_cut [94]from 76 to 94 (fun v94 wx=>v94=.bool (!b1||(b2 && b3))∧Below W.heap.size W wx)
 case first=>
  have e0:(W.drew).cell? ⟨B,0,none⟩=some (.int .i64 pk):=n0
  have e0:(W.drew).cell? ⟨B,0,none⟩=some (.int .i64 pk):=n0
  cases b1 with
  |false=>
   first
   |(go_region_law (first
    |(have gg:=HFM;have gg2:=hb3x;clear gg gg2;refine step_callH (by rfl) Tryz.func58 (by kernel_rfl) (by kernel_rfl) _ _ (by rfl) [.int .i64 pk,.string (bOf R)] (by rfl) (.bool _) _ (HFM.out _) ?_;intro w4 hb4x;have s4:=(hb4x.cell (p:=⟨B,0,none⟩) (Nat.lt_of_lt_of_le HKB.out.lt hb3x.size)).trans s3;clear HFM;(try simp only [Act.put]))
    |(have gg:=HRW;clear gg;refine step_callH (by rfl) Tryz.func59 (by kernel_rfl) (by kernel_rfl) _ _ (by rfl) [.slice la n lc,.slice (some ⟨ob,oo,none⟩) N oc,.int .i64 (i:Int)] (by rfl) (.string (bOf R)) _ (HRW.out _ (by exact HBW.out.drew)) ?_;intro w3 hb3x;have s3:=(hb3x.cell (p:=⟨B,0,none⟩) HKB.out.lt).trans n0;clear HRW;(try simp only [Act.put,List.getElem_toArray,List.getElem_cons_succ,List.getElem_cons_zero,List.setIfInBounds_toArray,List.set_cons_zero,List.set_cons_succ]))))
   |fail
   all_goals
    go_wp2_with fail
    go_meet
    case rel=>exact⟨rfl,((Below.refl _ W).drew).trans (hb3x.trans (hb4x.mono hb3x.size))⟩
  |true=>
   cases b2 with
   |false=>
    first
    |(go_region_held_law (fun W'=>W'.cell? ⟨B,0,none⟩=some (.int .i64 pk)) (with_reducible (first|exact e0|exact s3|exact s4)) (first
     |(have gg:=HNS;have gg2:=hb4x;clear gg gg2;refine step_callH (by rfl) Tryz.func53 (by kernel_rfl) (by kernel_rfl) _ _ (by rfl) [.int .i64 pk] (by rfl) (.bool _) _ (HNS.out _) ?_;intro w5 h5x;obtain rfl:=h5x;clear HNS;have h5y:=trivial;(try simp only [Act.put,List.getElem_toArray,List.getElem_cons_succ,List.getElem_cons_zero,List.setIfInBounds_toArray,List.set_cons_zero,List.set_cons_succ]))
     |(have gg:=HFM;have gg2:=hb3x;clear gg gg2;refine step_callH (by rfl) Tryz.func58 (by kernel_rfl) (by kernel_rfl) _ _ (by rfl) [.int .i64 pk,.string (bOf R)] (by rfl) (.bool _) _ (HFM.out _) ?_;intro w4 hb4x;have s4:=(hb4x.cell (p:=⟨B,0,none⟩) (Nat.lt_of_lt_of_le HKB.out.lt hb3x.size)).trans s3;clear HFM;(try simp only [Act.put,List.getElem_toArray,List.getElem_cons_succ,List.getElem_cons_zero,List.setIfInBounds_toArray,List.set_cons_zero,List.set_cons_succ]))
     |(have gg:=HRW;clear gg;refine step_callH (by rfl) Tryz.func59 (by kernel_rfl) (by kernel_rfl) _ _ (by rfl) [.slice la n lc,.slice (some ⟨ob,oo,none⟩) N oc,.int .i64 (i:Int)] (by rfl) (.string (bOf R)) _ (HRW.out _ (by exact HBW.out.drew)) ?_;intro w3 hb3x;have s3:=(hb3x.cell (p:=⟨B,0,none⟩) HKB.out.lt).trans n0;clear HRW;(try simp only [Act.put,List.getElem_toArray,List.getElem_cons_succ,List.getElem_cons_zero,List.setIfInBounds_toArray,List.set_cons_zero,List.set_cons_succ]))))
    |fail
    all_goals
     go_wp2_with fail
     go_meet
     case rel=>exact⟨rfl,((Below.refl _ W).drew).trans (hb3x.trans (hb4x.mono hb3x.size))⟩
   |true=>
    first
    |(go_region_held_law (fun W'=>W'.cell? ⟨B,0,none⟩=some (.int .i64 pk)) (with_reducible (first|exact e0|exact s3|exact s4)) (first
     |(have gg:=HDP;have gg2:=h5y;clear gg gg2;refine step_callH (by rfl) Tryz.func60 (by kernel_rfl) (by kernel_rfl) _ _ (by rfl) [.slice (some ⟨ob,oo,none⟩) N oc,.int .i64 (i:Int)] (by rfl) (.int .i64 (d:Int)) _ (HDP.out _ (by exact((HBW.out.drew).trans (hb3x.mono HBW.out.size)).trans (hb4x.mono (Nat.le_trans HBW.out.size hb3x.size)))) ?_;intro w6 h6x;obtain rfl:=h6x;clear HDP;(try simp only [Act.put,List.getElem_toArray,List.getElem_cons_succ,List.getElem_cons_zero,List.setIfInBounds_toArray,List.set_cons_zero,List.set_cons_succ]))
     |(have gg:=HNS;have gg2:=hb4x;clear gg gg2;refine step_callH (by rfl) Tryz.func53 (by kernel_rfl) (by kernel_rfl) _ _ (by rfl) [.int .i64 pk] (by rfl) (.bool _) _ (HNS.out _) ?_;intro w5 h5x;obtain rfl:=h5x;clear HNS;have h5y:=trivial;(try simp only [Act.put,List.getElem_toArray,List.getElem_cons_succ,List.getElem_cons_zero,List.setIfInBounds_toArray,List.set_cons_zero,List.set_cons_succ]))
     |(have gg:=HFM;have gg2:=hb3x;clear gg gg2;refine step_callH (by rfl) Tryz.func58 (by kernel_rfl) (by kernel_rfl) _ _ (by rfl) [.int .i64 pk,.string (bOf R)] (by rfl) (.bool _) _ (HFM.out _) ?_;intro w4 hb4x;have s4:=(hb4x.cell (p:=⟨B,0,none⟩) (Nat.lt_of_lt_of_le HKB.out.lt hb3x.size)).trans s3;clear HFM;(try simp only [Act.put,List.getElem_toArray,List.getElem_cons_succ,List.getElem_cons_zero,List.setIfInBounds_toArray,List.set_cons_zero,List.set_cons_succ]))
     |(have gg:=HRW;clear gg;refine step_callH (by rfl) Tryz.func59 (by kernel_rfl) (by kernel_rfl) _ _ (by rfl) [.slice la n lc,.slice (some ⟨ob,oo,none⟩) N oc,.int .i64 (i:Int)] (by rfl) (.string (bOf R)) _ (HRW.out _ (by exact HBW.out.drew)) ?_;intro w3 hb3x;have s3:=(hb3x.cell (p:=⟨B,0,none⟩) HKB.out.lt).trans n0;clear HRW;(try simp only [Act.put,List.getElem_toArray,List.getElem_cons_succ,List.getElem_cons_zero,List.setIfInBounds_toArray,List.set_cons_zero,List.set_cons_succ]))))
    |fail
    all_goals
     go_wp2_with fail
     go_meet
     case rel=>exact⟨rfl,((Below.refl _ W).drew).trans (hb3x.trans (hb4x.mono hb3x.size))⟩
 case rest=>
  obtain⟨rfl,hbc⟩:=hcut
  have HBC:=Lib.hid (HBW.out.trans (hbc.mono HBW.out.size))
  have n0:=(hbc.cell (p:=⟨B,0,none⟩) HKB.out.lt).trans n0
  have n1:=(hbc.cell (p:=⟨B,1,none⟩) HKB.out.lt).trans n1
  have n2:=(hbc.cell (p:=⟨B,2,none⟩) HKB.out.lt).trans n2
  have HKC:=Lib.hid (HKB.out.below hbc)
  clear hbc
  obtain⟨bv,hv⟩:∃b,(!b1||(b2 && b3))=b:=⟨_,rfl⟩
  rw [hv]
  cases bv with
  |true=>
   clear hv
   go_wp2
   go_ret
   exact⟨FtQ.no,HBC.out⟩
  |false=>
   have hF:formF pk (bOf (rowF (sgA n lv) nv N i))=true∧(nsF pk=true→depF nv i<200):=by
    rw [HF1.out.1,HF1.out.2,HF2.out.1,HF2.out.2.1]
    cases b1 with
    |false=>cases hv
    |true=>
     refine⟨rfl,fun g=>?_⟩
     rw [g]at hv
     have h3:b3=false:=by simpa using hv
     have h4:=HF2.out.2.2
     rw [h3]at h4
     have:=of_decide_eq_false h4
     omega
   have HF:=Lib.hid hF
   clear hv hF
   have hfr:=first12_any wc la n lc lv (HC.out.row.below HBC.out) (some ⟨ob,oo,none⟩) N oc nv (HC.out.nrow.below HBC.out) HC.out.rt i HC.out.i (Nat.le_trans HC.out.N (by omega)) (Nat.le_trans HC.out.n (by omega))
   have hws:=HC.out.ws
   have hwx:=fsLf_s lv nv N i
   obtain⟨Q,hQ⟩:∃Q,fsLf lv nv N i=Q:=⟨_,rfl⟩
   rw [hQ]at hfr hws hwx
   obtain⟨wk,ws,wf,wt⟩:=Q
   unfold aggF at hfr
   simp only at hfr hws hwx
   have hfld:∀X,(Instr.field 37 (.agg #[.int .i64 wk,.string ws,.int .i64 wf,.int .i64 wt]) 1).run Tryz.prog X=.ok (.string ws) X:=fun X=>by kernel_rfl
   have HFR:=Lib.hid hfr
   have HWX:=Lib.hid hwx
   clear hfr hwx hQ
   go_wp2_with fail
   refine HFR.out.mono ?_
   rintro e wd ⟨rfl,hbd⟩
   have HBD:=Lib.hid (HBC.out.trans (hbd.mono HBC.out.size))
   have n0:=(hbd.cell (p:=⟨B,0,none⟩) HKC.out.lt).trans n0
   have n1:=(hbd.cell (p:=⟨B,1,none⟩) HKC.out.lt).trans n1
   have n2:=(hbd.cell (p:=⟨B,2,none⟩) HKC.out.lt).trans n2
   clear hbd HFR
   by_cases h5:pk=5
   ·subst h5
    obtain⟨f0,f1,f2⟩:=HFZ.out
    have hfn:pf<n:=by have:=H2.out;omega
    have r0:(0:Int)≤(pf:Int):=by omega
    have r1:(pf:Int)<(n:Int):=by omega
    obtain⟨lb,lo,hla,hlb,l0,l1,l2,l3⟩:=(HC.out.row.below HBD.out) pf hfn
    subst hla
    have hls:=HC.out.sml pf hfn
    have HLSM:=Lib.hid hls
    have HAS:=Lib.hid (fun W=>refassign_any ws W (by omega))
    obtain⟨z,hz⟩:∃z,assignN ws=z:=⟨_,rfl⟩
    rw [hz]at HAS
    have hrs:=fun W=>refreserved_any (lv pf).s W hls
    obtain⟨Q,hQ⟩:∃Q,lv pf=Q:=⟨_,rfl⟩
    rw [hQ]at l0 l1 l2 l3 hrs
    obtain⟨lk,ls,lf,lt⟩:=Q
    simp only at l0 l1 l2 l3 hrs
    obtain⟨b5,hb5⟩:∃b,resB ls=b:=⟨_,rfl⟩
    rw [hb5]at hrs
    have HRS:=Lib.hid hrs
    have HQ:=Lib.hid (And.intro hQ (And.intro hz hb5))
    clear hQ hz hb5 hls hrs
    have hfin:z=0→(lk=6→b5=false)→∀b:Bool,(b=true→(pt=n∨((lv pt).k≠6∧(lv pt).k≠5∧sgA n lv pt≠60)))→∀(wz:World),Below w.heap.size w wz→FtQ n lv N nv i 5 (FtT n lv N nv i 5 pf pt) (.returned (.bool b))∧Below w.heap.size w wz:=by
     intro h1 h2 b h3 wz h4
     refine⟨⟨b,rfl,fun h=>⟨HF.out,fun _=>⟨?_,?_,h3 h⟩,fun h=>absurd h (by decide),fun h=>absurd h (by decide),fun h=>absurd h (by decide)⟩⟩,h4⟩
     ·rw [HQ.out.1]
      intro g
      rw [HQ.out.2.2]
      exact h2 g
     ·rw [←HWX.out,HQ.out.2.1]
      exact h1
    have HFIN:=Lib.hid hfin
    clear hfin
    have hz0:∀b:Bool,decide ((0:Int)<(z:Int))=b→(b=false→z=0):=fun b h g=>by
     rw [g]at h
     have:=of_decide_eq_false h
     omega
    obtain⟨bz,hbz⟩:∃b,decide ((0:Int)<(z:Int))=b:=⟨_,rfl⟩
    have hbn:decide (0<z)=bz:=by rw [←hbz];congr 1;apply propext;omega
    have HZ0:=Lib.hid (hz0 bz hbz)
    clear hz0
    have ht1:pt=n∨pt<n:=by omega
    by_cases h6:lk=6
    ·subst h6
     go_wp2_with fail
     refine(HRS.out _).mono ?_
     rintro e we ⟨rfl,rfl⟩
     cases b5 with
     |true=>
      go_wp2
      go_ret
      exact⟨FtQ.no,HBD.out⟩
     |false=>
      go_wp2_with fail
      refine(HAS.out _).mono ?_
      rintro e we2 ⟨rfl,rfl⟩
      cases bz with
      |true=>
       go_wp2
       go_ret
       exact⟨FtQ.no,HBD.out⟩
      |false=>
       have HG:=Lib.hid (HFIN.out (HZ0.out rfl) (by first|exact fun _=>rfl|trivial|simp))
       clear HFIN HZ0
       rcases ht1 with ht1|ht1
       ·have g1:((pt:Int)==(n:Int))=true:=by rw [beq_iff_eq];omega
        go_wp2
        go_ret
        exact HG.out true (fun _=> .inl ht1) _ HBD.out
       ·have g1:((pt:Int)==(n:Int))=false:=by rw [beq_eq_false_iff_ne];omega
        have y0:(0:Int)≤(pt:Int):=by omega
        have y1:(pt:Int)<(n:Int):=by omega
        obtain⟨tb,to',hta,htb,t0,t1x,t2x,t3x⟩:=(HC.out.row.below HBD.out) pt ht1
        cases hta
        have hsg:=refsign_any we2 (lv pt) (HC.out.sml pt ht1)
        have hss:sgB (lv pt).k (lv pt).s=bOf [sgA n lv pt]:=by unfold sgB sgA lfA;rw [if_pos ht1];rfl
        rw [hss]at hsg
        have hs256:sgA n lv pt<256:=sgn_lt _ _
        have c60:=bOf_one hs256 60
        obtain⟨x,hxx⟩:∃x,sgA n lv pt=x:=⟨_,rfl⟩
        obtain⟨S,hS⟩:∃S,bOf [x]=S:=⟨_,rfl⟩
        rw [hxx]at hsg c60
        rw [hS]at hsg c60
        obtain⟨b8,hb8⟩:∃b,decide (x=(60:UInt8).toNat)=b:=⟨_,rfl⟩
        rw [hb8]at c60
        have c60n:(S.toList !=[60])=!b8:=by rw [←c60];rfl
        obtain⟨Q2,hQ2⟩:∃Q,lv pt=Q:=⟨_,rfl⟩
        rw [hQ2]at t0 t1x t2x t3x hsg
        obtain⟨tk,ts,tf,tt⟩:=Q2
        unfold aggF at hsg
        simp only at t0 t1x t2x t3x hsg
        have HSG:=Lib.hid hsg
        have HXX:=Lib.hid (And.intro hQ2 (And.intro hxx hb8))
        clear hsg hss hs256 hxx hS hb8 hQ2
        by_cases k6:tk=6
        ·subst k6
         go_wp2
         go_ret
         exact HG.out false (fun h=>by cases h) _ HBD.out
        have d6b:(tk==6)=false:=by simpa using k6
        have d6n:(tk !=6)=true:=by simpa using k6
        by_cases k5:tk=5
        ·subst k5
         clear k6
         go_wp2
         go_ret
         exact HG.out false (fun h=>by cases h) _ HBD.out
        have d5b:(tk==5)=false:=by simpa using k5
        have d5n:(tk !=5)=true:=by simpa using k5
        have HK56:=Lib.hid (And.intro k6 k5)
        clear k5 k6
        go_wp2_with fail
        refine HSG.out.mono ?_
        rintro e we3 ⟨rfl,hbe⟩
        have HBE:=Lib.hid (HBD.out.trans (hbe.mono HBD.out.size))
        clear hbe HSG
        go_wp2
        go_ret
        refine HG.out (!b8) (fun h=> .inr ⟨by rw [HXX.out.1];exact HK56.out.1,by rw [HXX.out.1];exact HK56.out.2,?_⟩) _ HBE.out
        rw [HXX.out.2.1]
        intro g
        have g2:=HXX.out.2.2
        rw [g]at g2
        rw [←g2]at h
        exact absurd h (by decide)
    ·have d6:(lk==6)=false:=by simpa using h6
     have H6:=Lib.hid h6
     clear h6
     go_wp2_with fail
     refine(HAS.out _).mono ?_
     rintro e we2 ⟨rfl,rfl⟩
     cases bz with
     |true=>
      go_wp2
      go_ret
      exact⟨FtQ.no,HBD.out⟩
     |false=>
      have HG:=Lib.hid (HFIN.out (HZ0.out rfl) (fun g=>absurd g H6.out))
      clear HFIN HZ0
      rcases ht1 with ht1|ht1
      ·have g1:((pt:Int)==(n:Int))=true:=by rw [beq_iff_eq];omega
       go_wp2
       go_ret
       exact HG.out true (fun _=> .inl ht1) _ HBD.out
      ·have g1:((pt:Int)==(n:Int))=false:=by rw [beq_eq_false_iff_ne];omega
       have y0:(0:Int)≤(pt:Int):=by omega
       have y1:(pt:Int)<(n:Int):=by omega
       obtain⟨tb,to',hta,htb,t0,t1x,t2x,t3x⟩:=(HC.out.row.below HBD.out) pt ht1
       cases hta
       have hsg:=refsign_any we2 (lv pt) (HC.out.sml pt ht1)
       have hss:sgB (lv pt).k (lv pt).s=bOf [sgA n lv pt]:=by unfold sgB sgA lfA;rw [if_pos ht1];rfl
       rw [hss]at hsg
       have hs256:sgA n lv pt<256:=sgn_lt _ _
       have c60:=bOf_one hs256 60
       obtain⟨x,hxx⟩:∃x,sgA n lv pt=x:=⟨_,rfl⟩
       obtain⟨S,hS⟩:∃S,bOf [x]=S:=⟨_,rfl⟩
       rw [hxx]at hsg c60
       rw [hS]at hsg c60
       obtain⟨b8,hb8⟩:∃b,decide (x=(60:UInt8).toNat)=b:=⟨_,rfl⟩
       rw [hb8]at c60
       have c60n:(S.toList !=[60])=!b8:=by rw [←c60];rfl
       obtain⟨Q2,hQ2⟩:∃Q,lv pt=Q:=⟨_,rfl⟩
       rw [hQ2]at t0 t1x t2x t3x hsg
       obtain⟨tk,ts,tf,tt⟩:=Q2
       unfold aggF at hsg
       simp only at t0 t1x t2x t3x hsg
       have HSG:=Lib.hid hsg
       have HXX:=Lib.hid (And.intro hQ2 (And.intro hxx hb8))
       clear hsg hss hs256 hxx hS hb8 hQ2
       by_cases k6:tk=6
       ·subst k6
        go_wp2
        go_ret
        exact HG.out false (fun h=>by cases h) _ HBD.out
       have d6b:(tk==6)=false:=by simpa using k6
       have d6n:(tk !=6)=true:=by simpa using k6
       by_cases k5:tk=5
       ·subst k5
        clear k6
        go_wp2
        go_ret
        exact HG.out false (fun h=>by cases h) _ HBD.out
       have d5b:(tk==5)=false:=by simpa using k5
       have d5n:(tk !=5)=true:=by simpa using k5
       have HK56:=Lib.hid (And.intro k6 k5)
       clear k5 k6
       go_wp2_with fail
       refine HSG.out.mono ?_
       rintro e we3 ⟨rfl,hbe⟩
       have HBE:=Lib.hid (HBD.out.trans (hbe.mono HBD.out.size))
       clear hbe HSG
       go_wp2
       go_ret
       refine HG.out (!b8) (fun h=> .inr ⟨by rw [HXX.out.1];exact HK56.out.1,by rw [HXX.out.1];exact HK56.out.2,?_⟩) _ HBE.out
       rw [HXX.out.2.1]
       intro g
       have g2:=HXX.out.2.2
       rw [g]at g2
       rw [←g2]at h
       exact absurd h (by decide)
   have v5:(pk==5)=false:=by simpa using h5
   by_cases h16:pk=16
   ·subst h16
    obtain⟨b4,hb4⟩:∃b,isNm ws=b:=⟨_,rfl⟩
    have HNM:=Lib.hid (fun W=>refisname_eq ws W (by omega) b4 hb4)
    have HRS:=Lib.hid (fun W=>refreserved_any ws W hws)
    have HB4:=Lib.hid hb4
    clear hb4 h5 v5
    go_wp2_with fail
    refine(HNM.out _).mono ?_
    rintro e we ⟨rfl,rfl⟩
    cases b4 with
    |false=>
     go_wp2
     go_ret
     exact⟨FtQ.no,HBD.out⟩
    |true=>
     go_wp2_with fail
     refine(HRS.out _).mono ?_
     rintro e wf ⟨rfl,rfl⟩
     go_wp2
     go_ret
     exact⟨⟨_,rfl,fun h=>⟨HF.out,fun h=>absurd h (by decide),fun _=>by rw [←HWX.out];exact⟨HB4.out,by simpa using h⟩,fun h=>absurd h (by decide),fun h=>absurd h (by decide)⟩⟩,HBD.out⟩
   have v16:(pk==16)=false:=by simpa using h16
   by_cases h13:pk=13
   ·subst h13
    have HNM:=Lib.hid (fun W=>refisname_any ws W (by omega))
    clear h5 v5 h16 v16
    go_wp2_with fail
    refine(HNM.out _).mono ?_
    rintro e we ⟨rfl,rfl⟩
    go_wp2
    go_ret
    exact⟨⟨_,rfl,fun h=>⟨HF.out,fun h=>absurd h (by decide),fun h=>absurd h (by decide),fun _=>by rw [←HWX.out];exact h,fun h=>absurd h (by decide)⟩⟩,HBD.out⟩
   have v13:(pk==13)=false:=by simpa using h13
   by_cases h15:pk=15
   ·subst h15
    obtain⟨f0,f1,f2⟩:=HFZ.out
    have hfn:pf<n:=by have:=H2.out;omega
    have r0:(0:Int)≤(pf:Int):=by omega
    have r1:(pf:Int)<(n:Int):=by omega
    obtain⟨lb,lo,hla,hlb,l0,l1,l2,l3⟩:=(HC.out.row.below HBD.out) pf hfn
    subst hla
    have hls:=HC.out.sml pf hfn
    have hsg:=refsign_any wd (lv pf) hls
    have hss:sgB (lv pf).k (lv pf).s=bOf [sgA n lv pf]:=by unfold sgB sgA lfA;rw [if_pos hfn];rfl
    rw [hss]at hsg
    have hs256:sgA n lv pf<256:=sgn_lt _ _
    have c40:=bOf_one hs256 40
    obtain⟨x,hxx⟩:∃x,sgA n lv pf=x:=⟨_,rfl⟩
    obtain⟨S,hS⟩:∃S,bOf [x]=S:=⟨_,rfl⟩
    rw [hxx]at hsg c40
    rw [hS]at hsg c40
    obtain⟨b6,hb6⟩:∃b,decide (x=(40:UInt8).toNat)=b:=⟨_,rfl⟩
    rw [hb6]at c40
    obtain⟨Q,hQ⟩:∃Q,lv pf=Q:=⟨_,rfl⟩
    rw [hQ]at l0 l1 l2 l3 hsg
    obtain⟨lk,ls,lf,lt⟩:=Q
    unfold aggF at hsg
    simp only at l0 l1 l2 l3 hsg
    obtain⟨b7,hb7⟩:∃b,(ws.toList==[101,115,97,99])=b:=⟨_,rfl⟩
    have b7n:(ws.toList !=[101,115,97,99])=!b7:=by rw [←hb7];rfl
    have HSG:=Lib.hid hsg
    have HXX:=Lib.hid (And.intro hxx (And.intro hb6 hb7))
    clear hsg hss hs256 hxx hS hb6 hQ hls f0 f1 f2 h5 v5 h16 v16 h13 v13
    go_wp2_with fail
    refine HSG.out.mono ?_
    rintro e we ⟨rfl,hbe⟩
    have HBE:=Lib.hid (HBD.out.trans (hbe.mono HBD.out.size))
    clear hbe HSG
    cases b6 with
    |true=>
     go_wp2
     go_ret
     exact⟨⟨true,rfl,fun _=>⟨HF.out,fun h=>absurd h (by decide),fun h=>absurd h (by decide),fun h=>absurd h (by decide),fun _=> .inl (HXX.out.1.trans (of_decide_eq_true HXX.out.2.1))⟩⟩,HBE.out⟩
    |false=>
     go_wp2
     go_ret
     refine⟨⟨_,rfl,fun h=>⟨HF.out,fun h=>absurd h (by decide),fun h=>absurd h (by decide),fun h=>absurd h (by decide),fun _=> .inr (fun g=>?_)⟩⟩,HBE.out⟩
     rw [←HWX.out]at g
     have g2:=HXX.out.2.2
     rw [Go.ByteArray.toList_eq,g]at g2
     have g3:b7=true:=g2.symm
     rw [g3]at h
     simp at h
   have v15:(pk==15)=false:=by simpa using h15
   have HK:=Lib.hid (And.intro h5 (And.intro h16 (And.intro h13 h15)))
   clear h5 h16 h13 h15
   go_wp2
   go_ret
   exact⟨⟨true,rfl,fun _=>⟨HF.out,fun h=>absurd h HK.out.1,fun h=>absurd h HK.out.2.1,fun h=>absurd h HK.out.2.2.1,fun h=>absurd h HK.out.2.2.2⟩⟩,HBD.out⟩
end
end Go.Proofs.YtkolpaonccmgiaaGreatDoor.Q

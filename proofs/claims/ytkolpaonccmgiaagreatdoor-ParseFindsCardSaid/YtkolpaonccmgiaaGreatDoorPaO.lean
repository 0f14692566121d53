/- What node of a maker of layer 13 (parse) leaves, g -/
import Derived.Test.YtkolpaonccmgiaaGreatDoorSv
set_option linter.unusedVariables false
namespace Go.Proofs.YtkolpaonccmgiaaGreatDoor.Q
set_option linter.unusedSectionVars false
set_option linter.unusedVariables false
open Go.RowKit
def kP (n:Nat) (lv:Nat→Lf) (la:Option Addr) (lc g:Nat):Kd:=⟨n,lv,la,g,fun s nv=>mkC (.slice la n lc) (s.a:Int) (lfA n lv s.a) (sgA n lv s.a) nv s.u (s.d:Int),50⟩
theorem step_app_node {ops:Array Oper} {o:Oper} {a:Act} {w:World} {K:Act→World→Prop} {Q:Exit→Act→World→Prop} {E:Prop} (hgd:o.guard=none) (s x:Operand)
  (ho:o.op=.call { callee:=.builtin .append,args:=#[s,x],argTypes:=#[26,26] })
  (v0:Value) (n0:Nat) (xs0:List Value) (hs:a.eval s=v0) (hown:w.ownsRow 0 32 4 v0 n0 xs0) (b:Nat) (p:Nd)
  (hx:a.eval x=.slice (some ⟨b,0,none⟩) 1 1) (hb:Blk w b (cellN p).toArray 32) (hl:n0≤1000000)
  (h:∀g' c' w',w'.ownsRow 0 32 4 (.slice (some ⟨g',0,none⟩) (n0+1) c') (n0+1) (xs0++cellN p)→w.grownBy w' v0.ownBlock→(v0.ownBlock=some g'∨g'=w.heap.size)→K (a.put o.dst (.slice (some ⟨g',0,none⟩) (n0+1) c')) w'):
  if Region.wanted o (yielded ops a.tmps)=true then Oper.wp Tryz.prog o a w K Q else E:=by
 have hw:Region.wanted o (yielded ops a.tmps)=true:=by simp [Region.wanted,hgd]
 rw [if_pos hw]
 obtain⟨i,hi,hz,hsize,hby⟩:=info_parts infoN
 have hnews:∀j u,(cellN p)[j]?=some u→w.cell? ((⟨b,0,none⟩:Addr).add j)=some u:=by
  intro j u hj
  rw [Addr.add_lit,hb.cell,Nat.zero_add]
  simpa using hj
 obtain⟨v',w',hr',h2,h3,h4,h5⟩:=run_append_own_at (P:=Tryz.prog) w 0 26 o.type 32 i _ 4 32 Tryz.underlying26 hi hz hsize hby rfl (by omega) _ n0 xs0 hown ⟨b,0,none⟩ 1 1 (cellN p) rfl hnews
  (by intro u hu;simp [cellN]at hu;rcases hu with rfl|rfl|rfl|rfl<;>rfl) (by unfold maxLen;omega) (by omega) (Nat.zero_le _)
 unfold Oper.wp execOp
 simp only [ho,resolve,invoke,builtin,Sem.run_bind,Sem.run_pure,Result.andThen_ok,List.map_toArray,List.map_cons,List.map_nil,hs,hx,hr']
 rcases h2.2 with⟨hv,hn⟩|⟨g',c',cur,hv,h6⟩
 ·omega
 ·subst hv
  refine h g' c' w' h2 h3 ?_
  rcases h5 with h5|h5
  ·exact .inl h5.symm
  ·exact .inr (by simpa [Value.ownBlock]using h5)
theorem owns_set {w:World} {base:Nat} {e:TypeId} {size n g cap:Nat} {xs:List Value} (h:w.ownsRow base e size (.slice (some ⟨g,0,none⟩) n cap) n xs) (i:Nat) (u:Value) (hi:i<xs.length):
  (w.setCell ⟨g,i,none⟩ u).ownsRow base e size (.slice (some ⟨g,0,none⟩) n cap) n (xs.set i u):=by
 refine⟨by rw [List.length_set];exact h.1,.inr ?_⟩
 rcases h.2 with⟨h0,_⟩|⟨g',cap',cur,hv,h2,h3,h4,h5,h6,h7⟩
 ·cases h0
 ·cases hv
  refine⟨g,cap,_,rfl,h2,Blk.set (t:=e) h3 i u,h4,h5,by simpa using h6,?_⟩
  rw [Array.toList_setIfInBounds,List.take_set,h7]
theorem mk_more {n:Nat} {lv:Nat→Lf} {la:Option Addr} {lc g:Nat} {w0:World} {P:Nat→Prop} {s:PS} {w X w':World} {nv:Value} {g' c':Nat} {p:Nd} (hM:Mk (kP n lv la lc g) w0 P s w) (hB:Blk w g (mkC (.slice la n lc) (s.a:Int) (lfA n lv s.a) (sgA n lv s.a) nv s.u (s.d:Int)) 50) (h3:nv.ownBlock≠some g) (h4:∀k,nv.ownBlock=some k→¬P k)
  (hX:Below w.heap.size w X) (hgr:X.grownBy w' nv.ownBlock) (hown:w'.ownsRow 0 32 4 (.slice (some ⟨g',0,none⟩) (s.L.length+1) c') (s.L.length+1) (cellsN s.L++cellN p)) (hg:nv.ownBlock=some g'∨w.heap.size≤g'):
  Mk (kP n lv la lc g) w0 P ⟨s.a,s.L++ [p],s.u,s.d⟩ (w'.setCell ⟨g,7,none⟩ (.slice (some ⟨g',0,none⟩) (s.L.length+1) c')):=by
 have F1:Frm (fun k=>nv.ownBlock=some k) w w':=(Frm.of_below hX).grown hgr (fun k hk=> .inl hk)
 have F2:Frm (fun k=>k=g) w' (w'.setCell ⟨g,7,none⟩ (.slice (some ⟨g',0,none⟩) (s.L.length+1) c')):=(Frm.refl _ _).put _ _
 have hgl:g<w.heap.size:=hB.lt
 have hgf:g'≠g:=by
  rintro rfl
  rcases hg with h|h
  ·exact h3 h
  ·omega
 have hgP:¬P g':=by
  rcases hg with h|h
  ·exact h4 g' h
  ·intro hp
   have:=hM.st.lt g' hp
   have:=hM.frm.size
   omega
 refine⟨hM.st,(hM.frm.trans F1 (fun i _ hi=>h4 i hi)).trans F2 (fun i _ hi hp=>hM.npg (hi▸hp)),hM.ale,hM.npg,.slice (some ⟨g',0,none⟩) (s.L.length+1) c',?_,?_,?_,?_⟩
 ·have:=(hB.frm F1 h3).set 7 (.slice (some ⟨g',0,none⟩) (s.L.length+1) c')
  exact this
 ·have e:cellsN (s.L++ [p])=cellsN s.L++cellN p:=by rw [cellsN_append];simp [cellsN]
  show World.ownsRow _ 0 32 4 _ (s.L++ [p]).length (cellsN (s.L++ [p]))
  rw [e,List.length_append]
  exact own_frm F2 hown (fun k hk=>by simp [Value.ownBlock]at hk;omega)
 ·intro e
  change(Value.slice (some ⟨g',0,none⟩) (s.L.length+1) c').ownBlock=some g at e
  exact hgf (by simpa [Value.ownBlock]using e)
 ·intro k hk
  have:g'=k:=by simpa [Value.ownBlock]using hk
  exact this▸hgP
theorem mk_end {n:Nat} {lv:Nat→Lf} {la:Option Addr} {lc g:Nat} {w0:World} {P:Nat→Prop} {s:PS} {w:World} {b c z:Nat} {p q:Nd} {v:Value} (hM:Mk (kP n lv la lc g) w0 P s w) (hB:Blk w g (mkC (.slice la n lc) (s.a:Int) (lfA n lv s.a) (sgA n lv s.a) (.slice (some ⟨b,0,none⟩) s.L.length c) s.u (s.d:Int)) 50) (hO:w.ownsRow 0 32 4 (.slice (some ⟨b,0,none⟩) s.L.length c) s.L.length (cellsN s.L)) (hbg:b≠g) (hbP:¬P b)
  (hz:s.L[z]?=some p) (hq:cellN q=(cellN p).set 2 v):Mk (kP n lv la lc g) w0 P ⟨s.a,s.L.set z q,s.u,s.d⟩ (w.setCell ⟨b,z*4+2,none⟩ v):=by
 have hzl:z<s.L.length:=(List.getElem?_eq_some_iff.1 hz).1
 refine⟨hM.st,hM.frm.trans ((Frm.refl (fun k=>k=b) w).put (z*4+2) v) (fun i _ hi hp=>hbP (hi▸hp)),hM.ale,hM.npg,.slice (some ⟨b,0,none⟩) s.L.length c,?_,?_,?_,?_⟩
 ·exact hB.other _ _ (fun e=>hbg e.symm)
 ·show World.ownsRow _ 0 32 4 _ (s.L.set z q).length (cellsN (s.L.set z q))
  rw [cellsN_set hz hq (by omega),List.length_set]
  exact owns_set hO _ _ (by rw [cellsN_length];omega)
 ·intro e
  change(Value.slice (some ⟨b,0,none⟩) s.L.length c).ownBlock=some g at e
  exact hbg (by simpa [Value.ownBlock]using e)
 ·intro k hk
  have:b=k:=by simpa [Value.ownBlock]using hk
  exact this▸hbP
section
variable {n:Nat} {lv:Nat→Lf} {la:Option Addr} {lc g:Nat} {w0:World} {P:Nat→Prop}
set_option maxRecDepth 100000 in
set_option maxHeartbeats 4000000 in
theorem node_any (k:Int) (F:Nat) (first cap:Array Value) (hE:∀(args:Array Value) (W:World),(callFunc F args).run Tryz.prog W=.ok (.enter F args) W) (b:PP) (preb:PS→Prop) (hD:Does (kP n lv la lc g) w0 P F (first++cap) b preb):
  Does (kP n lv la lc g) w0 P 28 #[.pointer (some ⟨g,0,none⟩),.int .i64 k,.func (.func F) first cap] (.node k false b) (fun s=>preb (bgn k false s)∧s.L.length≤900000):=by
 intro w s hM ⟨hpre,hlen⟩
 obtain⟨nv,hB,hO,h3,h4⟩:=hM.own
 obtain⟨oa,oc,rfl⟩:=owns_slice' hO
 obtain⟨z,hz⟩:∃z,s.L.length=z:=⟨_,rfl⟩
 rw [hz]at hB hO h3 h4 hlen
 change Blk w g (mkC (.slice la n lc) (s.a:Int) (lfA n lv s.a) (sgA n lv s.a) (.slice oa z oc) s.u (s.d:Int)) 50 at hB
 change(Value.slice oa z oc).ownBlock≠some g at h3
 have c1:w.cell? ⟨g,1,none⟩=some (.int .i64 (s.a:Int)):=hB.cell 1
 have c7:w.cell? ⟨g,7,none⟩=some (.slice oa z oc):=hB.cell 7
 have c8:w.cell? ⟨g,8,none⟩=some (.int .i64 s.u):=hB.cell 8
 have HM:=Lib.hid hM
 have HB:=Lib.hid hB
 have HO:=Lib.hid hO
 have H34:=Lib.hid (And.intro h3 h4)
 have HZ:=Lib.hid hz
 have HD:=Lib.hid hD
 have HPRE:=Lib.hid hpre
 clear hM hB hO h3 h4 hz hD hpre
 go_enter Tryz.func28,Tryz.ntmps28
 go_wp2
 go_quiet (fail)
 obtain⟨W,hW⟩:∃W,w.drewN nq=W:=⟨_,rfl⟩
 have hbW:Below w.heap.size w W:=by rw [←hW];exact below_drewN (Below.refl _ _) _
 rw [hW]
 have hBW:=HB.out.below hbW
 have hMW:=HM.out.below hbW
 have hOW:=own_below HO.out hbW
 have d1:W.cell? ⟨g,1,none⟩=some (.int .i64 (s.a:Int)):=hBW.cell 1
 have d7:W.cell? ⟨g,7,none⟩=some (.slice oa z oc):=hBW.cell 7
 have hne:¬W.heap.size=g:=by have:=hBW.lt;omega
 have hno:=H34.out.1
 have HMW:=Lib.hid hMW
 have HBW:=Lib.hid hBW
 have HOW:=Lib.hid hOW
 clear hW hbW hBW hMW hOW c1 c7 c8 HM HB HO
 have hR:∀X,Below W.heap.size W X→X.ownsRow 0 32 4 (.slice oa z oc) z (cellsN s.L):=fun X hX=>own_below HOW.out hX
 have d7a:(W.alloc (.cells #[.int .i64 k,.int .i64 (s.a:Int),.int .i64 0,.int .i64 s.u] 32)).cell? ⟨g,7,none⟩=some (.slice oa z oc):=(HBW.out.alloc _).cell 7
 go_wp2
 go_cut []from 17 to 33 (fun wx=>Mk (kP n lv la lc g) w0 P ⟨s.a,s.L++ [⟨k,s.a,0,s.u⟩],s.u,s.d⟩ wx)
 case first=>
  go_region_law (refine step_app_node (by rfl) _ _ (by rfl) (.slice oa z oc) z (cellsN s.L) (by rfl) (hR _ (((Below.refl W.heap.size W).alloc (Nat.le_refl _) _).drew)) W.heap.size ⟨k,s.a,0,s.u⟩ (by rfl) ((Blk.new W _ _).drew) (by omega) ?_;intro g2 c2 w2 hown hgr hg';have o7:=((HBW.out.alloc (.cells (cellN ⟨k,s.a,0,s.u⟩).toArray 32)).drew).grown hgr (Ne.symm hno);have d7:w2.cell? ⟨g,7,none⟩=some (.slice oa z oc):=o7.cell 7;have df:=o7.frozen 7)
  all_goals
   go_wp2_with fail
   have hg2:(Value.slice oa z oc).ownBlock=some g2∨W.heap.size≤g2:=by
    refine hg'.imp id fun h=>?_
    have e:g2=W.heap.size+1:=h.trans (World.size_alloc _ _)
    omega
   have hT1:=mk_more (p:=⟨k,s.a,0,s.u⟩) (c':=c2) HMW.out HBW.out H34.out.1 H34.out.2 (((Below.refl W.heap.size W).alloc (Nat.le_refl _) (.cells (cellN ⟨k,s.a,0,s.u⟩).toArray 32)).drew) hgr (by rw [HZ.out];exact hown) hg2
   rw [HZ.out]at hT1
   go_meet
   case rel=>exact hT1
 case rest=>
  have HC:=Lib.hid hcut
  clear hcut hR d1 d7 d7a hno hne
  obtain⟨V,hV⟩:∃V,V=wc:=⟨_,rfl⟩
  rw [←hV]at HC ⊢
  clear hV
  obtain⟨nv,hB,hO,h3,h4⟩:=HC.out.own
  have f8:V.frozen? ⟨g,8,none⟩=false:=Blk.frozen (t:=50) hB 8
  have e8:V.cell? ⟨g,8,none⟩=some (.int .i64 s.u):=hB.cell 8
  have HM2:=Lib.hid (show Mk (kP n lv la lc g) w0 P (bgn k false s) (V.setCell ⟨g,8,none⟩ (.int .i64 (z:Int)))from by
   refine HC.out.turn rfl HC.out.ale ((Frm.refl _ _).put _ _) (fun nv h=>?_)
   have:=h.set 8 (.int .i64 (z:Int))
   rw [←HZ.out]at this ⊢
   exact this)
  clear hB hO h3 h4
  go_wp2_with fail
  refine(HD.out _ _ HM2.out HPRE.out).mono ?_
  rintro e w5 ⟨rfl,s',hev,hM5⟩
  have HEV:=Lib.hid hev
  have HM5:=Lib.hid hM5
  have hkp:=hev.kp
  have hM6:Mk (kP n lv la lc g) w0 P ⟨s'.a,s'.L,s.u,s'.d⟩ (w5.setCell ⟨g,8,none⟩ (.int .i64 s.u)):=by
   refine hM5.turn rfl hM5.ale ((Frm.refl _ _).put _ _) (fun nv h=>?_)
   exact h.set 8 (.int .i64 s.u)
  obtain⟨nv5,hB5,hO5,h35,h45⟩:=hM5.own
  have e85:w5.cell? ⟨g,8,none⟩=some (.int .i64 s'.u):=hB5.cell 8
  have f85:w5.frozen? ⟨g,8,none⟩=false:=Blk.frozen (t:=50) hB5 8
  clear hB5 hO5 h35 h45 nv5
  obtain⟨W6,hW6⟩:∃W6,w5.setCell ⟨g,8,none⟩ (.int .i64 s.u)=W6:=⟨_,rfl⟩
  rw [hW6]at hM6
  have hlen5:(bgn k false s).L.length=z+1:=by rw [←HZ.out];simp [bgn]
  have hzl:z<s'.L.length:=by have:=hkp.l;omega
  have hp:s'.L[z]?=some ⟨k,s.a,0,s.u⟩:=by
   rw [hkp.x z (by omega)]
   simp [bgn,←HZ.out]
  obtain⟨nv6,hB6,hO6,h36,h46⟩:=hM6.own
  obtain⟨gb,c6,rfl,_,hzc,_,hgbl⟩:=owns_nil hO6 (show 0<s'.L.length from by omega)
  change Blk W6 g (mkC (.slice la n lc) (s'.a:Int) (lfA n lv s'.a) (sgA n lv s'.a) (.slice (some ⟨gb,0,none⟩) s'.L.length c6) s.u (s'.d:Int)) 50 at hB6
  have hbg:gb≠g:=fun e=>h36 (by rw [e];rfl)
  have hM7:=mk_end (z:=z) (q:=⟨k,s.a,s'.a,s.u⟩) (v:=.int .i64 (s'.a:Int)) hM6 hB6 hO6 hbg (h46 gb rfl) hp rfl
  have hcell:W6.cell? ⟨gb,z*4+2,none⟩=some (.int .i64 0):=by
   have:=hO6.cells (g:=gb) rfl (z*4+2) _ (cellsN_at hp 2 _ rfl)
   rwa [Addr.add_lit,Nat.zero_add]at this
  have hfz:W6.frozen? ⟨gb,z*4+2,none⟩=false:=owns_frozen hO6 _
  have g7:W6.cell? ⟨g,7,none⟩=some (.slice (some ⟨gb,0,none⟩) s'.L.length c6):=hB6.cell 7
  have g1:W6.cell? ⟨g,1,none⟩=some (.int .i64 (s'.a:Int)):=hB6.cell 1
  have hef:(⟨s'.a,s'.L.set z ⟨k,s.a,s'.a,s.u⟩,s.u,s'.d⟩:PS)=fin k s s':=by
   have:s'.d=s.d:=hkp.d
   unfold fin
   rw [this,HZ.out]
  rw [hef]at hM7
  have HM7:=Lib.hid hM7
  obtain⟨z5,hz5⟩:∃z5,s'.L.length=z5:=⟨_,rfl⟩
  rw [hz5]at g7 hzl
  have hzi:(z:Int)<(z5:Int):=by omega
  have hz0:(0:Int)≤(z:Int):=by omega
  have HW6:=Lib.hid hW6
  have HEF:=Lib.hid hef
  clear hkp hM6 hB6 hO6 h36 h46 hM7 hp hef hz5 hlen5
  go_wp2
  clear hW6
  go_region
  go_end0
  exact⟨rfl,_,.node HEV.out,HM7.out.below ((Below.refl _ _).drew)⟩
end
end Go.Proofs.YtkolpaonccmgiaaGreatDoor.Q

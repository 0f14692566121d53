/- The document's own tree that is being made, in memory, and what its begin, end and next leave. Condition: at most 10,000 leaves.
What the document's own end and next of layer 13 (parse) leave. Condition: at most 10,000 leaves.
What the document's own next of layer 13 (parse) tells. Condition: at most 10,000 leaves. -/
import Derived.Test.YtkolpaonccmgiaaGreatDoorPaO
import Derived.Test.YtkolpaonccmgiaaGreatDoorSd
import Derived.Test.YtkolpaonccmgiaaGreatDoorRuCc
namespace Go.Proofs.YtkolpaonccmgiaaGreatDoor.Q
open Go.RowKit
def nwC (lo:Value) (S:ByteArray) (nv:Value) (a u d:Int):Array Value:=#[lo,.string S,nv,.int .i64 a,.int .i64 u,.int .i64 d]
def kN (n:Nat) (lv:Nat→Lf) (la:Option Addr) (lc:Nat) (S:ByteArray) (g:Nat):Kd:=⟨n,lv,la,g,fun s nv=>nwC (.slice la n lc) S nv (s.a:Int) s.u (s.d:Int),54⟩
def SgS (n:Nat) (lv:Nat→Lf) (S:ByteArray):Prop:=S.size=n∧∀i,i<n→(bt S i).toNat=sgA n lv i
theorem mkN_more {n:Nat} {lv:Nat→Lf} {la:Option Addr} {lc g:Nat} {S:ByteArray} {w0:World} {P:Nat→Prop} {s:PS} {w X w':World} {nv:Value} {g' c':Nat} {p:Nd} (hM:Mk (kN n lv la lc S g) w0 P s w) (hB:Blk w g (nwC (.slice la n lc) S nv (s.a:Int) s.u (s.d:Int)) 54) (h3:nv.ownBlock≠some g) (h4:∀k,nv.ownBlock=some k→¬P k)
  (hX:Below w.heap.size w X) (hgr:X.grownBy w' nv.ownBlock) (hown:w'.ownsRow 0 32 4 (.slice (some ⟨g',0,none⟩) (s.L.length+1) c') (s.L.length+1) (cellsN s.L++cellN p)) (hg:nv.ownBlock=some g'∨w.heap.size≤g'):
  Mk (kN n lv la lc S g) w0 P ⟨s.a,s.L++ [p],s.u,s.d⟩ (w'.setCell ⟨g,2,none⟩ (.slice (some ⟨g',0,none⟩) (s.L.length+1) c')):=by
 have F1:Frm (fun k=>nv.ownBlock=some k) w w':=(Frm.of_below hX).grown hgr (fun k hk=> .inl hk)
 have F2:Frm (fun k=>k=g) w' (w'.setCell ⟨g,2,none⟩ (.slice (some ⟨g',0,none⟩) (s.L.length+1) c')):=(Frm.refl _ _).put _ _
 have hgl:g<w.heap.size:=hB.lt
 have hgf:g'≠g:=by
  rintro rfl
  rcases hg with h|h
  ·exact h3 h
  ·omega
 have hgP:¬P g':=by
  rcases hg with h|h
  ·exact h4 g' h
  ·intro hp
   have:=hM.st.lt g' hp
   have:=hM.frm.size
   omega
 refine⟨hM.st,(hM.frm.trans F1 (fun i _ hi=>h4 i hi)).trans F2 (fun i _ hi hp=>hM.npg (hi▸hp)),hM.ale,hM.npg,.slice (some ⟨g',0,none⟩) (s.L.length+1) c',?_,?_,?_,?_⟩
 ·have:=(hB.frm F1 h3).set 2 (.slice (some ⟨g',0,none⟩) (s.L.length+1) c')
  exact this
 ·have e:cellsN (s.L++ [p])=cellsN s.L++cellN p:=by rw [cellsN_append];simp [cellsN]
  show World.ownsRow _ 0 32 4 _ (s.L++ [p]).length (cellsN (s.L++ [p]))
  rw [e,List.length_append]
  exact own_frm F2 hown (fun k hk=>by simp [Value.ownBlock]at hk;omega)
 ·intro e
  change(Value.slice (some ⟨g',0,none⟩) (s.L.length+1) c').ownBlock=some g at e
  exact hgf (by simpa [Value.ownBlock]using e)
 ·intro k hk
  have:g'=k:=by simpa [Value.ownBlock]using hk
  exact this▸hgP
theorem mkN_end {n:Nat} {lv:Nat→Lf} {la:Option Addr} {lc g:Nat} {S:ByteArray} {w0:World} {P:Nat→Prop} {s:PS} {w:World} {b c z:Nat} {p q:Nd} {v:Value} (hM:Mk (kN n lv la lc S g) w0 P s w) (hB:Blk w g (nwC (.slice la n lc) S (.slice (some ⟨b,0,none⟩) s.L.length c) (s.a:Int) s.u (s.d:Int)) 54) (hO:w.ownsRow 0 32 4 (.slice (some ⟨b,0,none⟩) s.L.length c) s.L.length (cellsN s.L)) (hbg:b≠g) (hbP:¬P b)
  (hz:s.L[z]?=some p) (hq:cellN q=(cellN p).set 2 v):Mk (kN n lv la lc S g) w0 P ⟨s.a,s.L.set z q,s.u,s.d⟩ (w.setCell ⟨b,z*4+2,none⟩ v):=by
 have hzl:z<s.L.length:=(List.getElem?_eq_some_iff.1 hz).1
 refine⟨hM.st,hM.frm.trans ((Frm.refl (fun k=>k=b) w).put (z*4+2) v) (fun i _ hi hp=>hbP (hi▸hp)),hM.ale,hM.npg,.slice (some ⟨b,0,none⟩) s.L.length c,?_,?_,?_,?_⟩
 ·exact hB.other _ _ (fun e=>hbg e.symm)
 ·show World.ownsRow _ 0 32 4 _ (s.L.set z q).length (cellsN (s.L.set z q))
  rw [cellsN_set hz hq (by omega),List.length_set]
  exact owns_set hO _ _ (by rw [cellsN_length];omega)
 ·intro e
  change(Value.slice (some ⟨b,0,none⟩) s.L.length c).ownBlock=some g at e
  exact hbg (by simpa [Value.ownBlock]using e)
 ·intro k hk
  have:b=k:=by simpa [Value.ownBlock]using hk
  exact this▸hbP
theorem step_callG {ops:Array Oper} {o:Oper} {a:Act} {w:World} {K:Act→World→Prop} {Q:Exit→Act→World→Prop} {E:Prop} (hw:Region.wanted o (yielded ops a.tmps)=true) {f:FuncId} {fn:Func} (hf:Tryz.prog.funcs[f]?=some fn) (hname:(fn.name== "runtime.NumGoroutine")=false) (hb:fn.body.isSome=true) (args:List Operand) (tys:Array TypeId)
  (ho:o.op=.call { callee:=.value (.func f),args:=args.toArray,argTypes:=tys }) (vs:List Value) (hv:args.map a.eval=vs) (v:Value) (R:World→Prop)
  (hc:Calls Tryz.prog f vs.toArray w fun e w'=>e=.returned v∧R w') (h:∀w',R w'→K (a.put o.dst v) w'):
  if Region.wanted o (yielded ops a.tmps)=true then Oper.wp Tryz.prog o a w K Q else E:=by
 rw [if_pos hw]
 have e1:a.eval (.func f)=.func (.func f) #[] #[]:=rfl
 obtain⟨c,hc'⟩:=Option.isSome_iff_exists.1 hb
 have h1:fn.name≠ "runtime.NumGoroutine":=by simpa using hname
 have hen:(callFunc f vs.toArray).run Tryz.prog w=.ok (.enter f vs.toArray) w:=by simp [callFunc,hf,h1,hc']
 unfold Oper.wp execOp
 simp only [ho,resolve,List.map_toArray,hv,e1,Deferred.ofValue,invoke,Sem.run_bind,Sem.run_pure,Result.andThen_ok,Array.empty_append,Array.append_empty,hen]
 rw [Oper.upon_enter]
 refine hc.mono ?_
 rintro e w' ⟨rfl,hr⟩
 exact h w' hr
@[local go_sem] theorem und_match (f:Bool→Option Bool) (g:Option Value→Option Bool):yielded.match_1 (fun _=>Option Bool) (some undef) f g=g (some undef):=rfl
section
variable {n:Nat} {lv:Nat→Lf} {la:Option Addr} {lc g:Nat} {S:ByteArray} {w0:World} {P:Nat→Prop}
set_option maxRecDepth 100000 in
set_option maxHeartbeats 4000000 in
theorem begin_any (k:Int) {w:World} {s:PS} (hM:Mk (kN n lv la lc S g) w0 P s w) (hlen:s.L.length≤900000) (hd:nst k=true→s.d≤1000):
  Calls Tryz.prog 31 #[.pointer (some ⟨g,0,none⟩),.int .i64 k] w fun e w'=>e=.returned (.int .i64 s.u)∧Mk (kN n lv la lc S g) w0 P (bgn k (nst k) s) w':=by
 obtain⟨nv,hB,hO,h3,h4⟩:=hM.own
 obtain⟨oa,oc,rfl⟩:=owns_slice' hO
 obtain⟨z,hz⟩:∃z,s.L.length=z:=⟨_,rfl⟩
 rw [hz]at hB hO h3 h4 hlen
 change Blk w g (nwC (.slice la n lc) S (.slice oa z oc) (s.a:Int) s.u (s.d:Int)) 54 at hB
 change(Value.slice oa z oc).ownBlock≠some g at h3
 have d1:w.cell? ⟨g,3,none⟩=some (.int .i64 (s.a:Int)):=hB.cell 3
 have d7:w.cell? ⟨g,2,none⟩=some (.slice oa z oc):=hB.cell 2
 have d8:w.cell? ⟨g,4,none⟩=some (.int .i64 s.u):=hB.cell 4
 have hne:¬w.heap.size=g:=by have:=hB.lt;omega
 have HMW:=Lib.hid hM
 have HBW:=Lib.hid hB
 have HOW:=Lib.hid hO
 have H34:=Lib.hid (And.intro h3 h4)
 have hno:=h3
 have HZ:=Lib.hid hz
 have HNE:=Lib.hid (fun W=>nests_any k W)
 have HD:=Lib.hid hd
 clear hM hB hO h3 h4 hz hd
 have hR:∀X,Below w.heap.size w X→X.ownsRow 0 32 4 (.slice oa z oc) z (cellsN s.L):=fun X hX=>own_below HOW.out hX
 have d7a:(w.alloc (.cells #[.int .i64 k,.int .i64 (s.a:Int),.int .i64 0,.int .i64 s.u] 32)).cell? ⟨g,2,none⟩=some (.slice oa z oc):=(HBW.out.alloc _).cell 2
 go_enter Tryz.func31,Tryz.ntmps31
 go_wp2
 go_cut []from 10 to 26 (fun wx=>Mk (kN n lv la lc S g) w0 P ⟨s.a,s.L++ [⟨k,s.a,0,s.u⟩],s.u,s.d⟩ wx)
 case first=>
  go_region_law (refine step_app_node (by rfl) _ _ (by rfl) (.slice oa z oc) z (cellsN s.L) (by rfl) (hR _ (((Below.refl w.heap.size w).alloc (Nat.le_refl _) _).drew)) w.heap.size ⟨k,s.a,0,s.u⟩ (by rfl) ((Blk.new w _ _).drew) (by omega) ?_;intro g2 c2 w2 hown hgr hg';have o7:=((HBW.out.alloc (.cells (cellN ⟨k,s.a,0,s.u⟩).toArray 32)).drew).grown hgr (Ne.symm hno);have d7:w2.cell? ⟨g,2,none⟩=some (.slice oa z oc):=o7.cell 2;have df:=o7.frozen 2)
  all_goals
   go_wp2_with fail
   have hg2:(Value.slice oa z oc).ownBlock=some g2∨w.heap.size≤g2:=by
    refine hg'.imp id fun h=>?_
    have e:g2=w.heap.size+1:=h.trans (World.size_alloc _ _)
    omega
   have hT1:=mkN_more (p:=⟨k,s.a,0,s.u⟩) (c':=c2) HMW.out HBW.out H34.out.1 H34.out.2 (((Below.refl w.heap.size w).alloc (Nat.le_refl _) (.cells (cellN ⟨k,s.a,0,s.u⟩).toArray 32)).drew) hgr (by rw [HZ.out];exact hown) hg2
   rw [HZ.out]at hT1
   go_meet
   case rel=>exact hT1
 case rest=>
  have HC:=Lib.hid hcut
  clear hcut hR d1 d7 d7a d8 hno hne
  obtain⟨V,hV⟩:∃V,V=wc:=⟨_,rfl⟩
  rw [←hV]at HC ⊢
  clear hV
  obtain⟨nv,hB,hO,h3,h4⟩:=HC.out.own
  obtain⟨oa2,oc2,rfl⟩:=owns_slice' hO
  have hl1:(s.L++ [(⟨k,s.a,0,s.u⟩:Nd)]).length=z+1:=by rw [←HZ.out];simp
  simp only [hl1]at hB
  have e2:V.cell? ⟨g,2,none⟩=some (.slice oa2 (z+1) oc2):=hB.cell 2
  have f8:V.frozen? ⟨g,4,none⟩=false:=Blk.frozen (t:=54) hB 4
  have e8:V.cell? ⟨g,4,none⟩=some (.int .i64 s.u):=hB.cell 4
  have hw:IntKind.i64.wrap (((z+1:Nat):Int) - 1)=(z:Int):=by rw [IntWalk.i64_in _ (by omega)];omega
  have hM2:Mk (kN n lv la lc S g) w0 P ⟨s.a,s.L++ [⟨k,s.a,0,s.u⟩],(z:Int),s.d⟩ (V.setCell ⟨g,4,none⟩ (.int .i64 (z:Int))):=
   HC.out.turn rfl HC.out.ale ((Frm.refl _ _).put _ _) (fun nv h=>h.set 4 (.int .i64 (z:Int)))
  obtain⟨V2,hV2⟩:∃V2,V.setCell ⟨g,4,none⟩ (.int .i64 (z:Int))=V2:=⟨_,rfl⟩
  rw [hV2]at hM2
  obtain⟨nv5,hB5,_⟩:=hM2.own
  have e5:V2.cell? ⟨g,5,none⟩=some (.int .i64 (s.d:Int)):=hB5.cell 5
  have f5:V2.frozen? ⟨g,5,none⟩=false:=Blk.frozen (t:=54) hB5 5
  have hbg:∀dp:Bool,(⟨s.a,s.L++ [⟨k,s.a,0,s.u⟩],(z:Int),s.d+dp.toNat⟩:PS)=bgn k dp s:=fun dp=>by unfold bgn;rw [HZ.out]
  obtain⟨q,hq⟩:∃q,nst k=q:=⟨_,rfl⟩
  rw [hq]at HNE
  have HQ:=Lib.hid hq
  have HM2:=Lib.hid hM2
  have HBG:=Lib.hid hbg
  clear hB hO h3 h4 hl1 hM2 hB5 hq hbg
  cases q with
  |true=>
   have hw5:IntKind.i64.wrap ((s.d:Int)+1)=((s.d+1:Nat):Int):=by
    have:=HD.out HQ.out
    rw [IntWalk.i64_in _ (by omega)]
    rfl
   have HM3:=Lib.hid (show Mk (kN n lv la lc S g) w0 P ⟨s.a,s.L++ [⟨k,s.a,0,s.u⟩],(z:Int),s.d+1⟩ (V2.setCell ⟨g,5,none⟩ (.int .i64 ((s.d+1:Nat):Int)))from
    HM2.out.turn rfl HM2.out.ale ((Frm.refl _ _).put _ _) (fun nv h=>h.set 5 (.int .i64 ((s.d+1:Nat):Int))))
   go_wp2_with fail
   refine(HNE.out _).mono ?_
   rintro e w5 ⟨rfl,rfl⟩
   go_wp2
   go_ret
   refine⟨rfl,?_⟩
   rw [HQ.out,←HBG.out true]
   exact HM3.out
  |false=>
   go_wp2_with fail
   refine(HNE.out _).mono ?_
   rintro e w5 ⟨rfl,rfl⟩
   go_wp2
   go_ret
   refine⟨rfl,?_⟩
   rw [HQ.out,←HBG.out false]
   exact HM2.out
end
end Go.Proofs.YtkolpaonccmgiaaGreatDoor.Q
namespace Go.Proofs.YtkolpaonccmgiaaGreatDoor.Q
open Go.RowKit
def SgI (t:ByteArray) (l:List Nat):Prop:=63∉l∧t.size≤100∧∀c,c<256→inB c t=l.contains c
instance (t:ByteArray) (l:List Nat):Decidable (SgI t l):=by unfold SgI;infer_instance
theorem sgA_lt0 {n:Nat} {lv:Nat→Lf} (i:Nat):sgA n lv i<256:=sgn_lt _ _
section
variable {n:Nat} {lv:Nat→Lf} {la:Option Addr} {lc g:Nat} {S:ByteArray} {w0:World} {P:Nat→Prop}
set_option maxRecDepth 100000 in
set_option maxHeartbeats 4000000 in
theorem end_any {k:Int} {b:PP} {w:World} {s s':PS} (hev:Ev n lv b (bgn k (nst k) s) s') (hM:Mk (kN n lv la lc S g) w0 P s' w) (hd:nst k=true→s.d≤1000):
  Calls Tryz.prog 36 #[.pointer (some ⟨g,0,none⟩),.int .i64 s.u] w fun e w'=>e=.returned (.tuple #[])∧Mk (kN n lv la lc S g) w0 P (fin k s s') w':=by
 have hkp:=hev.kp
 have hlen5:(bgn k (nst k) s).L.length=s.L.length+1:=by simp [bgn]
 obtain⟨z,hz⟩:∃z,s.L.length=z:=⟨_,rfl⟩
 have hzl:z<s'.L.length:=by have:=hkp.l;omega
 have hu:s'.u=(z:Int):=by rw [hkp.u];show((s.L.length:Nat):Int)=z;rw [hz]
 have hdd:s'.d=s.d+(nst k).toNat:=hkp.d
 have hp:s'.L[z]?=some ⟨k,s.a,0,s.u⟩:=by
  rw [hkp.x z (by omega)]
  simp [bgn,←hz]
 obtain⟨nv6,hB6,hO6,h36,h46⟩:=hM.own
 obtain⟨gb,c6,rfl,_,hzc,_,hgbl⟩:=owns_nil hO6 (show 0<s'.L.length from by omega)
 change Blk w g (nwC (.slice la n lc) S (.slice (some ⟨gb,0,none⟩) s'.L.length c6) (s'.a:Int) s'.u (s'.d:Int)) 54 at hB6
 have hbg:gb≠g:=fun e=>h36 (by rw [e];rfl)
 have hM7:=mkN_end (z:=z) (q:=⟨k,s.a,s'.a,s.u⟩) (v:=.int .i64 (s'.a:Int)) hM hB6 hO6 hbg (h46 gb rfl) hp rfl
 have hcell:w.cell? ⟨gb,z*4+2,none⟩=some (.int .i64 0):=by
  have:=hO6.cells (g:=gb) rfl (z*4+2) _ (cellsN_at hp 2 _ rfl)
  rwa [Addr.add_lit,Nat.zero_add]at this
 have hfz:w.frozen? ⟨gb,z*4+2,none⟩=false:=owns_frozen hO6 _
 have g2:w.cell? ⟨g,2,none⟩=some (.slice (some ⟨gb,0,none⟩) s'.L.length c6):=hB6.cell 2
 have g3:w.cell? ⟨g,3,none⟩=some (.int .i64 (s'.a:Int)):=hB6.cell 3
 have g4:w.cell? ⟨g,4,none⟩=some (.int .i64 (z:Int)):=by rw [←hu];exact hB6.cell 4
 have hk0:(w.setCell ⟨gb,z*4+2,none⟩ (.int .i64 (s'.a:Int))).cell? ⟨gb,z*4,none⟩=some (.int .i64 k):=by
  obtain⟨nv7,hB7,hO7,_⟩:=hM7.own
  have hq:(s'.L.set z ⟨k,s.a,s'.a,s.u⟩)[z]?=some ⟨k,s.a,s'.a,s.u⟩:=by rw [List.getElem?_set_self hzl]
  have e2:(w.setCell ⟨gb,z*4+2,none⟩ (.int .i64 (s'.a:Int))).cell? ⟨g,2,none⟩=some nv7:=hB7.cell 2
  have hB6':=hB6.other (b':=gb) (z*4+2) (.int .i64 (s'.a:Int)) (fun e=>hbg e.symm)
  have e3:(w.setCell ⟨gb,z*4+2,none⟩ (.int .i64 (s'.a:Int))).cell? ⟨g,2,none⟩=some (.slice (some ⟨gb,0,none⟩) s'.L.length c6):=hB6'.cell 2
  have e4:nv7=.slice (some ⟨gb,0,none⟩) s'.L.length c6:=by rw [e3]at e2;exact(Option.some.inj e2).symm
  subst e4
  have:=hO7.cells (g:=gb) rfl (z*4) _ (by simpa using cellsN_at hq 0 _ rfl)
  rwa [Addr.add_lit,Nat.zero_add]at this
 obtain⟨z5,hz5⟩:∃z5,s'.L.length=z5:=⟨_,rfl⟩
 rw [hz5]at g2 hzl
 have hzi:(z:Int)<(z5:Int):=by omega
 have hz0:(0:Int)≤(z:Int):=by omega
 have hB8:Blk (w.setCell ⟨gb,z*4+2,none⟩ (.int .i64 (s'.a:Int))) g (nwC (.slice la n lc) S (.slice (some ⟨gb,0,none⟩) z5 c6) (s'.a:Int) (z:Int) (s'.d:Int)) 54:=by
  have:=hB6.other (b':=gb) (z*4+2) (.int .i64 (s'.a:Int)) (fun e=>hbg e.symm)
  rw [hz5,hu]at this
  exact this
 obtain⟨sa,hsa⟩:∃sa:Int,(s'.a:Int)=sa:=⟨_,rfl⟩
 rw [hsa]at g3 hM7 hk0 hB8
 have HSA:=Lib.hid hsa
 obtain⟨W1,hW1⟩:∃W1,w.setCell ⟨gb,z*4+2,none⟩ (.int .i64 sa)=W1:=⟨_,rfl⟩
 rw [hW1]at hM7 hk0 hB8
 have HM7:=Lib.hid hM7
 have HB8:=Lib.hid hB8
 have HK0:=Lib.hid hk0
 have hgb1:gb<W1.heap.size:=by rw [←hW1];simpa [World.setCell]using hgbl
 have HG:=Lib.hid hgb1
 have HNE:=Lib.hid (fun W=>nests_any k W)
 obtain⟨q,hq⟩:∃q,nst k=q:=⟨_,rfl⟩
 rw [hq]at HNE hdd hd
 have HDD:=Lib.hid (And.intro hdd (And.intro hz hd))
 clear hsa hkp hlen5 hz hu hdd hp hB6 hO6 h36 h46 hM7 hB8 hk0 hz5 hM hev hq hgb1 hgbl hd
 go_enter Tryz.func36,Tryz.ntmps36
 go_wp2
 go_region
 obtain⟨W2,hW2⟩:∃W2,W1.drew=W2:=⟨_,rfl⟩
 have hb2:Below W1.heap.size W1 W2:=by rw [←hW2];exact(Below.refl _ _).drew
 rw [hW2]
 clear hW2 hW1 g2 g3 g4 hcell hfz
 have hB9:=HB8.out.below hb2
 have i2:W2.cell? ⟨g,2,none⟩=some (.slice (some ⟨gb,0,none⟩) z5 c6):=hB9.cell 2
 have i4:W2.cell? ⟨g,4,none⟩=some (.int .i64 (z:Int)):=hB9.cell 4
 have ik:=(hb2.cell (p:=⟨gb,z*4,none⟩) HG.out).trans HK0.out
 have HM9:=Lib.hid (HM7.out.below hb2)
 clear hb2 hB9
 go_wp2
 go_cut [29]from 18 to 30 (fun v29 wx=>v29=.bool q∧Mk (kN n lv la lc S g) w0 P ⟨s'.a,s'.L.set z ⟨k,s.a,sa,s.u⟩,s'.u,s'.d⟩ wx)
 case first=>
  go_region_law (refine step_callG (by rfl) Tryz.func53 (by kernel_rfl) (by kernel_rfl) _ _ (by rfl) [.int .i64 k] (by rfl) (.bool q) _ (HNE.out _) ?_;intro w5 hh5;subst hh5)
  all_goals
   go_wp2_with fail
   go_meet
   case rel=>exact⟨rfl,HM9.out.below (by first|exact Below.refl _ _|exact(Below.refl _ _).drew|exact((Below.refl _ _).drew).drew)⟩
 case rest=>
  obtain⟨rfl,hM10⟩:=hcut
  clear i2 i4 ik
  obtain⟨V,hV⟩:∃V,V=wc:=⟨_,rfl⟩
  rw [←hV]at hM10 ⊢
  clear hV
  have hfin:(⟨s'.a,s'.L.set z ⟨k,s.a,sa,s.u⟩,s.u,s.d⟩:PS)=fin k s s':=by unfold fin;rw [HDD.out.2.1,HSA.out]
  have hd:=HDD.out.2.2
  have hdd:=HDD.out.1
  have HF:=Lib.hid hfin
  obtain⟨nv,hB,_⟩:=hM10.own
  have e4:V.cell? ⟨g,4,none⟩=some (.int .i64 s'.u):=hB.cell 4
  have f4:V.frozen? ⟨g,4,none⟩=false:=Blk.frozen (t:=54) hB 4
  have e5:V.cell? ⟨g,5,none⟩=some (.int .i64 (s'.d:Int)):=hB.cell 5
  have f5:V.frozen? ⟨g,5,none⟩=false:=Blk.frozen (t:=54) hB 5
  have HM10:=Lib.hid hM10
  clear hB hM10 hfin
  cases q with
  |true=>
   have hd1:=hd rfl
   have hw5:IntKind.i64.wrap ((s'.d:Int) - 1)=(s.d:Int):=by
    simp only [Bool.toNat_true]at hdd
    rw [IntWalk.i64_in _ (by omega)]
    omega
   have hM11:Mk (kN n lv la lc S g) w0 P ⟨s'.a,s'.L.set z ⟨k,s.a,sa,s.u⟩,s'.u,s.d⟩ (V.setCell ⟨g,5,none⟩ (.int .i64 (s.d:Int))):=
    HM10.out.turn rfl HM10.out.ale ((Frm.refl _ _).put _ _) (fun nv h=>h.set 5 (.int .i64 (s.d:Int)))
   obtain⟨V2,hV2⟩:∃V2,V.setCell ⟨g,5,none⟩ (.int .i64 (s.d:Int))=V2:=⟨_,rfl⟩
   rw [hV2]at hM11
   obtain⟨nv2,hB2,_⟩:=hM11.own
   have j4:V2.cell? ⟨g,4,none⟩=some (.int .i64 s'.u):=hB2.cell 4
   have k4:V2.frozen? ⟨g,4,none⟩=false:=Blk.frozen (t:=54) hB2 4
   have HM12:=Lib.hid (show Mk (kN n lv la lc S g) w0 P ⟨s'.a,s'.L.set z ⟨k,s.a,sa,s.u⟩,s.u,s.d⟩ (V2.setCell ⟨g,4,none⟩ (.int .i64 s.u))from
    hM11.turn rfl hM11.ale ((Frm.refl _ _).put _ _) (fun nv h=>h.set 4 (.int .i64 s.u)))
   clear hB2 hM11 hdd hd hd1
   go_wp2
   go_end0
   rw [←HF.out]
   exact⟨rfl,HM12.out⟩
  |false=>
   have hd2:s'.d=s.d:=by simpa using hdd
   have HM12:=Lib.hid (show Mk (kN n lv la lc S g) w0 P ⟨s'.a,s'.L.set z ⟨k,s.a,sa,s.u⟩,s.u,s.d⟩ (V.setCell ⟨g,4,none⟩ (.int .i64 s.u))from
    HM10.out.turn rfl HM10.out.ale ((Frm.refl _ _).put _ _) (fun nv h=>by
     have:=h.set 4 (.int .i64 s.u)
     change Blk _ g (nwC (.slice la n lc) S nv (s'.a:Int) s.u (s.d:Int)) 54
     rw [←hd2]
     exact this))
   clear hdd hd hd2
   go_wp2
   go_end0
   rw [←HF.out]
   exact⟨rfl,HM12.out⟩
end
end Go.Proofs.YtkolpaonccmgiaaGreatDoor.Q
namespace Go.Proofs.YtkolpaonccmgiaaGreatDoor.Q
open Go.RowKit
section
variable {n:Nat} {lv:Nat→Lf} {la:Option Addr} {lc g:Nat} {S:ByteArray} {w0:World} {P:Nat→Prop}
set_option maxRecDepth 100000 in
set_option maxHeartbeats 4000000 in
theorem next_any (hS:SgS n lv S) (t:ByteArray) (l:List Nat) (hl:SgI t l) {w:World} {s:PS} (hM:Mk (kN n lv la lc S g) w0 P s w) (b:Bool) (hb:isS n lv l s=b):
  Calls Tryz.prog 32 #[.pointer (some ⟨g,0,none⟩),.string t] w fun e w'=>e=.returned (.bool b)∧∃m,w'=w.drewN m:=by
 obtain⟨nv,hB,_⟩:=hM.own
 have c1:w.cell? ⟨g,1,none⟩=some (.string S):=hB.cell 1
 have c3:w.cell? ⟨g,3,none⟩=some (.int .i64 (s.a:Int)):=hB.cell 3
 have hale:=hM.ale
 change s.a≤n at hale
 have hz:=hS.1
 by_cases hlt:s.a<n
 ·have hbt:=hS.2 s.a hlt
  have hin:=hl.2.2 _ (sgA_lt0 (n:=n) (lv:=lv) s.a)
  have HIN:=Lib.hid (fun W=>in_any (sgA n lv s.a) t W (by have:=hl.2.1;omega))
  unfold isS at hb
  rw [hin,hb]at HIN
  obtain⟨a,ha⟩:∃a,s.a=a:=⟨_,rfl⟩
  rw [ha]at c3 hlt hbt
  have q1:(a:Int)<(S.size:Int):=by omega
  have q1':a<S.size:=by omega
  have q0:(0:Int)≤(a:Int):=by omega
  have hbb:S[a].toNat=sgA n lv s.a:=by rw [←bt_eq q1',hbt,ha]
  obtain⟨sg,hsg⟩:∃sg,sgA n lv s.a=sg:=⟨_,rfl⟩
  rw [hsg]at hbb HIN
  have q2:decide ((a:Int)<(S.size:Int))=true:=decide_eq_true q1
  have q3:decide (a<S.size)=true:=decide_eq_true q1'
  clear hB hM hS hl hb hin hsg hbt ha hz hale
  go_enter Tryz.func32,Tryz.ntmps32
  go_wp2
  go_quiet (exact Calls.quiet_of_same (HIN.out _))
  go_wp2
  go_ret
  exact⟨rfl,_,rfl⟩
 ·have hbf:b=false:=by
   rw [←hb]
   cases e:isS n lv l s with
   |false=>rfl
   |true=>have:=isS_le (lv:=lv) e hl.1;omega
  subst hbf
  obtain⟨a,ha⟩:∃a,s.a=a:=⟨_,rfl⟩
  rw [ha]at c3 hlt
  have q1:¬(a:Int)<(S.size:Int):=by omega
  have q2:decide ((a:Int)<(S.size:Int))=false:=decide_eq_false q1
  have q3:decide (a<S.size)=false:=by simp;omega
  clear hB hM hS hl hb ha hz hale
  go_enter Tryz.func32,Tryz.ntmps32
  go_wp2
  go_quiet (fail)
  go_wp2
  go_ret
  exact⟨rfl,_,rfl⟩
def TellsN (K:Kd) (g:Nat) (F:Nat) (b:PS→Bool):Prop:=
 ∀(w0:World) (P:Nat→Prop) (w:World) (s:PS),Mk K w0 P s w→Calls Tryz.prog F #[.pointer (some ⟨g,0,none⟩)] w fun e w'=>e=.returned (.bool (b s))∧∃m,w'=w.drewN m
theorem mk_drew {K:Kd} {w:World} {s:PS} (h:Mk K w0 P s w) (m:Nat):Mk K w0 P s (w.drewN m):=h.below (below_drewN (Below.refl _ _) _)
theorem sgi_red:SgI ⟨#[60]⟩ [60]:=by decide+kernel
theorem sgi_hash:SgI ⟨#[35]⟩ [35]:=by decide+kernel
theorem sgi_cmp:SgI ⟨#[123,40,105,119,114,99]⟩ [123,40,105,119,114,99]:=by decide+kernel
theorem sgi_x:SgI ⟨#[120]⟩ [120]:=by decide+kernel
theorem sgi_not:SgI ⟨#[33]⟩ [33]:=by decide+kernel
theorem isS_one {c k:Nat} {s:PS} (h:sgA n lv s.a=c):isS n lv [k] s=(c==k):=by
 unfold isS
 rw [h,List.contains_cons,List.contains_nil,Bool.or_false]
set_option maxRecDepth 100000 in
set_option maxHeartbeats 4000000 in
theorem redirectN_any (hS:SgS n lv S):TellsN (kN n lv la lc S g) g 80 (rdrT n lv):=by
 intro w0 P w s hM
 obtain⟨nv,hB,_⟩:=hM.own
 have c1:w.cell? ⟨g,1,none⟩=some (.string S):=hB.cell 1
 have c3:w.cell? ⟨g,3,none⟩=some (.int .i64 (s.a:Int)):=hB.cell 3
 have hale:=hM.ale
 change s.a≤n at hale
 have hn:=hM.st.nle
 change n≤10000 at hn
 have hz:=hS.1
 unfold rdrT
 obtain⟨x,hx⟩:∃x,sgA n lv s.a=x:=⟨_,rfl⟩
 have HR:=Lib.hid (fun m b hb=>next_any hS _ _ sgi_red (mk_drew hM m) b hb)
 have HH:=Lib.hid (fun m b hb=>next_any hS _ _ sgi_hash (mk_drew hM m) b hb)
 rw [isS_one hx]at HR HH
 rw [hx]
 obtain⟨a,ha⟩:∃a,s.a=a:=⟨_,rfl⟩
 have hw:IntKind.i64.wrap ((s.a:Int)+1)=((s.a+1:Nat):Int):=by rw [IntWalk.i64_in _ (by omega)];rfl
 by_cases h60:x=60
 ·subst h60
  have HR1:=Lib.hid (fun m=>HR.out m true rfl)
  clear hB hM hS hx HR HH hale hn hz c1 c3 hw ha
  go_enter Tryz.func80,Tryz.ntmps80
  go_wp2
  go_quiet (exact Calls.quiet_of (HR1.out _))
  go_wp2
  go_ret
  exact⟨rfl,_,rfl⟩
 have HR1:=Lib.hid (fun m=>HR.out m false (by simpa using h60))
 have e60:(x==60)=false:=by simpa using h60
 rw [e60,Bool.false_or]
 by_cases h35:x=35
 ·subst h35
  have HH1:=Lib.hid (fun m=>HH.out m true rfl)
  rw [ha]at c3 hale hw ⊢
  obtain⟨a1,ha1⟩:∃a1,a+1=a1:=⟨_,rfl⟩
  rw [ha1]at hw ⊢
  by_cases hlt:a1<n
  ·have hbt:=hS.2 a1 hlt
   have q1':a1<S.size:=by omega
   have q1:(a1:Int)<(S.size:Int):=by omega
   have q2:decide ((a1:Int)<(S.size:Int))=true:=decide_eq_true q1
   have q3:decide (a1<S.size)=true:=decide_eq_true q1'
   have q0:(0:Int)≤(a1:Int):=by omega
   obtain⟨y,hy⟩:∃y,sgA n lv a1=y:=⟨_,rfl⟩
   obtain⟨z,hz2⟩:∃z,(y==60)=z:=⟨_,rfl⟩
   rw [hy]at hbt ⊢
   have hbb:S[a1].toNat=y:=by rw [←bt_eq q1',hbt]
   have e2:((y:Int)==60)=z:=by rw [←hz2,Bool.eq_iff_iff];simp;omega
   rw [hz2]
   clear hB hM hS hx HR HH hale hn hz hy hz2 hbt h60 ha ha1
   go_enter Tryz.func80,Tryz.ntmps80
   go_wp2
   go_quiet (first|with_reducible exact Calls.quiet_of (HR1.out _)|with_reducible exact Calls.quiet_of (HH1.out _))
   go_wp2
   go_ret
   exact⟨rfl,_,rfl⟩
  ·have q1:¬(a1:Int)<(S.size:Int):=by omega
   have q2:decide ((a1:Int)<(S.size:Int))=false:=decide_eq_false q1
   have q3:decide (a1<S.size)=false:=by simp;omega
   have e2:(sgA n lv a1==60)=false:=by
    have:sgA n lv a1≠60:=fun e=>by
     have:=sg_le (lv:=lv) (n:=n) (i:=a1) (by omega)
     omega
    simpa using this
   rw [e2]
   clear hB hM hS hx HR HH hale hn hz h60 ha e2 ha1
   go_enter Tryz.func80,Tryz.ntmps80
   go_wp2
   go_quiet (first|with_reducible exact Calls.quiet_of (HR1.out _)|with_reducible exact Calls.quiet_of (HH1.out _))
   go_wp2
   go_ret
   exact⟨rfl,_,rfl⟩
 ·have HH1:=Lib.hid (fun m=>HH.out m false (by simpa using h35))
  have e35:(x==35)=false:=by simpa using h35
  rw [e35,Bool.false_and]
  clear hB hM hS hx HR HH hale hn hz c1 c3 hw ha e35 e60 h35 h60
  go_enter Tryz.func80,Tryz.ntmps80
  go_wp2
  go_quiet (first|with_reducible exact Calls.quiet_of (HR1.out _)|with_reducible exact Calls.quiet_of (HH1.out _))
  go_wp2
  go_ret
  exact⟨rfl,_,rfl⟩
end
end Go.Proofs.YtkolpaonccmgiaaGreatDoor.Q

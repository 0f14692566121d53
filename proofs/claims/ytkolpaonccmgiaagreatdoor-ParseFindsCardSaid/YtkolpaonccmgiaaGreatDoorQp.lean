/- What begin of layer 7 (parts) leaves of a finder i -/
import Derived.Test.YtkolpaonccmgiaaGreatDoorPtB
import Derived.Test.YtkolpaonccmgiaaGreatDoorMdB
import Derived.Deep.DeepCutAuto
import Derived.Test.YtkolpaonccmgiaaGreatDoorMdW
set_option linter.unusedVariables false
namespace Go.Proofs.YtkolpaonccmgiaaGreatDoor
set_option linter.unusedSectionVars false
set_option linter.unusedVariables false
open Go.RowKit
theorem infoP:(Tryz.prog.info? 136).map (fun i=>(i.zero,i.size,i.bytes))=some (some (.agg #[.int .i64 0,.int .i64 0,.int .i64 0,.int .i64 0,.bool false]),5,40):=by kernel_rfl
theorem step_app_part {ops:Array Oper} {o:Oper} {a:Act} {w:World} {K:Act→World→Prop} {Q:Exit→Act→World→Prop} {E:Prop} (hgd:o.guard=none) (s x:Operand)
  (ho:o.op=.call { callee:=.builtin .append,args:=#[s,x],argTypes:=#[133,133] })
  (v0:Value) (n0:Nat) (xs0:List Value) (hs:a.eval s=v0) (hown:w.ownsRow 0 136 5 v0 n0 xs0) (b:Nat) (p:Prt)
  (hx:a.eval x=.slice (some ⟨b,0,none⟩) 1 1) (hb:Blk w b (cellP p).toArray 136) (hl:n0≤1000000)
  (h:∀g' c' w',w'.ownsRow 0 136 5 (.slice (some ⟨g',0,none⟩) (n0+1) c') (n0+1) (xs0++cellP p)→w.grownBy w' v0.ownBlock→(v0.ownBlock=some g'∨g'=w.heap.size)→K (a.put o.dst (.slice (some ⟨g',0,none⟩) (n0+1) c')) w'):
  if Region.wanted o (yielded ops a.tmps)=true then Oper.wp Tryz.prog o a w K Q else E:=by
 have hw:Region.wanted o (yielded ops a.tmps)=true:=by simp [Region.wanted,hgd]
 rw [if_pos hw]
 obtain⟨i,hi,hz,hsize,hby⟩:=info_parts infoP
 have hnews:∀j u,(cellP p)[j]?=some u→w.cell? ((⟨b,0,none⟩:Addr).add j)=some u:=by
  intro j u hj
  rw [Addr.add_lit,hb.cell,Nat.zero_add]
  simpa using hj
 obtain⟨v',w',hr',h2,h3,h4,h5⟩:=run_append_own_at (P:=Tryz.prog) w 0 133 o.type 136 i _ 5 40 Tryz.underlying133 hi hz hsize hby rfl (by omega) _ n0 xs0 hown ⟨b,0,none⟩ 1 1 (cellP p) rfl hnews
  (by intro u hu;simp [cellP]at hu;rcases hu with rfl|rfl|rfl|rfl|rfl<;>rfl) (by unfold maxLen;omega) (by omega) (Nat.zero_le _)
 unfold Oper.wp execOp
 simp only [ho,resolve,invoke,builtin,Sem.run_bind,Sem.run_pure,Result.andThen_ok,List.map_toArray,List.map_cons,List.map_nil,hs,hx,hr']
 rcases h2.2 with⟨hv,hn⟩|⟨g',c',cur,hv,h6⟩
 ·omega
 ·subst hv
  refine h g' c' w' h2 h3 ?_
  rcases h5 with h5|h5
  ·exact .inl h5.symm
  ·exact .inr (by simpa [Value.ownBlock]using h5)
theorem owns_slice {w:World} {base:Nat} {e:TypeId} {size n:Nat} {v:Value} {xs:List Value} (h:w.ownsRow base e size v n xs):∃a c,v=.slice a n c:=by
 rcases h.2 with⟨rfl,rfl⟩|⟨g,cap,cur,rfl,_⟩
 ·exact⟨_,_,rfl⟩
 ·exact⟨_,_,rfl⟩
theorem fd_opens {W X w':World} {fb n g' c':Nat} {s:ByteArray} {pv ov:Value} {L:List Prt} {O:List Nat} (hF:Fd W fb s pv L ov O) (hX:Frm (fun _=>False) W X) (hgr:X.grownBy w' ov.ownBlock)
  (hown:w'.ownsRow 0 3 1 (.slice (some ⟨g',0,none⟩) (O.length+1) c') (O.length+1) (cellsO O++ [.int .i64 (n:Int)])) (hg:ov.ownBlock=some g'∨W.heap.size≤g'):
  FdTo W fb s pv ov L (O++ [n]) (w'.setCell ⟨fb,2,none⟩ (.slice (some ⟨g',0,none⟩) (O.length+1) c')):=by
 have hlt:=hF.lt
 have F1:Frm (fun k=>ov.ownBlock=some k) W w':=(hX.mono (fun _ _ h=>absurd h id)).grown hgr (fun k hk=> .inl hk)
 have F2:Frm (fun k=>k=fb) w' (w'.setCell ⟨fb,2,none⟩ (.slice (some ⟨g',0,none⟩) (O.length+1) c')):=(Frm.refl _ _).put _ _
 have hgf:g'≠fb:=by
  rintro rfl
  rcases hg with h|h
  ·exact hF.no h
  ·have:=hlt g' (.inl rfl);omega
 refine⟨pv,.slice (some ⟨g',0,none⟩) (O.length+1) c',⟨?_,?_,?_,hF.np,fun e=>hgf (by simpa [Value.ownBlock]using e),?_⟩,?_,?_⟩
 ·have:=(hF.obj.frm F1 hF.no).set 2 (.slice (some ⟨g',0,none⟩) (O.length+1) c')
  simpa using this
 ·exact own_frm F2 (own_frm F1 hF.parts (fun k hk=>hF.ne k hk)) (fun k hk e=>hF.np (by rw [←e];exact hk))
 ·have e:cellsO (O++ [n])=cellsO O++ [.int .i64 (n:Int)]:=by simp [cellsO]
  rw [e,List.length_append]
  exact own_frm F2 hown (fun k hk=>by simp [Value.ownBlock]at hk;omega)
 ·intro b hb e
  have e2:g'=b:=by simpa [Value.ownBlock]using e
  subst e2
  rcases hg with h|h
  ·exact hF.ne _ hb h
  ·have:=hlt g' (.inr (.inl hb));omega
 ·exact(F1.mono (fun k _ h=> .inr (.inr h))).trans (F2.mono (fun k _ h=> .inl h)) (fun k _ h=>h)
 ·rintro k (h|h|h)
  ·exact .inl (.inl h)
  ·exact .inl (.inr (.inl h))
  ·have e2:g'=k:=by simpa [Value.ownBlock]using h
   subst e2
   rcases hg with h|h
   ·exact .inl (.inr (.inr h))
   ·exact .inr h
theorem fd_parts {W X w':World} {fb g' c':Nat} {s:ByteArray} {pv ov:Value} {L:List Prt} {O:List Nat} {p:Prt} (hF:Fd W fb s pv L ov O) (hX:Frm (fun _=>False) W X) (hgr:X.grownBy w' pv.ownBlock)
  (hown:w'.ownsRow 0 136 5 (.slice (some ⟨g',0,none⟩) (L.length+1) c') (L.length+1) (cellsP L++cellP p)) (hg:pv.ownBlock=some g'∨W.heap.size≤g'):
  FdTo W fb s pv ov (L++ [p]) O (w'.setCell ⟨fb,1,none⟩ (.slice (some ⟨g',0,none⟩) (L.length+1) c')):=by
 have hlt:=hF.lt
 have F1:Frm (fun k=>pv.ownBlock=some k) W w':=(hX.mono (fun _ _ h=>absurd h id)).grown hgr (fun k hk=> .inl hk)
 have F2:Frm (fun k=>k=fb) w' (w'.setCell ⟨fb,1,none⟩ (.slice (some ⟨g',0,none⟩) (L.length+1) c')):=(Frm.refl _ _).put _ _
 have hgf:g'≠fb:=by
  rintro rfl
  rcases hg with h|h
  ·exact hF.np h
  ·have:=hlt g' (.inl rfl);omega
 refine⟨.slice (some ⟨g',0,none⟩) (L.length+1) c',ov,⟨?_,?_,?_,fun e=>hgf (by simpa [Value.ownBlock]using e),hF.no,?_⟩,?_,?_⟩
 ·have:=(hF.obj.frm F1 hF.np).set 1 (.slice (some ⟨g',0,none⟩) (L.length+1) c')
  simpa using this
 ·have e:cellsP (L++ [p])=cellsP L++cellP p:=by rw [cellsP_append];simp [cellsP]
  rw [e,List.length_append]
  exact own_frm F2 hown (fun k hk=>by simp [Value.ownBlock]at hk;omega)
 ·exact own_frm F2 (own_frm F1 hF.opens (fun k hk e=>hF.ne k e hk)) (fun k hk e=>hF.no (by rw [←e];exact hk))
 ·intro b hb e
  have e2:g'=b:=by simpa [Value.ownBlock]using hb
  subst e2
  rcases hg with h|h
  ·exact hF.ne _ h e
  ·have:=hlt g' (.inr (.inr e));omega
 ·exact(F1.mono (fun k _ h=> .inr (.inl h))).trans (F2.mono (fun k _ h=> .inl h)) (fun k _ h=>h)
 ·rintro k (h|h|h)
  ·exact .inl (.inl h)
  ·have e2:g'=k:=by simpa [Value.ownBlock]using h
   subst e2
   rcases hg with h|h
   ·exact .inl (.inr (.inl h))
   ·exact .inr h
  ·exact .inl (.inr (.inr h))
section
variable (w:World)
set_option maxHeartbeats 4000000 in
theorem begin_core (fb n z:Nat) (s:ByteArray) (pa oa:Option Addr) (pc oc:Nat) (L:List Prt) (O:List Nat) (m k:Nat) (up:Int) (hF:Fd w fb s (.slice pa n pc) L (.slice oa z oc) O) (hn:Hid (n=L.length)) (hz:Hid (z=O.length)) (hnl:n≤900000) (hzl:z≤900000)
  (hup:(z=0∧up= -1)∨(0<z∧∃ob j,oa=some ⟨ob,0,none⟩∧IntKind.i64.wrap ((z:Int) - 1)=((j:Nat):Int)∧j<z∧w.cell? ⟨ob,j,none⟩=some (.int .i64 up))):
  Calls Tryz.prog 247 #[.pointer (some ⟨fb,0,none⟩),.agg #[.int .i64 (m:Int),.int .i64 (k:Int)]] w fun e w'=>(∃v,e=.returned v)∧FdTo w fb s (.slice pa n pc) (.slice oa z oc) (L++ [⟨m,k,0,up,false⟩]) (O++ [n]) w':=by
 have hlt:=hF.obj.lt
 have c1:w.cell? ⟨fb,1,none⟩=some (.slice pa n pc):=hF.obj.cell 1
 have c2:w.cell? ⟨fb,2,none⟩=some (.slice oa z oc):=hF.obj.cell 2
 have hne:¬w.heap.size=fb:=by omega
 have hne1:¬w.heap.size+1=fb:=by omega
 have HF:=Lib.hid hF
 have hup2:(z=0∧up= -1)∨(0<z∧∃ob j,oa=some ⟨ob,0,none⟩∧IntKind.i64.wrap ((z:Int) - 1)=((j:Nat):Int)∧j<z∧w.cell? ⟨ob,j,none⟩=some (.int .i64 up)∧(0:Int)<(z:Int)∧(j:Int)<(z:Int)∧ob<w.heap.size):=by
  rcases hup with h|⟨h0,ob,j,rfl,e1,hj,h3⟩
  ·exact .inl h
  ·exact .inr ⟨h0,ob,j,rfl,e1,hj,h3,by omega,by omega,by
    have:=hF.lt ob (.inr (.inr rfl))
    omega⟩
 clear hF hup
 go_enter Tryz.func247,Tryz.ntmps247
 rcases hup2 with⟨rfl,rfl⟩|⟨h0,ob,j,rfl,e1,hj,h3,h0',h1',hob⟩
 ·go_wp2
  obtain⟨W,hW⟩:∃W,W=w.alloc (.cells #[.int .i64 (m:Int),.int .i64 (k:Int)] 160):=⟨_,rfl⟩
  have hFW:Frm (fun _=>False) w W:=by rw [hW];exact(Frm.refl _ _).alloc _
  have hWs:W.heap.size=w.heap.size+1:=by rw [hW,World.size_alloc]
  have hbx:Blk W w.heap.size #[.int .i64 (m:Int),.int .i64 (k:Int)] 160:=by rw [hW];exact Blk.new _ _ _
  have HFW:=Lib.hid (HF.out.still hFW)
  rw [←hW]
  have d1:=HFW.out.obj.cell 1
  have d2:=HFW.out.obj.cell 2
  simp at d1 d2
  have dlt:=HFW.out.obj.lt
  have hnW:¬W.heap.size=fb:=by omega
  have HWS:=Lib.hid hWs
  obtain⟨bx,hbxe⟩:∃bx,w.heap.size=bx:=⟨_,rfl⟩
  rw [hbxe]at hbx HWS hne hne1 ⊢
  have HBXE:=Lib.hid hbxe
  clear hW c1 c2 hWs hbxe hlt hne1
  have hR:∀X,Frm (fun _=>False) W X→X.ownsRow 0 3 1 (.slice oa 0 oc) 0 (cellsO O):=fun X hX=>own_frm hX (by have:=HFW.out.opens;rw [←hz.out]at this;exact this) (fun _ _ h=>h)
  have hno:=HFW.out.no
  have hbo:(Value.slice oa 0 oc).ownBlock≠some bx:=fun e=>by
   have:=HF.out.lt bx (.inr (.inr e))
   have:=HBXE.out
   omega
  go_cut []from 21 to 34 (fun wx=>FdTo W fb s (.slice pa n pc) (.slice oa 0 oc) L (O++ [n]) wx∧Blk wx bx #[.int .i64 (m:Int),.int .i64 (k:Int)] 160)
  case first=>
   go_region_law (refine step_app_ints (by rfl) _ _ (by rfl) (.slice oa 0 oc) 0 (cellsO O) (by rfl) (hR _ (((Frm.refl _ W).alloc _).drew)) W.heap.size 1 1 [.int .i64 (n:Int)] (by rfl) ⟨rfl,.inr ⟨W.heap.size,1,_,rfl,Nat.zero_le _,(Blk.new W _ _).drew,Nat.le_refl _,by unfold maxLen;omega,rfl,rfl⟩⟩ (by intro u hu;simp at hu;subst hu;rfl) (by omega) (by omega) (0+1) rfl ?_;intro g' c' w1 hown hgr hg';have o7:=((HFW.out.obj.alloc (.cells #[.int .i64 (n:Int)] 3)).drew).grown hgr (Ne.symm hno);have d7:w1.cell? ⟨fb,2,none⟩=some (.slice oa 0 oc):=o7.cell 2;have df:=o7.frozen 2)
   all_goals
    go_wp2_with fail
    have hg2:(Value.slice oa 0 oc).ownBlock=some g'∨W.heap.size≤g':=by
     refine hg'.imp id fun h=>?_
     have e:g'=W.heap.size+1:=h.trans (World.size_alloc _ _)
     omega
    have hT1:=fd_opens (n:=n) (g':=g') (c':=c') HFW.out (((Frm.refl _ W).alloc (.cells #[.int .i64 (n:Int)] 3)).drew) hgr (by rw [←hz.out];exact hown) hg2
    rw [←hz.out]at hT1
    go_meet
    case rel=>exact⟨hT1,(((hbx.alloc (.cells #[.int .i64 (n:Int)] 3)).drew).grown hgr (Ne.symm hbo)).other (b':=fb) 2 (.slice (some ⟨g',0,none⟩) (0+1) c') hne⟩
  case rest=>
   obtain⟨hT1,hb1⟩:=hcut
   clear d1 d2 hR hno hbo hbx
   obtain⟨V,hV⟩:∃V,V=wc:=⟨_,rfl⟩
   rw [←hV]at hT1 hb1 ⊢
   clear hV
   obtain⟨pv2,ov2,hF2,hFr2,hk2⟩:=hT1
   have HF2:=Lib.hid hF2
   have hP2:=hF2.parts
   rw [←hn.out]at hP2
   obtain⟨pa2,pc2,rfl⟩:=owns_slice hP2
   have u1:=hF2.obj.cell 1
   have elt:=hF2.obj.lt
   simp at u1
   have b0:V.cell? ⟨bx,0,none⟩=some (.int .i64 (m:Int)):=hb1.cell 0
   have b1:V.cell? ⟨bx,1,none⟩=some (.int .i64 (k:Int)):=hb1.cell 1
   have HK2:=Lib.hid hk2
   have hnp:=hF2.np
   have hnV:¬V.heap.size=fb:=by omega
   have hnb:¬V.heap.size=bx:=by have:=hb1.lt;omega
   clear hF2 hk2
   have hRP:∀X,Frm (fun _=>False) V X→X.ownsRow 0 136 5 (.slice pa2 n pc2) n (cellsP L):=fun X hX=>own_frm hX hP2 (fun _ _ h=>h)
   go_wp2
   go_region_law (refine step_app_part (by rfl) _ _ (by rfl) (.slice pa2 n pc2) n (cellsP L) (by rfl) (hRP _ (((Frm.refl _ V).alloc _).drew)) V.heap.size ⟨m,k,0,-1,false⟩ (by rfl) ((Blk.new V _ _).drew) (by omega) ?_;intro g2 c2 w2 hown hgr hg';have o7:=((HF2.out.obj.alloc (.cells (cellP ⟨m,k,0,-1,false⟩).toArray 136)).drew).grown hgr (Ne.symm hnp);have d7:w2.cell? ⟨fb,1,none⟩=some (.slice pa2 n pc2):=o7.cell 1;have df:=o7.frozen 1)
   all_goals
    go_wp2
    refine bodyPost_end (results_none rfl _ _ _) rfl ?_
    refine⟨⟨_,rfl⟩,?_⟩
    have hg3:(Value.slice pa2 n pc2).ownBlock=some g2∨V.heap.size≤g2:=by
     refine hg'.imp id fun h=>?_
     have e:g2=V.heap.size+1:=h.trans (World.size_alloc _ _)
     omega
    have hT2:=fd_parts (g':=g2) (c':=c2) (p:=⟨m,k,0,-1,false⟩) HF2.out (((Frm.refl _ V).alloc (.cells (cellP ⟨m,k,0,-1,false⟩).toArray 136)).drew) hgr (by rw [←hn.out];exact hown) hg3
    rw [←hn.out]at hT2
    have hT3:=FdTo.trans hFr2 HK2.out hT2
    exact FdTo.trans (hFW.mono (fun _ _ h=>absurd h id)) (fun _ h=> .inl h) hT3
 ·go_wp2
  obtain⟨W,hW⟩:∃W,W=w.alloc (.cells #[.int .i64 (m:Int),.int .i64 (k:Int)] 160):=⟨_,rfl⟩
  have hFW:Frm (fun _=>False) w W:=by rw [hW];exact(Frm.refl _ _).alloc _
  have hWs:W.heap.size=w.heap.size+1:=by rw [hW,World.size_alloc]
  have hbx:Blk W w.heap.size #[.int .i64 (m:Int),.int .i64 (k:Int)] 160:=by rw [hW];exact Blk.new _ _ _
  have HFW:=Lib.hid (HF.out.still hFW)
  rw [←hW]
  have d1:=HFW.out.obj.cell 1
  have d2:=HFW.out.obj.cell 2
  simp at d1 d2
  have dlt:=HFW.out.obj.lt
  have hnW:¬W.heap.size=fb:=by omega
  have HWS:=Lib.hid hWs
  obtain⟨bx,hbxe⟩:∃bx,w.heap.size=bx:=⟨_,rfl⟩
  rw [hbxe]at hbx HWS hne hne1 ⊢
  have HBXE:=Lib.hid hbxe
  clear hW c1 c2 hWs hbxe hlt hne1
  have hR:∀X,Frm (fun _=>False) W X→X.ownsRow 0 3 1 (.slice (some ⟨ob,0,none⟩) z oc) z (cellsO O):=fun X hX=>own_frm hX (by have:=HFW.out.opens;rw [←hz.out]at this;exact this) (fun _ _ h=>h)
  have hno:=HFW.out.no
  have hbo:(Value.slice (some ⟨ob,0,none⟩) z oc).ownBlock≠some bx:=fun e=>by
   have:=HF.out.lt bx (.inr (.inr e))
   have:=HBXE.out
   omega
  go_cut []from 21 to 34 (fun wx=>FdTo W fb s (.slice pa n pc) (.slice (some ⟨ob,0,none⟩) z oc) L (O++ [n]) wx∧Blk wx bx #[.int .i64 (m:Int),.int .i64 (k:Int)] 160)
  case first=>
   go_region_law (refine step_app_ints (by rfl) _ _ (by rfl) (.slice (some ⟨ob,0,none⟩) z oc) z (cellsO O) (by rfl) (hR _ (((Frm.refl _ W).alloc _).drew)) W.heap.size 1 1 [.int .i64 (n:Int)] (by rfl) ⟨rfl,.inr ⟨W.heap.size,1,_,rfl,Nat.zero_le _,(Blk.new W _ _).drew,Nat.le_refl _,by unfold maxLen;omega,rfl,rfl⟩⟩ (by intro u hu;simp at hu;subst hu;rfl) (by omega) (by omega) (z+1) rfl ?_;intro g' c' w1 hown hgr hg';have o7:=((HFW.out.obj.alloc (.cells #[.int .i64 (n:Int)] 3)).drew).grown hgr (Ne.symm hno);have d7:w1.cell? ⟨fb,2,none⟩=some (.slice (some ⟨ob,0,none⟩) z oc):=o7.cell 2;have df:=o7.frozen 2)
   all_goals
    go_wp2_with fail
    have hg2:(Value.slice (some ⟨ob,0,none⟩) z oc).ownBlock=some g'∨W.heap.size≤g':=by
     refine hg'.imp id fun h=>?_
     have e:g'=W.heap.size+1:=h.trans (World.size_alloc _ _)
     omega
    have hT1:=fd_opens (n:=n) (g':=g') (c':=c') HFW.out (((Frm.refl _ W).alloc (.cells #[.int .i64 (n:Int)] 3)).drew) hgr (by rw [←hz.out];exact hown) hg2
    rw [←hz.out]at hT1
    go_meet
    case rel=>exact⟨hT1,(((hbx.alloc (.cells #[.int .i64 (n:Int)] 3)).drew).grown hgr (Ne.symm hbo)).other (b':=fb) 2 (.slice (some ⟨g',0,none⟩) (z+1) c') hne⟩
  case rest=>
   obtain⟨hT1,hb1⟩:=hcut
   clear d1 d2 hR hno hbo hbx
   obtain⟨V,hV⟩:∃V,V=wc:=⟨_,rfl⟩
   rw [←hV]at hT1 hb1 ⊢
   clear hV
   obtain⟨pv2,ov2,hF2,hFr2,hk2⟩:=hT1
   have HF2:=Lib.hid hF2
   have hP2:=hF2.parts
   rw [←hn.out]at hP2
   obtain⟨pa2,pc2,rfl⟩:=owns_slice hP2
   have u1:=hF2.obj.cell 1
   have elt:=hF2.obj.lt
   simp at u1
   have b0:V.cell? ⟨bx,0,none⟩=some (.int .i64 (m:Int)):=hb1.cell 0
   have b1:V.cell? ⟨bx,1,none⟩=some (.int .i64 (k:Int)):=hb1.cell 1
   have HK2:=Lib.hid hk2
   have hnp:=hF2.np
   have hnV:¬V.heap.size=fb:=by omega
   have hnb:¬V.heap.size=bx:=by have:=hb1.lt;omega
   clear hF2 hk2
   have hRP:∀X,Frm (fun _=>False) V X→X.ownsRow 0 136 5 (.slice pa2 n pc2) n (cellsP L):=fun X hX=>own_frm hX hP2 (fun _ _ h=>h)
   go_wp2
   go_region_law (refine step_app_part (by rfl) _ _ (by rfl) (.slice pa2 n pc2) n (cellsP L) (by rfl) (hRP _ (((Frm.refl _ V).alloc _).drew)) V.heap.size ⟨m,k,0,up,false⟩ (by rfl) ((Blk.new V _ _).drew) (by omega) ?_;intro g2 c2 w2 hown hgr hg';have o7:=((HF2.out.obj.alloc (.cells (cellP ⟨m,k,0,up,false⟩).toArray 136)).drew).grown hgr (Ne.symm hnp);have d7:w2.cell? ⟨fb,1,none⟩=some (.slice pa2 n pc2):=o7.cell 1;have df:=o7.frozen 1)
   all_goals
    go_wp2
    refine bodyPost_end (results_none rfl _ _ _) rfl ?_
    refine⟨⟨_,rfl⟩,?_⟩
    have hg3:(Value.slice pa2 n pc2).ownBlock=some g2∨V.heap.size≤g2:=by
     refine hg'.imp id fun h=>?_
     have e:g2=V.heap.size+1:=h.trans (World.size_alloc _ _)
     omega
    have hT2:=fd_parts (g':=g2) (c':=c2) (p:=⟨m,k,0,up,false⟩) HF2.out (((Frm.refl _ V).alloc (.cells (cellP ⟨m,k,0,up,false⟩).toArray 136)).drew) hgr (by rw [←hn.out];exact hown) hg3
    rw [←hn.out]at hT2
    have hT3:=FdTo.trans hFr2 HK2.out hT2
    exact FdTo.trans (hFW.mono (fun _ _ h=>absurd h id)) (fun _ h=> .inl h) hT3
end
structure FrR (w:World) (ao:Option Addr) (len:Nat) (fl:List Fr):Prop where
 len:len=fl.length
 cells:∀i x,fl[i]?=some x→∃b off,ao=some ⟨b,off,none⟩∧b<w.heap.size∧w.cell? ⟨b,off+i*2,none⟩=some (.int .i64 (x.1:Int))∧w.cell? ⟨b,off+i*2+1,none⟩=some (.int .i64 (x.2:Int))
theorem FrR.frm {p:Nat→Prop} {w w':World} {ao:Option Addr} {len:Nat} {fl:List Fr} (h:FrR w ao len fl) (hf:Frm p w w') (hp:∀b off,ao=some ⟨b,off,none⟩→¬p b):FrR w' ao len fl:=
 ⟨h.len,fun i x hx=>by
  obtain⟨b,off,h1,h2,h3,h4⟩:=h.cells i x hx
  exact⟨b,off,h1,Nat.lt_of_lt_of_le h2 hf.size,(hf.cell h2 (hp b off h1)).trans h3,(hf.cell h2 (hp b off h1)).trans h4⟩⟩
section
variable (w:World)
theorem stands_fd (fb:Nat) (s:ByteArray) (pv:Value) (oa:Option Addr) (z oc:Nat) (L:List Prt) (O:List Nat) (o:Nat) (p:Prt) (ao:Option Addr) (len fcap:Nat) (fl:List Fr) (hF:Fd w fb s pv L (.slice oa z oc) (O++ [o])) (hp:L[o]?=some p) (hfl:FrR w ao len fl) (hlen:len≤1000000) (hO:O.length≤1000000)
  (x:Bool) (hx:Hid (x=standsB fl (O.length+1) p.frm)):
  Calls Tryz.prog 244 #[.pointer (some ⟨fb,0,none⟩),.slice ao len fcap] w fun e w'=>e=.returned (.bool x)∧∃q,w'=w.drewN q:=by
 obtain⟨pb,pcap,ob,ocap,rfl,hov,hc,h3,hfz,hoc,hol,hpc,npf,nof,npo⟩:=hF.last hp
 cases hov
 have c1:=hF.obj.cell 1
 have c2:=hF.obj.cell 2
 simp at c1 c2
 have hl:=hfl.len
 by_cases h:O.length+1≤fl.length
 ·obtain⟨b,off,rfl,_,_,h5⟩:=hfl.cells O.length fl[O.length] (List.getElem?_eq_getElem (by omega))
  refine stands_core w fb pb _ pcap ob _ O.length oc o p.frm b off len fcap (Lib.hid rfl) hO hol hlen c1 c2 h3 (hc 1 _ rfl) _ x (.inr ⟨by omega,(fl[O.length]).2,rfl,h5,?_⟩)
  rw [hx.out]
  unfold standsB
  rw [Nat.add_sub_cancel,List.getElem?_eq_getElem (by omega)]
  simp [h]
 ·refine stands_core w fb pb _ pcap ob _ O.length oc o p.frm 0 0 len fcap (Lib.hid rfl) hO hol hlen c1 c2 h3 (hc 1 _ rfl) ao x (.inl ⟨by omega,?_⟩)
  rw [hx.out]
  unfold standsB
  simp [h]
theorem begin_fd (fb:Nat) (s:ByteArray) (pv ov:Value) (L:List Prt) (O:List Nat) (m k:Nat) (up:Int) (n:Nat) (hF:Fd w fb s pv L ov O) (hn:n=L.length) (hL:L.length≤900000) (hO:O.length≤900000)
  (hup:(O=[]∧up= -1)∨∃O' o,O=O'++ [o]∧up=(o:Nat)):
  Calls Tryz.prog 247 #[.pointer (some ⟨fb,0,none⟩),.agg #[.int .i64 (m:Int),.int .i64 (k:Int)]] w fun e w'=>(∃v,e=.returned v)∧FdTo w fb s pv ov (L++ [⟨m,k,0,up,false⟩]) (O++ [n]) w':=by
 subst hn
 obtain⟨pa,pc,rfl⟩:=owns_slice hF.parts
 obtain⟨oa,oc,rfl⟩:=owns_slice hF.opens
 refine begin_core w fb L.length O.length s pa oa pc oc L O m k up hF (Lib.hid rfl) (Lib.hid rfl) hL hO ?_
 rcases hup with⟨rfl,rfl⟩|⟨O',o,rfl,rfl⟩
 ·exact .inl ⟨rfl,rfl⟩
 ·obtain⟨ob,ocap,hv,_,_,_,_⟩:=owns_nil hF.opens (by simp)
  cases hv
  refine .inr ⟨by simp,ob,O'.length,rfl,?_,by simp,?_⟩
  ·rw [IntWalk.i64_in _ (by omega)]
   simp
  ·have:=hF.opens.cells (g:=ob) rfl O'.length (.int .i64 (o:Int)) (by simp [cellsO])
   rwa [Addr.add_lit,Nat.zero_add]at this
theorem moded {w W:World} {fb:Nat} {s:ByteArray} {pb pcap n:Nat} {ov:Value} {L:List Prt} {O:List Nat} {o:Nat} {p:Prt} (hF:Fd w fb s (.slice (some ⟨pb,0,none⟩) n pcap) L ov O) (hn:n=L.length) (hp:L[o]?=some p)
  (hW:Frm (fun _=>False) w W) (m:Nat):
  FdTo w fb s (.slice (some ⟨pb,0,none⟩) n pcap) ov (L.set o { p with mode:=m }) O (W.setCell ⟨pb,o*5,none⟩ (.int .i64 (m:Int))):=by
 subst hn
 have hl:o<L.length:=(List.getElem?_eq_some_iff.1 hp).1
 have hFW:=hF.still hW
 have npf:pb≠fb:=fun e=>hF.np (by rw [e];rfl)
 have h1:=owns_set hFW.parts (o*5) (.int .i64 (m:Int)) (by rw [cellsP_length];omega)
 have e1:(cellsP L).set (o*5) (.int .i64 (m:Int))=cellsP (L.set o { p with mode:=m }):=by
  have:=cellsP_set (c:=0) (v:=.int .i64 (m:Int)) (q:={ p with mode:=m }) hp ⟨rfl,by omega⟩
  rw [this,Nat.add_zero]
 rw [e1]at h1
 have F1:Frm (fun k=>k=pb) W (W.setCell ⟨pb,o*5,none⟩ (.int .i64 (m:Int))):=(Frm.refl _ W).put _ _
 refine⟨.slice (some ⟨pb,0,none⟩) L.length pcap,ov,⟨hFW.obj.frm F1 (fun e=>npf e.symm),?_,?_,hF.np,hF.no,hF.ne⟩,?_,fun k hk=> .inl hk⟩
 ·rw [List.length_set]
  exact h1
 ·exact own_frm F1 hFW.opens (fun k hk e=>hF.ne pb rfl (by rw [←e];exact hk))
 ·exact Frm.setCell (hW.mono (fun _ _ h=>absurd h id)) _ (.inl (.inr (.inl rfl))) _
end
theorem stands_no {s:ByteArray} {k i j m f:Nat} {T R:List Fr} (hS:Sim T ((nt s k).drop j)) (hN:nt s (k+1)=T∨∃n,nt s (k+1)=(n,k)::T) (hD:(nt s k).drop i=(m,f)::R) (hi:i<j):standsB (nt s (k+1)).reverse (R.length+1) f=false:=by
 unfold standsB
 rw [decide_eq_false_iff_not]
 rintro⟨h1,h2⟩
 obtain⟨hp,_,_⟩:=drop_pres hD
 have hlt:=pres_lt hp
 obtain⟨x,hx,hxf⟩:=Option.map_eq_some_iff.1 h2
 have hm:x∈nt s (k+1):=by
  have:=List.mem_of_getElem? hx
  simpa using this
 have h3:pres s (k+1) f=true:=pres_iff.2 ⟨x.1,by rw [←hxf];exact hm⟩
 obtain⟨n,hn⟩:=(stay hS hN hlt).1 h3
 have hpw:=nt_pw s k
 rw [←List.take_append_drop i (nt s k),hD]at hpw
 have hpw2:=(List.pairwise_append.1 hpw).2.1
 have e:(nt s k).drop j=R.drop (j - (i+1)):=by
  rw [show j=i+((j - (i+1))+1) by omega,←List.drop_drop,hD,List.drop_succ_cons]
  congr 1
  omega
 rw [e]at hn
 have:=(List.pairwise_cons.1 hpw2).1 _ (List.mem_of_mem_drop hn)
 simp at this
theorem fl_some {s:ByteArray} {k j m f:Nat} {T R:List Fr} (hS:Sim T ((nt s k).drop j)) (hN:nt s (k+1)=T∨∃n,nt s (k+1)=(n,k)::T) (hD:(nt s k).drop j=(m,f)::R):T=(md s (k+1) f,f)::R∧(nt s (k+1)).reverse[R.length]?=some (md s (k+1) f,f)∧standsB (nt s (k+1)).reverse (R.length+1) f=true:=by
 obtain⟨hp,_,_⟩:=drop_pres hD
 have hT:∃n,T=(n,f)::R:=by
  rw [hD]at hS
  rcases hS with rfl|⟨m1,n1,f1,r1,h1,rfl,_⟩
  ·exact⟨m,rfl⟩
  ·cases h1
   exact⟨n1,rfl⟩
 obtain⟨n,rfl⟩:=hT
 have hmd:md s (k+1) f=n:=by
  rcases hN with h|⟨n2,h⟩
  ·exact md_at (A:=[]) h
  ·exact md_at (A:=[(n2,k)]) h
 have hg:(nt s (k+1)).reverse[R.length]?=some (n,f):=by
  rcases hN with h|⟨n2,h⟩<;>rw [h]<;>simp
 rw [hmd]
 refine⟨rfl,hg,?_⟩
 unfold standsB
 rw [Nat.add_sub_cancel,hg]
 have hl:R.length<(nt s (k+1)).reverse.length:=(List.getElem?_eq_some_iff.1 hg).1
 simp only [Option.map_some,decide_eq_true_iff,and_true]
 omega
def FoRel (s:ByteArray) (fb:Nat) (pv ov:Value) (k j:Nat) (w:World) (g:Nat) (wr:World):Prop:=
 ∃pv2 oa z oc,Fd wr fb s pv2 (LKi s k (j - g)) (.slice oa z oc) (OKi s k (j - g))∧Frm (ffoot fb pv ov) w wr∧(∀b,ffoot fb pv2 (.slice oa z oc) b→ffoot fb pv ov b∨w.heap.size≤b)∧g≤j
section
variable (w:World)
set_option maxRecDepth 100000 in
set_option maxHeartbeats 4000000 in
theorem follow_any (fb:Nat) (s:ByteArray) (pv ov:Value) (k k1:Nat) (hk1:Hid (k1=k+1)) (ao:Option Addr) (len fcap:Nat) (hF:Fd w fb s pv (LK s k) ov (OKi s k 0)) (hk:k<s.size) (hs:s.size≤100000) (hfl:FrR w ao len (nt s (k+1)).reverse) (hfr:∀b off,ao=some ⟨b,off,none⟩→¬ffoot fb pv ov b):
  Calls Tryz.prog 225 #[.pointer (some ⟨fb,0,none⟩),.slice ao len fcap,.int .i64 (k1:Int)] w fun e w'=>(∃v,e=.returned v)∧FdTo w fb s pv ov (LK s (k+1)) (OKi s (k+1) 0) w':=by
 obtain⟨j,T,hj,hS,hN0⟩:=nt_tr s k
 have hN:=tr_or hN0
 have hntl:=nt_len s k
 have hll:len≤100001:=by have h1:=hfl.len;have h2:=nt_len s (k+1);simp at h1;omega
 have HF:=Lib.hid hF
 have HS:=Lib.hid hS
 have HN:=Lib.hid hN
 have HN0:=Lib.hid hN0
 have HFL:=Lib.hid hfl
 have HFR:=Lib.hid hfr
 clear hF hS hN hN0 hfl hfr
 go_enter Tryz.func225,Tryz.ntmps225
 go_wp2
 go_loopg [] j (fun g wr=>FoRel s fb pv ov k j w g wr)
 case atStart=>
  have h:=HF.out
  obtain⟨oa,oc,rfl⟩:=owns_slice h.opens
  refine⟨pv,oa,_,oc,?_,Frm.refl _ _,fun b hb=> .inl hb,Nat.le_refl _⟩
  rw [Nat.sub_self,LKi_zero]
  exact h
 case round=>
  obtain⟨pv2,oa,z,oc,hF2,hFr2,hk2,hgj⟩:=hrel
  have hflr:=HFL.out.frm hFr2 HFR.out
  have c2:wr.cell? ⟨fb,2,none⟩=some (.slice oa z oc):=hF2.obj.cell 2
  have hzo:z=(OKi s k (j - gk)).length:=by
   have h1:=hF2.opens
   rcases h1.2 with⟨h2,h3⟩|⟨_,_,_,h2,_⟩
   ·cases h2;exact h3.symm
   ·cases h2;rfl
  rw [OKi_len]at hzo
  have HFr2:=Lib.hid hFr2
  have HK2:=Lib.hid hk2
  have HFLR:=Lib.hid hflr
  clear hFr2 hk2 hflr
  by_cases hg0:gk=0
  ·
   subst hg0
   rw [Nat.sub_zero]at hF2 hzo
   cases hD:(nt s k).drop j with
   |nil=>
    have hz0:z=0:=by have:=congrArg List.length hD;simp at this;omega
    have hO:OKi s k j=[]:=by unfold OKi;rw [hD];rfl
    have hL:LKi s k j=(bornL s k).map (prtK s (k+1)):=LK_none HS.out HN.out hD
    rw [hO,hL]at hF2
    subst hz0
    have HD:=Lib.hid hD
    clear hzo hD hO hL
    have hT0:T=[]:=by
     have:=(sim_places HS.out).1
     rw [HD.out]at this
     simpa using this
    rcases HN0.out with hn|⟨m3,hn,ho,_⟩
    ·
     have hln:len=0:=by have:=HFLR.out.len;rw [hn,hT0]at this;exact this
     subst hln
     have hnb:=not_born HS.out hn
     have HFF:=Lib.hid hF2
     clear hF2
     have HNN:=Lib.hid hn
     have HNB:=Lib.hid hnb
     have HT0:=Lib.hid hT0
     clear hn hnb hT0
     go_wp2
     refine bodyPost_end (results_none rfl _ _ _) rfl ?_
     refine⟨⟨_,rfl⟩,pv2,.slice oa 0 oc,?_,HFr2.out,HK2.out⟩
     rw [LK_next,if_neg (by rw [HNB.out];simp),List.append_nil]
     have e:OKi s (k+1) 0=[]:=by unfold OKi;rw [HNN.out,HT0.out];rfl
     rw [e]
     exact HFF.out
    ·
     have hln:len=1:=by have:=HFLR.out.len;rw [hn,hT0]at this;exact this
     subst hln
     obtain⟨hb,hp,hbl⟩:=is_born hn ho
     obtain⟨b,off,rfl,hblt,q0,q1⟩:=HFLR.out.cells 0 (m3,k) (by rw [hn,hT0];rfl)
     simp only [Nat.zero_mul,Nat.add_zero]at q0 q1
     have hup:upI s k= -1:=by unfold upI;rw [hbl,hT0]
     rw [hup]at hp
     have hlen:((bornL s k).map (prtK s (k+1))).length≤900000:=by have:=bornL_len s k;simp;omega
     have HBE:=Lib.hid (fun W hW=>begin_fd W fb s pv2 (.slice oa 0 oc) _ [] m3 k (-1) _ (hF2.still hW) rfl hlen (by simp) (.inl ⟨rfl,rfl⟩))
     have HNN:=Lib.hid hn
     have HT0:=Lib.hid hT0
     have HB:=Lib.hid hb
     have HP:=Lib.hid hp
     clear hF2 hn hT0 hb hp hbl hup hlen
     go_wp2_with fail
     refine(HBE.out _ (Frm.refl _ _)).mono ?_
     rintro e w3 ⟨⟨v,rfl⟩,hT⟩
     go_wp2
     refine bodyPost_end (results_none rfl _ _ _) rfl ?_
     refine⟨⟨_,rfl⟩,?_⟩
     rw [LK_next,if_pos HB.out,HP.out]
     have e:OKi s (k+1) 0=[]++ [((bornL s k).map (prtK s (k+1))).length]:=by
      unfold OKi
      rw [HNN.out,HT0.out]
      simp [idx]
     rw [e]
     exact FdTo.trans HFr2.out HK2.out hT
   |cons a R=>
    obtain⟨m,f⟩:=a
    obtain⟨hpr,hmd,hjl⟩:=drop_pres hD
    obtain⟨hT,hfg,hst⟩:=fl_some HS.out HN.out hD
    have hRl:R.length+1=(nt s k).length - j:=by have:=congrArg List.length hD;simp at this;omega
    have hOl:=OKi_last hD
    have hOn:(OKi s k (j+1)).length=R.length:=by rw [OKi_len];omega
    have hg:=LKi_get hD
    have hLs:=LK_some HS.out HN.out hD
    rw [hOl]at hF2
    obtain⟨b,off,rfl,hblt,q0,q1⟩:=HFLR.out.cells R.length _ hfg
    simp only at q0 q1
    have hRlt:R.length<len:=by
     have h1:=(List.getElem?_eq_some_iff.1 hfg).1
     have:=HFLR.out.len
     omega
    have HSTA:=Lib.hid (fun W hW=>stands_fd W fb s pv2 oa z oc _ _ _ _ (some ⟨b,off,none⟩) len fcap _ (hF2.still hW) hg (HFLR.out.frm hW (fun _ _ _ h=>h)) (by omega) (by omega) true (Lib.hid (by rw [hOn,(prtK_frm s k f).1];exact hst.symm)))
    obtain⟨pb,pcap,ob,ocap,rfl,hov,hc,h3,hfz,hoc,hol,hpc,npf,nof,npo⟩:=hF2.last hg
    obtain⟨rfl,hz2,rfl⟩:oa=some ⟨ob,0,none⟩∧z=(OKi s k (j+1)).length+1∧oc=ocap:=by simpa using hov
    clear hov
    rw [hOn]at h3 hz2
    have c1:=hF2.obj.cell 1
    simp at c1
    obtain⟨n,hn⟩:∃n,(LKi s k j).length=n:=⟨_,rfl⟩
    have HLA:=Lib.hid (fun(W:World) (hW:Frm (fun _=>False) wr W)=>last_any W fb pb n pcap ob z R.length oc (idx s f) (Lib.hid hz2) (by omega) (by rw [←hn];exact(hF2.still hW).obj.cell 1) ((hF2.still hW).obj.cell 2) ((hW.cell (by
     have:=hF2.lt ob (.inr (.inr rfl))
     exact this) (fun h=>h)).trans h3) (by omega))
    have HMO:=Lib.hid (fun W hW=>moded (W:=W) hF2 rfl hg hW (cnt (md s (k+1) f)))
    rw [hLs]at HMO
    have p0:=hc 0 _ rfl
    have g0:=hfz (idx s f*5)
    rw [Nat.add_zero]at p0
    have hF20:=HFLR.out
    obtain⟨M,hM⟩:∃M,md s (k+1) f=M:=⟨_,rfl⟩
    rw [hM]at q0 HMO
    obtain⟨o,ho⟩:∃o,idx s f=o:=⟨_,rfl⟩
    rw [ho]at HLA HMO p0 g0
    have hzr:z=R.length+1:=by omega
    have hrl:R.length≤100000:=by omega
    obtain⟨r,hr⟩:∃r,R.length=r:=⟨_,rfl⟩
    rw [hr]at q0 q1 hRlt hzr hrl
    rw [hn]at HMO
    have e1:IntKind.i64.wrap ((z:Int) - 1)=(r:Int):=by rw [IntWalk.i64_in _ (by omega)];omega
    have t0:(0:Int)<(z:Int):=by omega
    have t1:(r:Int)<(len:Int):=by omega
    have t2:(0:Int)≤(r:Int):=by omega
    have HCO:=Lib.hid (fun W=>counted_any W M)
    have hqb:∀W,Frm (fun _=>False) wr W→W.cell? ⟨b,off+r*2,none⟩=some (.int .i64 (M:Int)):=fun W hW=>(hW.cell hblt (fun h=>h)).trans q0
    have hob:∀W,Frm (fun _=>False) wr W→W.cell? ⟨pb,o*5,none⟩=some (.int .i64 ((prtK s k f).mode:Int))∧W.frozen? ⟨pb,o*5,none⟩=false∧W.cell? ⟨fb,2,none⟩=some (.slice (some ⟨ob,0,none⟩) z oc):=by
     intro W hW
     have h1:=hF2.still hW
     refine⟨(hW.cell (by have:=hF2.lt pb (.inr (.inl rfl));exact this) (fun h=>h)).trans p0,owns_frozen h1.parts _,?_⟩
     have:=h1.obj.cell 2
     simp at this
     exact this
    have HQB:=Lib.hid hqb
    have HOB:=Lib.hid hob
    have HR:=Lib.hid hr
    have HZR:=Lib.hid hzr
    have HT:=Lib.hid hT
    have HO:=Lib.hid ho
    have HNL:=Lib.hid hn
    have HOL:=Lib.hid hOl
    have HON:=Lib.hid hOn
    have HD:=Lib.hid hD
    have HRL:=Lib.hid hRl
    have hff:∀b',ffoot fb (.slice (some ⟨pb,0,none⟩) n pcap) (.slice (some ⟨ob,0,none⟩) z oc) b'→ffoot fb pv ov b'∨w.heap.size≤b':=fun b' h=>HK2.out b' h
    have HFF:=Lib.hid hff
    clear hF2 hF20 hzo hz2 hT hn ho hr hOl hOn hg hLs hpr hmd hjl hfg hst hRl hol hpc hoc hc h3 hfz c1 q0 q1 hM hqb hob hD hff p0 g0 hzr HK2
    go_wp2_with fail
    refine(HSTA.out _ (Frm.refl _ _)).mono ?_
    rintro e w3 ⟨rfl,q,rfl⟩
    obtain⟨V,hV⟩:∃V,V=wr.drewN q:=⟨_,rfl⟩
    have hVF:Frm (fun _=>False) wr V:=by rw [hV];exact(Frm.refl _ _).drewN q
    rw [←hV]
    clear hV c2
    obtain⟨v0,vf,v2⟩:=HOB.out V hVF
    have vq:=HQB.out V hVF
    go_wp2
    go_cut []from 29 to 39 (fun wx=>FdTo wr fb s (.slice (some ⟨pb,0,none⟩) n pcap) (.slice (some ⟨ob,0,none⟩) z oc) ((bornL s k).map (prtK s (k+1))) (OKi s k (j+1)++ [o]) wx)
    case first=>
     go_region_with (first
      |(go_at_call 246;refine(HLA.out _ (by first|exact hVF.drew|exact hVF)).mono ?_;rintro e w4 ⟨rfl,q4,rfl⟩)
      |(go_at_call 245;refine(HCO.out _).mono ?_;rintro e w5 ⟨rfl,rfl⟩))
     all_goals
      go_wp2_with fail
      go_meet
      case rel=>exact HMO.out _ (hVF.drewN _)
    case rest=>
     have HWC:=Lib.hid (FdTo.trans HFr2.out HFF.out hcut)
     clear hcut v0 vf v2 vq
     rcases HN0.out with hn|⟨m3,hn,hop,_⟩
     ·
      have hln:len=r+1:=by have:=HFLR.out.len;rw [hn,HT.out]at this;simp at this;rw [HR.out]at this;exact this
      have t5:¬(z:Int)<(len:Int):=by have:=HZR.out;omega
      have HNN:=Lib.hid hn
      have HNB:=Lib.hid (not_born HS.out hn)
      clear hn hln
      go_wp2
      refine bodyPost_end (results_none rfl _ _ _) rfl ?_
      refine⟨⟨_,rfl⟩,?_⟩
      rw [LK_next,if_neg (by rw [HNB.out];simp),List.append_nil]
      have e:OKi s (k+1) 0=OKi s k (j+1)++ [o]:=by
       rw [←HO.out,←HOL.out,←OK_same HS.out]
       unfold OKi
       rw [List.drop_zero,HNN.out]
      rw [e]
      exact HWC.out
     ·
      have hln:len=r+1+1:=by have:=HFLR.out.len;rw [hn,HT.out]at this;simp at this;rw [HR.out]at this;exact this
      have t5:(z:Int)<(len:Int):=by have:=HZR.out;omega
      obtain⟨hb,hp,hbl⟩:=is_born hn hop
      have hup:upI s k=(o:Nat):=by unfold upI;rw [hbl,HT.out];simp [HO.out]
      rw [hup]at hp
      obtain⟨pv3,ov3,hF3,hFr3,hk3⟩:=HWC.out
      have hfl3:=HFL.out.frm hFr3 HFR.out
      obtain⟨b',off',hbe,hblt',q0,q1⟩:=hfl3.cells z (m3,k) (by rw [HZR.out,←HR.out,hn,HT.out];simp)
      cases hbe
      simp only at q0 q1
      have hlen:((bornL s k).map (prtK s (k+1))).length≤900000:=by have:=bornL_len s k;simp;omega
      have hOl2:(OKi s k (j+1)++ [o]).length≤900000:=by
       have h1:=HON.out
       have h2:=HR.out
       rw [List.length_append,h1,h2]
       simp
       omega
      have HBE:=Lib.hid (fun W hW=>begin_fd W fb s pv3 ov3 _ _ m3 k (o:Nat) _ (hF3.still hW) rfl hlen hOl2 (.inr ⟨_,_,rfl,rfl⟩))
      have HNN:=Lib.hid hn
      have HB:=Lib.hid hb
      have HP:=Lib.hid hp
      have HFr3:=Lib.hid hFr3
      have HK3:=Lib.hid hk3
      clear hF3 hFr3 hk3 hfl3 hn hb hp hbl hup hlen hOl2 hln
      go_wp2_with fail
      refine(HBE.out _ (Frm.refl _ _)).mono ?_
      rintro e w3 ⟨⟨v,rfl⟩,hT⟩
      go_wp2
      refine bodyPost_end (results_none rfl _ _ _) rfl ?_
      refine⟨⟨_,rfl⟩,?_⟩
      rw [LK_next,if_pos HB.out,HP.out]
      have e:OKi s (k+1) 0=OKi s k (j+1)++ [o]++ [((bornL s k).map (prtK s (k+1))).length]:=by
       rw [←HO.out,←HOL.out,←OK_same HS.out]
       unfold OKi
       rw [List.drop_zero,HNN.out]
       simp [idx]
      rw [e]
      exact FdTo.trans HFr3.out HK3.out hT
  ·
   have hlt:j - gk<j:=by omega
   cases hD:(nt s k).drop (j - gk)with
   |nil=>exact absurd hD (by intro h;have:=congrArg List.length h;simp at this;omega)
   |cons a R=>
    obtain⟨m,f⟩:=a
    obtain⟨hpr,hmd,hjl⟩:=drop_pres hD
    have hst:=stands_no HS.out HN.out hD hlt
    have hRl:R.length+1=(nt s k).length - (j - gk):=by have:=congrArg List.length hD;simp at this;omega
    have hOl:=OKi_last hD
    have hOn:(OKi s k (j - gk+1)).length=R.length:=by rw [OKi_len];omega
    have hg:=LKi_get hD
    have hsu:=LKi_succ hD
    rw [hOl]at hF2
    have hfk:=(prtK_frm s k f).1
    have HSTA:=Lib.hid (fun W hW=>stands_fd W fb s pv2 oa z oc _ _ _ _ ao len fcap _ (hF2.still hW) hg (HFLR.out.frm hW (fun _ _ _ h=>h)) (by omega) (by omega) false (Lib.hid (by rw [hOn,hfk];exact hst.symm)))
    have HEND:=Lib.hid (fun W hW=>end_any W fb s pv2 (.slice oa z oc) _ _ _ _ (k+1) false (hF2.still hW) hg hs (by rw [hfk];have:=pres_lt hpr;omega) (by omega))
    rw [hsu,←hk1.out]at HEND
    have t0:(0:Int)<(z:Int):=by omega
    have HE:=Lib.hid (show j - gk+1=j - (gk - 1) by omega)
    have hgg:gk - 1<gk:=by omega
    clear hF2 hzo hD hpr hmd hjl hst hRl hOl hOn hg hsu hfk
    go_wp2_with fail
    refine(HSTA.out _ (Frm.refl _ _)).mono ?_
    rintro e w3 ⟨rfl,q,rfl⟩
    obtain⟨V,hV⟩:∃V,V=wr.drewN q:=⟨_,rfl⟩
    have hVF:Frm (fun _=>False) wr V:=by rw [hV];exact(Frm.refl _ _).drewN q
    rw [←hV]
    clear hV c2
    go_wp2_with fail
    refine(HEND.out _ hVF).mono ?_
    rintro e w4 ⟨⟨v,rfl⟩,hT⟩
    go_wp2
    go_roundg (gk - 1)
    case measure=>exact hgg
    case rel=>
     obtain⟨pv3,ov3,h1,h2,h3⟩:=FdTo.trans HFr2.out HK2.out (FdTo.trans (hVF.mono (fun _ _ h=>absurd h id)) (fun _ h=> .inl h) hT)
     rw [HE.out]at h1
     obtain⟨oa3,oc3,rfl⟩:=owns_slice h1.opens
     exact⟨pv3,oa3,_,oc3,h1,h2,h3,by omega⟩
end
theorem wpList_app_frames {ops:Array Oper} {rest:List Oper} {o:Oper} {a:Act} {w:World} {Q:Exit→Act→World→Prop} (hgd:o.guard=none) (s x:Operand)
  (ho:o.op=.call { callee:=.builtin .append,args:=#[s,x],argTypes:=#[150,150] })
  (base:Nat) (v0:Value) (n0:Nat) (xs0:List Value) (hs:a.eval s=v0) (hown:w.ownsRow base 160 2 v0 n0 xs0) (b n c:Nat) (news:List Value)
  (hx:a.eval x=.slice (some ⟨b,0,none⟩) n c) (hn:news.length=n*2) (hc:∀j u,news[j]?=some u→w.cell? ((⟨b,0,none⟩:Addr).add j)=some u) (h1:∀u∈news,u.oneCell'=true) (hl:n0+n≤1000000) (hbase:base≤w.heap.size)
  (h:∀v' w',w'.ownsRow base 160 2 v' (n0+n) (xs0++news)→w.grownBy w' v0.ownBlock→wpList Tryz.prog ops Q rest (a.put o.dst v') w'):wpList Tryz.prog ops Q (o::rest) a w:=by
 refine wpList_plain hgd fun _ hK=>?_
 obtain⟨i,hi,hz,hsize,hby⟩:=info_parts infoF
 obtain⟨v',w',hr',h2,h3,h4,h5⟩:=run_append_own_at (P:=Tryz.prog) w base 150 o.type 160 i _ 2 16 Tryz.underlying150 hi hz hsize hby rfl (by omega) v0 n0 xs0 hown ⟨b,0,none⟩ n c news hn hc
  h1 (by unfold maxLen;omega) (by omega) hbase
 unfold Oper.wp execOp
 simp only [ho,resolve,invoke,builtin,Sem.run_bind,Sem.run_pure,Result.andThen_ok,List.map_toArray,List.map_cons,List.map_nil,hs,hx,hr']
 exact hK _ _ (h v' w' h2 h3)
def Rs (w:World) (base:Nat) (v:Value) (l:List Fr):Prop:=∃g cap,v=.slice (some ⟨g,0,none⟩) l.length cap∧base≤g∧Fw w g cap l
theorem Rs.below {w w':World} {base:Nat} {v:Value} {l:List Fr} (h:Rs w base v l) (hb:Below w.heap.size w w'):Rs w' base v l:=by
 obtain⟨g,cap,h1,h2,h3⟩:=h
 exact⟨g,cap,h1,h2,h3.frm (Frm.of_below (p:=fun _=>False) hb) (fun h=>h)⟩
theorem Rs.base {w:World} {b c:Nat} {v:Value} {l:List Fr} (h:Rs w b v l) (hc:c≤b):Rs w c v l:=by
 obtain⟨g,cap,h1,h2,h3⟩:=h
 exact⟨g,cap,h1,by omega,h3⟩
set_option maxHeartbeats 1000000 in
theorem cloneF_any (g cap:Nat) (l:List Fr) (w:World) (hF:Fw w g cap l) (h0:0<l.length) (hl:l.length≤100000):
  Calls Tryz.prog 223 #[.slice (some ⟨g,0,none⟩) l.length cap] w fun e w'=>(∃v,e=.returned v∧Rs w' w.heap.size v l)∧Below w.heap.size w w':=by
 have hcell:∀X,Below w.heap.size w X→∀j u,(cellsF l)[j]?=some u→X.cell? ((⟨g,0,none⟩:Addr).add j)=some u:=by
  intro X hX j u hj
  have h1:=(hF.frm (Frm.of_below (p:=fun _=>False) hX) (fun h=>h)).owns
  exact h1.cells (g:=g) rfl j u hj
 have heq:=Lib.run_eql_slice_nil (P:=Tryz.prog) w 150 160 (some ⟨g,0,none⟩) l.length cap 0 0 Tryz.underlying150
 have HF:=Lib.hid hF
 clear hF
 go_enter Tryz.func223,Tryz.ntmps223
 go_wp2_with (at_builtin;refine wpList_app_frames rfl _ _ rfl w.heap.size (.slice (some ⟨w.heap.size,0,none⟩) 0 0) 0 [] rfl ⟨rfl,.inr ⟨w.heap.size,0,_,rfl,Nat.le_refl _,Blk.new w _ _,Nat.le_refl _,by unfold maxLen;omega,rfl,rfl⟩⟩ g l.length cap (cellsF l) rfl (cellsF_length l) (hcell _ ((Below.refl _ _).alloc (Nat.le_refl _) _)) (cellsF_one l) (by omega) (by simp) ?_;intro v' w1 hown hgr)
 go_ret
 rw [Nat.zero_add,List.nil_append]at hown
 refine⟨⟨_,rfl,?_⟩,((Below.refl w.heap.size w).alloc (Nat.le_refl _) (.cells #[] 160)).grown hgr (by simp) (fun k hk=>by simp [Value.ownBlock]at hk;omega)⟩
 obtain⟨g',cap',h1,h2,h3⟩:=Fw.of_owns hown rfl h0
 exact⟨g',cap',h1,h2,h3⟩
section
variable (mb g cap p:Nat) (w:World)
set_option maxHeartbeats 1000000 in
theorem frames_any (x:Ms) (hM:Mc w mb g cap x p) (h0:0<x.st.length) (hl:x.st.length≤100000):
  Calls Tryz.prog 194 #[.pointer (some ⟨mb,0,none⟩)] w fun e w'=>(∃v,e=.returned v∧Rs w' w.heap.size v x.st.reverse)∧Below w.heap.size w w':=by
 have c0:w.cell? ⟨mb,0,none⟩=some (.slice (some ⟨g,0,none⟩) x.st.length cap):=hM.obj.cell 0
 have hcl:=cloneF_any g cap x.st.reverse w hM.row (by simpa using h0) (by simpa using hl)
 rw [List.length_reverse]at hcl
 go_enter Tryz.func194,Tryz.ntmps194
 go_wp2_with fail
 refine hcl.mono ?_
 rintro e w1 ⟨⟨v,rfl,hR⟩,hB⟩
 go_wp2
 go_ret
 exact⟨⟨v,rfl,hR⟩,hB⟩
set_option maxHeartbeats 1000000 in
theorem new_any:
  Calls Tryz.prog 191 #[] w fun e w'=>e=.returned (.pointer (some ⟨w.heap.size+1,0,none⟩))∧Mc w' (w.heap.size+1) w.heap.size 1 Ms.start 0∧Below w.heap.size w w':=by
 go_enter Tryz.func191,Tryz.ntmps191
 go_wp2
 go_ret
 refine⟨by first|rfl|simp,⟨?_,by omega,?_⟩,((Below.refl w.heap.size w).alloc (Nat.le_refl _) _).alloc (by simp) _⟩
 ·exact World.size_alloc w _▸Blk.new _ _ _
 ·exact⟨_,(Blk.new w _ _).alloc _,Nat.le_refl _,by unfold maxLen;omega,rfl,rfl⟩
theorem McTo.below {n:Nat} {w0 w w':World} {mb g:Nat} {x:Ms} {p:Nat} (hB:Below n w0 w) (hn:n≤w.heap.size) (hm:n≤mb) (hg:n≤g) (h:McTo w mb g x p w'):
  ∃g' cap',Mc w' mb g' cap' x p∧n≤g'∧Below n w0 w':=by
 obtain⟨g',cap',h1,h2,h3⟩:=h
 refine⟨g',cap',h1,by omega,hB.trans (h2.below hn ?_)⟩
 rintro k (h|h)<;>omega
end
section
variable (mb g cap p:Nat) (w:World)
set_option maxHeartbeats 1000000 in
theorem fresh_any (x:Ms) (hM:Mc w mb g cap x p):
  Calls Tryz.prog 195 #[.pointer (some ⟨mb,0,none⟩)] w fun e w'=>e=.returned (.bool x.fresh)∧w'=w:=by
 have c0:w.cell? ⟨mb,1,none⟩=some (.bool x.fresh):=hM.obj.cell 1
 go_enter Tryz.func195,Tryz.ntmps195
 go_wp2
 go_ret
 exact⟨rfl,rfl⟩
def RnRel (s:ByteArray) (w:World) (v5 v9:Value) (wr:World):Prop:=
 ∃k g cap,k≤s.size∧v9=.int .i64 (k:Nat)∧Mc wr (w.heap.size+1) g cap (runK s k) k∧w.heap.size≤g∧Below w.heap.size w wr∧w.heap.size+1<wr.heap.size
set_option maxRecDepth 100000 in
set_option maxHeartbeats 2000000 in
theorem run_any (s:ByteArray) (hs:s.size≤99000):
  Calls Tryz.prog 163 #[.string s] w fun e w'=>(∃v,e=.returned (.tuple #[v,.bool (runK s s.size).fresh])∧Rs w' w.heap.size v (runK s s.size).st.reverse)∧Below w.heap.size w w':=by
 go_enter Tryz.func163,Tryz.ntmps163
 go_wp2_with fail
 refine(new_any w).mono ?_
 rintro e w1 ⟨rfl,hM1,hB1⟩
 go_wp2
 go_loopw [5,9] (fun v5 v9 wr=>RnRel s w v5 v9 wr) (fun _ v _=>s.size - (intOf v).toNat)
 case atStart=>exact⟨0,_,_,Nat.zero_le _,rfl,hM1,Nat.le_refl _,hB1,hM1.obj.lt⟩
 case round=>
  obtain⟨k,g,cap,hk,rfl,hM,hg,hB,hlt⟩:=hrel
  clear hM1 hB1
  have hI:=runK_inv s k
  have hlen:=runK_len s k
  have hne:=hI.ne
  have hsucc:=runK_succ s k
  obtain⟨x,hx⟩:∃x,runK s k=x:=⟨_,rfl⟩
  rw [hx]at hM hI hlen hne hsucc
  have HX:=Lib.hid hx
  clear hx
  by_cases hlt2:(k:Int)<s.size
  ·have hlt':k<s.size:=by omega
   have hby:(s[k].toNat:Int)=(by8 s k:Nat):=by unfold by8;rw [bt_eq hlt']
   have hb8:=by8_lt s k
   obtain⟨b,hb⟩:∃b,by8 s k=b:=⟨_,rfl⟩
   rw [hb]at hby hb8 hsucc
   have HB:=Lib.hid hb
   have HS:=Lib.hid hsucc
   have HI:=Lib.hid hI
   clear hb hsucc hI
   go_wp2_with fail
   refine(feed_any (w.heap.size+1) g cap k _ b x hM HI.out (by omega) hb8 (by omega) _ HS).mono ?_
   rintro e w2 ⟨⟨v,rfl⟩,hT⟩
   obtain⟨g2,cap2,hM2,hg2,hB2⟩:=hT.below hB (by omega) (by omega) hg
   go_wp2
   go_roundw
   case rel=>exact⟨k+1,g2,cap2,by omega,by go_num,hM2,hg2,hB2,hM2.obj.lt⟩
   case measure=>simp [intOf];omega
  ·obtain rfl:k=s.size:=by omega
   rw [←HX.out]at hM hI hlen hne
   clear hsucc
   go_wp2_with fail
   refine(frames_any (w.heap.size+1) g cap _ _ _ hM hne (by omega)).mono ?_
   rintro e w2 ⟨⟨v,rfl,hR⟩,hB2⟩
   go_wp2_with fail
   refine(fresh_any (w.heap.size+1) g cap _ _ _ (hM.frm (Frm.of_below (p:=fun _=>False) hB2) (fun h=>h) (fun h=>h))).mono ?_
   rintro e w3 ⟨rfl,rfl⟩
   go_wp2
   go_ret2
   exact⟨⟨v,rfl,hR.base (by omega)⟩,hB.trans (hB2.mono (by omega))⟩
end
def stops (x:Ms) (b:Nat):Bool:=endsB b &&(decide (x.st.length=1)||(decide (x.st.length=2)&& decide (top x.st=12)&& decide (b≠40)))
section
variable (mb g cap p:Nat) (w:World)
set_option maxHeartbeats 2000000 in
theorem ends_m (b:Nat) (x:Ms) (hM:Mc w mb g cap x p) (h0:0<x.st.length) (hl:x.st.length≤100000) (bb:Bool) (hbb:Hid (stops x b=bb)):
  Calls Tryz.prog 192 #[.pointer (some ⟨mb,0,none⟩),.int .u8 b] w fun e w'=>e=.returned (.bool bb)∧∃q,w'=w.drewN q:=by
 obtain⟨st,fresh⟩:=x
 cases st with
 |nil=>simp at h0
 |cons a r=>
  obtain⟨m,f⟩:=a
  obtain⟨z,hz⟩:∃z,z=r.length+1:=⟨_,rfl⟩
  have c0:w.cell? ⟨mb,0,none⟩=some (.slice (some ⟨g,0,none⟩) z cap):=by rw [hz];exact hM.obj.cell 0
  simp only [List.length_cons]at hl
  obtain⟨eb,heb⟩:∃eb,endsB b=eb:=⟨_,rfl⟩
  have hst:stops ⟨(m,f)::r,fresh⟩ b=(eb &&(decide (z=1)||(decide (z=2)&& decide (m=12)&& decide (b≠40)))):=by
   unfold stops
   rw [heb,hz]
   rfl
  rw [hbb.out]at hst
  have HB:=Lib.hid heb
  cases eb with
  |false=>
   have e:bb=false:=by rw [hst];simp
   clear hst hbb
   subst e
   clear hz
   go_enter Tryz.func192,Tryz.ntmps192
   go_wp2_with fail
   refine(ends_any _ _).mono ?_
   rw [heb]
   rintro e w1 ⟨rfl,rfl⟩
   go_wp2
   go_ret
   exact⟨rfl,0,rfl⟩
  |true=>
   by_cases h2:z=2
   ·have u2:((z:Int)==2)=true:=beq_iff_eq.2 (by omega)
    by_cases h12:m=12
    ·by_cases h40:b=40
     ·have e:bb=false:=by rw [hst];simp [h2,h40]
      have v1:((m:Int)==12)=true:=beq_iff_eq.2 (by omega)
      have v2:((b:Int)==40)=true:=beq_iff_eq.2 (by omega)
      clear hst hbb
      subst e
      subst h12 h40
      have hb':endsB 40=true:=heb
      clear hz h2
      go_enter Tryz.func192,Tryz.ntmps192
      go_wp2_with fail
      refine(ends_any _ _).mono ?_
      rw [hb']
      rintro e w1 ⟨rfl,rfl⟩
      go_wp2_with fail
      refine(mode_any mb g cap p _ 12 f r fresh hM (by omega)).mono ?_
      rintro e w1 ⟨rfl,q,rfl⟩
      go_wp2
      go_ret
      exact⟨rfl,q,rfl⟩
     ·have e:bb=true:=by rw [hst];simp [h2,h12,h40]
      have v2:((b:Int)==40)=false:=beq_eq_false_iff_ne.2 (by omega)
      have v3:((b:Int)!=40)=true:=by rw [bne,v2];rfl
      clear hst hbb
      subst e
      subst h12
      clear hz h2 h40
      go_enter Tryz.func192,Tryz.ntmps192
      go_wp2_with fail
      refine(ends_any _ _).mono ?_
      rw [heb]
      rintro e w1 ⟨rfl,rfl⟩
      go_wp2_with fail
      refine(mode_any mb g cap p _ 12 f r fresh hM (by omega)).mono ?_
      rintro e w1 ⟨rfl,q,rfl⟩
      go_wp2
      go_ret
      exact⟨rfl,q,rfl⟩
    ·have e:bb=false:=by rw [hst];simp [h2,h12]
     have v1:((m:Int)==12)=false:=beq_eq_false_iff_ne.2 (by omega)
     clear hst hbb
     subst e
     clear hz h2 h12
     go_enter Tryz.func192,Tryz.ntmps192
     go_wp2_with fail
     refine(ends_any _ _).mono ?_
     rw [heb]
     rintro e w1 ⟨rfl,rfl⟩
     go_wp2_with fail
     refine(mode_any mb g cap p _ m f r fresh hM (by omega)).mono ?_
     rintro e w1 ⟨rfl,q,rfl⟩
     go_wp2
     go_ret
     exact⟨rfl,q,rfl⟩
   ·have u2:((z:Int)==2)=false:=beq_eq_false_iff_ne.2 (by omega)
    have u1:((z:Int)==1)=bb:=by
     rw [hst,Bool.eq_iff_iff,beq_iff_eq]
     simp [h2]
     omega
    clear hst hbb hz h2
    go_enter Tryz.func192,Tryz.ntmps192
    go_wp2_with fail
    refine(ends_any _ _).mono ?_
    rw [heb]
    rintro e w1 ⟨rfl,rfl⟩
    go_wp2
    go_ret
    exact⟨rfl,0,rfl⟩
end
def fromK (s:ByteArray) (a p k:Nat):Ms:=runG Ms.start (fun i=>by8 s (a+i)) p k
def IsEnd (s:ByteArray) (a p n:Nat):Prop:=a≤n∧n≤s.size∧(∀i,a≤i→i<n→stops (fromK s a p (i - a)) (by8 s i)=false)∧(n<s.size→stops (fromK s a p (n - a)) (by8 s n)=true)
theorem fromK_succ (s:ByteArray) (a p k:Nat):fromK s a p (k+1)=feed (fromK s a p k) (by8 s (a+k)) (p+k):=rfl
theorem fromK_inv (s:ByteArray) (a p k:Nat):Inv (fromK s a p k):=runG_inv Inv.start _ _ k
theorem fromK_len (s:ByteArray) (a p k:Nat):(fromK s a p k).st.length≤k+1:=by
 have:=runG_len Ms.start (fun i=>by8 s (a+i)) p k
 have e:Ms.start.st.length=1:=rfl
 unfold fromK
 omega
set_option maxRecDepth 100000 in
set_option maxHeartbeats 4000000 in
theorem mend_any (w:World) (s:ByteArray) (a:Nat) (ha:a≤s.size) (hs:s.size≤80000):
  Calls Tryz.prog 162 #[.string s,.int .i64 (a:Int)] w fun e w'=>(∃n:Nat,e=.returned (.int .i64 (n:Int))∧IsEnd s a 0 n)∧Below w.heap.size w w':=by
 have t1:decide ((a:Int)<0)=false:=decide_eq_false_iff_not.2 (by omega)
 have t2:decide ((s.size:Int)<(a:Int))=false:=decide_eq_false_iff_not.2 (by omega)
 have t3:decide (s.size<a)=false:=decide_eq_false_iff_not.2 (by omega)
 go_enter Tryz.func162,Tryz.ntmps162
 go_wp2_with fail
 refine(new_any w).mono ?_
 rintro e w1 ⟨rfl,hM1,hB1⟩
 clear t1 t2 t3
 go_wp2
 go_loopw [1,4] (fun v1 v4 wr=>∃k g cap,a+k≤s.size∧v1=.int .i64 ((a+k:Nat):Int)∧Mc wr (w.heap.size+1) g cap (fromK s a 0 k) k∧w.heap.size≤g∧Below w.heap.size w wr∧Hid (∀i,a≤i→i<a+k→stops (fromK s a 0 (i - a)) (by8 s i)=false)) (fun v _ _=>s.size - (intOf v).toNat)
 case atStart=>exact⟨0,_,_,by omega,rfl,hM1,Nat.le_refl _,hB1,Lib.hid fun i h1 h2=>by omega⟩
 case round=>
  obtain⟨k,g,cap,hk,rfl,hM,hg,hB,HNO⟩:=hrel
  clear hM1 hB1
  have hI:=fromK_inv s a 0 k
  have hlen:=fromK_len s a 0 k
  have hne:=hI.ne
  have hsucc:=fromK_succ s a 0 k
  rw [Nat.zero_add]at hsucc
  obtain⟨x,hx⟩:∃x,fromK s a 0 k=x:=⟨_,rfl⟩
  rw [hx]at hM hI hlen hne hsucc
  have HX:=Lib.hid hx
  clear hx
  obtain⟨j,hj⟩:∃j,a+k=j:=⟨_,rfl⟩
  have hkj:k≤j:=by omega
  rw [hj]at hk hsucc ⊢
  by_cases hlt:j<s.size
  ·have hlt2:(j:Int)<s.size:=by omega
   have hq0:(0:Int)≤(j:Int):=by omega
   have hby:(s[j].toNat:Int)=(by8 s j:Nat):=by unfold by8;rw [bt_eq hlt]
   have hb8:=by8_lt s j
   obtain⟨b,hb⟩:∃b,by8 s j=b:=⟨_,rfl⟩
   rw [hb]at hby hb8 hsucc
   have HB:=Lib.hid hb
   have HS:=Lib.hid hsucc
   have HI:=Lib.hid hI
   have HJ:=Lib.hid hj
   clear hb hsucc hI hj
   obtain⟨bb,hbb⟩:∃bb,stops x b=bb:=⟨_,rfl⟩
   have HBB:=Lib.hid hbb
   clear hbb
   have hends:=ends_m (w.heap.size+1) g cap k wr b x hM hne (by omega) bb HBB
   cases bb with
   |true=>
    go_wp2_with fail
    refine hends.mono ?_
    rintro e w2 ⟨rfl,q,rfl⟩
    go_wp2
    go_ret
    refine⟨⟨j,rfl,by have:=HJ.out;omega,by omega,fun i h1 h2=>HNO.out i h1 (by have:=HJ.out;omega),fun _=>?_⟩,⟨hB.os,hB.tape,hB.output,hB.size,hB.block⟩⟩
    rw [HB.out,show j - a=k by have:=HJ.out;omega,HX.out]
    exact HBB.out
   |false=>
    go_wp2_with fail
    refine hends.mono ?_
    rintro e w2 ⟨rfl,q,rfl⟩
    go_wp2_with fail
    refine(feed_any (w.heap.size+1) g cap k _ b x (hM.drn q) HI.out (by omega) hb8 (by omega) _ HS).mono ?_
    rintro e w3 ⟨⟨v,rfl⟩,hT⟩
    have hBq:Below w.heap.size w (wr.drewN q):=⟨hB.os,hB.tape,hB.output,hB.size,hB.block⟩
    obtain⟨g2,cap2,hM2,hg2,hB2⟩:=hT.below hBq hBq.size (by omega) hg
    go_wp2
    go_roundw
    case rel=>
     refine⟨k+1,g2,cap2,by have:=HJ.out;omega,?_,hM2,hg2,hB2,Lib.hid fun i h1 h2=>?_⟩
     ·have:=HJ.out
      rw [show a+(k+1)=j+1 by omega]
      go_num
     ·by_cases h3:i=j
      ·rw [h3,HB.out,show j - a=k by have:=HJ.out;omega,HX.out]
       exact HBB.out
      ·exact HNO.out i h1 (by have:=HJ.out;omega)
    case measure=>simp [intOf];omega
  ·obtain rfl:j=s.size:=by omega
   have HJ:=Lib.hid hj
   clear hsucc hj
   go_wp2
   go_ret
   exact⟨⟨s.size,rfl,by have:=HJ.out;omega,Nat.le_refl _,fun i h1 h2=>HNO.out i h1 (by have:=HJ.out;omega),fun h=>by omega⟩,hB⟩
def Ge (s:ByteArray) (i:Nat) (x:Nat):Prt:=if((nt s s.size).take i).any (fun y=>y.2==x)=true then closeP s s.size true (prtK s s.size x)else prtK s s.size x
def LKe (s:ByteArray) (i:Nat):List Prt:=(bornL s s.size).map (Ge s i)
theorem LKe_zero (s:ByteArray):LKe s 0=LK s s.size:=by
 unfold LKe LK
 congr 1
theorem LKe_get {s:ByteArray} {i m f:Nat} {R:List Fr} (h:(nt s s.size).drop i=(m,f)::R):(LKe s i)[idx s f]?=some (prtK s s.size f):=by
 obtain⟨hp,_,_⟩:=drop_pres h
 unfold LKe
 rw [List.getElem?_map,bornL_get s f (pres_born hp) (pres_lt hp),Option.map_some]
 unfold Ge
 rw [if_neg (by rw [not_taken h];simp)]
theorem LKe_succ {s:ByteArray} {i m f:Nat} {R:List Fr} (h:(nt s s.size).drop i=(m,f)::R):(LKe s i).set (idx s f) (closeP s s.size true (prtK s s.size f))=LKe s (i+1):=by
 obtain⟨hp,_,hi⟩:=drop_pres h
 unfold LKe
 rw [map_set (pres_born hp) (pres_lt hp)]
 apply List.map_congr_left
 intro x _
 have e:(nt s s.size).take (i+1)=(nt s s.size).take i++ [(m,f)]:=by
  rw [List.take_add_one]
  have:(nt s s.size)[i]?=some (m,f):=by
   have h2:=congrArg (fun l=>l[0]?) h
   simpa using h2
  rw [this]
  rfl
 unfold Ge
 rw [e,List.any_append]
 by_cases g:x=f
 ·subst g
  simp
 ·rw [if_neg g]
  have:([(m,f)].any fun y=>y.2==x)=false:=by simp;omega
  rw [this,Bool.or_false]
theorem LKe_end {s:ByteArray} {i:Nat} (h:(nt s s.size).length≤i):LKe s i=PL s:=by
 unfold LKe PL
 apply List.map_congr_left
 intro x hx
 obtain⟨hlt,_⟩:=bornL_mem.1 hx
 unfold Ge prt
 rw [List.take_of_length_le h]
 by_cases g:pres s s.size x=true
 ·have g2:(nt s s.size).any (fun y=>y.2==x)=true:=g
  rw [if_pos g2,if_pos (eK_full g)]
 ·have g2:¬(nt s s.size).any (fun y=>y.2==x)=true:=g
  have:=eK_not hlt (by simpa using g)
  rw [if_neg g2,if_neg (by omega)]
def PtS (w:World) (base:Nat) (v:Value) (L:List Prt):Prop:=w.ownsRow base 136 5 v L.length (cellsP L)
theorem owns_base {w:World} {b c:Nat} {e:TypeId} {size n:Nat} {v:Value} {xs:List Value} (h:w.ownsRow b e size v n xs) (hc:∀k,v.ownBlock=some k→c≤k):w.ownsRow c e size v n xs:=by
 refine⟨h.1,?_⟩
 rcases h.2 with h0|⟨g,cap,cur,hv,hb,h5⟩
 ·exact .inl h0
 ·exact .inr ⟨g,cap,cur,hv,hc g (by rw [hv];rfl),h5⟩
def OfRel (s:ByteArray) (w:World) (mb fb:Nat) (v:Value) (wr:World):Prop:=
 ∃i g cap pv ov,i≤s.size∧v=.int .i64 (i:Nat)∧Mc wr mb g cap (runK s i) i∧w.heap.size≤g∧Fd wr fb s pv (LK s i) ov (OKi s i 0)∧(∀k,ffoot fb pv ov k→w.heap.size≤k∧k≠mb∧k≠g)∧Below w.heap.size w wr∧mb<wr.heap.size
def OeRel (s:ByteArray) (w:World) (fb:Nat) (g:Nat) (wr:World):Prop:=
 ∃pv oa z oc,Fd wr fb s pv (LKe s ((nt s s.size).length - g)) (.slice oa z oc) (OKi s s.size ((nt s s.size).length - g))∧(∀k,ffoot fb pv (.slice oa z oc) k→w.heap.size≤k)∧Below w.heap.size w wr∧g≤(nt s s.size).length
section
variable (w:World)
set_option maxRecDepth 100000 in
set_option maxHeartbeats 4000000 in
theorem of_parts_any (s:ByteArray) (hs:s.size≤99000):
  Calls Tryz.prog 198 #[.string s] w fun e w'=>(∃v,e=.returned v∧PtS w' w.heap.size v (PL s))∧Below w.heap.size w w':=by
 go_enter Tryz.func198,Tryz.ntmps198
 go_wp2_with fail
 refine(new_any w).mono ?_
 rintro e w1 ⟨rfl,hM1,hB1⟩
 have hs1:=hM1.obj.lt
 have hg1:=hM1.row.lt
 go_wp2
 go_loopw [5,11] (fun _ v wr=>OfRel s w (w.heap.size+1) w1.heap.size v wr) (fun _ v _=>s.size - (intOf v).toNat)
 case atStart=>
  have hM2:=hM1.frm ((Frm.refl (fun _=>False) w1).alloc (.cells #[.string s,.slice none 0 0,.slice none 0 0] 204)) (fun h=>h) (fun h=>h)
  refine⟨0,_,_,.slice none 0 0,.slice none 0 0,Nat.zero_le _,rfl,hM2,Nat.le_refl _,⟨Blk.new w1 _ _,⟨rfl,.inl ⟨rfl,rfl⟩⟩,⟨rfl,.inl ⟨rfl,rfl⟩⟩,by simp [Value.ownBlock],by simp [Value.ownBlock],by simp [Value.ownBlock]⟩,?_,hB1.alloc hB1.size _,?_⟩
  ·rintro k (rfl|h|h)
   ·exact⟨hB1.size,by omega,by omega⟩
   ·simp [Value.ownBlock]at h
   ·simp [Value.ownBlock]at h
  ·rw [World.size_alloc];omega
 case round=>
  obtain⟨i,g,cap,pv,ov,hi,rfl,hM,hg,hF,hk,hB,hlt⟩:=hrel
  clear hM1 hB1
  by_cases hlt2:(i:Int)<s.size
  ·have hlt':i<s.size:=by omega
   have hI:=runK_inv s i
   have hlen:=runK_len s i
   have hsucc:=runK_succ s i
   obtain⟨x,hx⟩:∃x,runK s i=x:=⟨_,rfl⟩
   rw [hx]at hM hI hlen hsucc
   clear hx
   have hby:(s[i].toNat:Int)=(by8 s i:Nat):=by unfold by8;rw [bt_eq hlt']
   have hb8:=by8_lt s i
   obtain⟨b,hb⟩:∃b,by8 s i=b:=⟨_,rfl⟩
   rw [hb]at hby hb8 hsucc
   have HS:=Lib.hid hsucc
   have HI:=Lib.hid hI
   clear hsucc hI hb
   go_wp2_with fail
   refine(feed_any (w.heap.size+1) g cap i _ b x hM HI.out (by omega) hb8 (by omega) _ HS).mono ?_
   rintro e w2 ⟨⟨v,rfl⟩,hT⟩
   obtain⟨g2,cap2,hM2,hF2,hg2⟩:=hT
   have hI2:=runK_inv s (i+1)
   have hlen2:=runK_len s (i+1)
   have hne2:=hI2.ne
   go_wp2_with fail
   refine(frames_any (w.heap.size+1) g2 cap2 (i+1) w2 _ hM2 hne2 (by omega)).mono ?_
   rintro e w3 ⟨⟨v3,rfl,hR3⟩,hB3⟩
   obtain⟨gl,capl,rfl,hgl,hFl⟩:=hR3
   rw [List.length_reverse]
   have hst:=nt_st s (i+1)
   rw [hst,List.reverse_append]at hFl
   have hzl:(runK s (i+1)).st.length=(nt s (i+1)).length+1:=by rw [hst];simp
   have hcl:=hFl.le
   simp at hcl
   obtain⟨z,hz⟩:∃z,(runK s (i+1)).st.length=z:=⟨_,rfl⟩
   rw [hz]at hzl hlen2 ⊢
   obtain⟨i1,hi1⟩:∃i1,i1=i+1:=⟨_,rfl⟩
   have e1:IntKind.i64.wrap ((i:Int)+1)=(i1:Int):=by rw [IntWalk.i64_in _ (by omega)];omega
   have hF3:Frm (mfoot (w.heap.size+1) g) wr w3:=hF2.trans (Frm.of_below hB3 (p:=fun _=>False)) (fun _ _ h=>h.elim)
   have hFd3:=hF.frm hF3 (fun k h1 h2=>by
    have:=hk k h1
    rcases h2 with h2|h2<;>omega)
   have hM3:=hM2.frm (Frm.of_below (p:=fun _=>False) hB3) (fun h=>h) (fun h=>h)
   have hkl:=hF.lt
   have hglw:wr.heap.size≤gl:=by have:=hF2.size;omega
   have hB3w:Below w.heap.size w w3:=(hB.trans (hF2.below hB.size (by rintro k (h|h)<;>omega))).trans (hB3.mono (Nat.le_trans hB.size hF2.size))
   have hFO:∀ao,(ao=some ⟨gl,2,none⟩∨z=1)→FrR w3 ao (z - 1) (nt s (i+1)).reverse:=by
    intro ao h
    refine⟨by simp;omega,fun c x hx=>?_⟩
    have hc:c<(nt s (i+1)).length:=by have:=(List.getElem?_eq_some_iff.1 hx).1;simpa using this
    rcases h with rfl|h
    ·have:=hFl.cell (j:=c+1) (x:=x) (by simpa using hx)
     refine⟨gl,2,rfl,hFl.lt,?_,?_⟩
     ·rw [show 2+c*2=(c+1)*2 by omega];exact this.1
     ·rw [show 2+c*2+1=(c+1)*2+1 by omega];exact this.2
    ·omega
   have HFO:=Lib.hid hFO
   have hfo:=Lib.hid (fun ao fcap (h:ao=some ⟨gl,2,none⟩∨z=1) (h2:∀b off,ao=some ⟨b,off,none⟩→b=gl)=>follow_any w3 w1.heap.size s pv ov i i1 (Lib.hid hi1) ao (z - 1) fcap hFd3 hlt' (by omega) (hFO ao h) (fun b off hb hff=>by
    have h3:=h2 b off hb
    subst h3
    have:=hkl b hff
    omega))
   have HZ:=Lib.hid hz
   have HZL:=Lib.hid hzl
   have HI1:=Lib.hid hi1
   have HCL:=Lib.hid hcl
   have hz0:(1:Int)≤(z:Int):=by omega
   have hz1:(z:Int)≤(capl:Int):=by omega
   have HK:=Lib.hid hk
   have HKL:=Lib.hid hkl
   clear hz hzl hi1 hFO hst hM hF hF2 hB hM2 hI2 hne2 hB3 hFl hFd3 hF3 hcl hk hkl
   go_wp2_with fail
   all_goals
    refine(hfo.out _ _ (by have:=HZL.out;have:=HCL.out;first|exact .inl rfl|exact .inr (by omega)) (by intro b off hb;cases hb;rfl)).mono ?_
    rintro e w4 ⟨⟨v4,rfl⟩,hT⟩
    obtain⟨pv2,ov2,hF4,hFr4,hk4⟩:=hT
    go_wp2
    go_roundw
    case rel=>
     have hM4:=hM3.frm hFr4 (fun h=>(HK.out _ h).2.1 rfl) (fun h=>by
      have h1:=HK.out _ h
      have h2:=HKL.out _ h
      omega)
     refine⟨i+1,g2,cap2,pv2,ov2,by omega,by rw [HI1.out],hM4,by omega,hF4,fun k h=>?_,hB3w.trans (hFr4.below hB3w.size (fun k h=>(HK.out k h).1)),by have:=hM4.obj.lt;exact this⟩
     have hg2l:=hM3.row.lt
     have hmb2:=hM3.obj.lt
     rcases hk4 k h with h|h
     ·have h1:=HK.out _ h
      have h2:=HKL.out _ h
      exact⟨h1.1,h1.2.1,by omega⟩
     ·have:=hB3w.size
      exact⟨by omega,by omega,by omega⟩
    case measure=>have:=HI1.out;simp [intOf];omega
  ·obtain rfl:i=s.size:=by omega
   have HF:=Lib.hid hF
   have HK:=Lib.hid hk
   clear hF hk hM
   go_wp2
   go_loopg [] (nt s s.size).length (fun gg wr=>OeRel s w w1.heap.size gg wr)
   case atStart=>
    have h:=HF.out
    obtain⟨oa,oc,rfl⟩:=owns_slice h.opens
    refine⟨pv,oa,_,oc,?_,fun k h=>(HK.out k h).1,hB,Nat.le_refl _⟩
    rw [Nat.sub_self,LKe_zero]
    exact h
   case round=>
    clear HF HK hB hlt
    obtain⟨pv2,oa,z,oc,hF2,hk2,hB2,hgj⟩:=hrel
    have c2:=hF2.obj.cell 2
    have c1:=hF2.obj.cell 1
    simp at c1 c2
    have hzo:z=(OKi s s.size ((nt s s.size).length - gk)).length:=by
     have h1:=hF2.opens
     rcases h1.2 with⟨h2,h3⟩|⟨_,_,_,h2,_⟩
     ·cases h2;exact h3.symm
     ·cases h2;rfl
    rw [OKi_len]at hzo
    have HK2:=Lib.hid hk2
    clear hk2
    by_cases hg0:gk=0
    ·subst hg0
     have hz0:z=0:=by omega
     subst hz0
     have hP:=hF2.parts
     rw [Nat.sub_zero,LKe_end (Nat.le_refl _)]at hP
     have HP:=Lib.hid hP
     clear hF2 hzo hP
     go_wp2
     go_ret
     exact⟨⟨_,rfl,owns_base HP.out (fun k hk=>HK2.out k (.inr (.inl hk)))⟩,hB2⟩
    ·cases hD:(nt s s.size).drop ((nt s s.size).length - gk)with
     |nil=>exact absurd hD (by intro h;have:=congrArg List.length h;simp at this;omega)
     |cons a R=>
      obtain⟨m,f⟩:=a
      obtain⟨hpr,_,_⟩:=drop_pres hD
      have hntl:=nt_len s s.size
      have hOl:=OKi_last hD
      have hOn:(OKi s s.size ((nt s s.size).length - gk+1)).length≤1000000:=by rw [OKi_len];omega
      have hg:=LKe_get hD
      have hsu:=LKe_succ hD
      rw [hOl]at hF2
      have hfk:=(prtK_frm s s.size f).1
      have HEND:=Lib.hid (end_any wr w1.heap.size s pv2 (.slice oa z oc) _ _ _ _ s.size true hF2 hg (by omega) (by rw [hfk];exact pres_lt hpr) hOn)
      rw [hsu]at HEND
      have t0:(0:Int)<(z:Int):=by omega
      have HE:=Lib.hid (show(nt s s.size).length - gk+1=(nt s s.size).length - (gk - 1) by omega)
      have hgg:gk - 1<gk:=by omega
      clear hF2 hzo hD hpr hntl hOl hOn hg hsu hfk
      go_wp2_with fail
      refine HEND.out.mono ?_
      rintro e w4 ⟨⟨v,rfl⟩,hT⟩
      go_wp2
      go_roundg (gk - 1)
      case measure=>exact hgg
      case rel=>
       obtain⟨pv3,ov3,h1,h2,h3⟩:=hT
       rw [HE.out]at h1
       obtain⟨oa3,oc3,rfl⟩:=owns_slice h1.opens
       refine⟨pv3,oa3,_,oc3,h1,fun k h=>?_,hB2.trans (h2.below hB2.size (fun k h=>HK2.out k h)),by omega⟩
       rcases h3 k h with h|h
       ·exact HK2.out k h
       ·have:=hB2.size;omega
end
end Go.Proofs.YtkolpaonccmgiaaGreatDoor

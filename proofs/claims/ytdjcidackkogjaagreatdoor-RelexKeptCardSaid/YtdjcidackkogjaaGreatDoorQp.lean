/- What begin of layer 7 (parts) leaves of a finder i -/
import Derived.Test.YtdjcidackkogjaaGreatDoorPtB
import Derived.Test.YtdjcidackkogjaaGreatDoorMdB
import Derived.Deep.DeepCutAuto
import Derived.Test.YtdjcidackkogjaaGreatDoorMdW
namespace Go.Proofs.YtdjcidackkogjaaGreatDoor
set_option linter.unusedSectionVars false
set_option linter.unusedVariables false
open Lib(hid)
set_option maxHeartbeats 8000000
open Go.RowKit
theorem iW:(Tryz.prog.info? 142).map (λi=>(i.zero,i.size,i.bytes))=some (some (.agg #[.int .i64 0,.int .i64 0,.int .i64 0,.int .i64 0,.bool false]),5,40):=by kernel_rfl
theorem iY{ops:Array Oper}{o:Oper}{a:Act}{w:World}{K:Act→World→Prop}{Q:Exit→Act→World→Prop}{E:Prop}(hgd:o.guard=none)(s x:Operand)
 (ho:o.op=.call {callee:=.builtin .append,args:=#[s,x],argTypes:=#[139,139]})
 (v0:Value)(n0:Nat)(yF:List Value)(hs:a.eval s=v0)(hown:w.ownsRow 0 142 5 v0 n0 yF)(b:Nat)(p:zJ)
 (hx:a.eval x=.slice (some ⟨b,0,none⟩) 1 1)(hb:zh w b (vV p).toArray 142)(hl:n0≤1000000)
 (h:∀g' c' w',w'.ownsRow 0 142 5 (.slice (some ⟨g',0,none⟩) (n0+1) c') (n0+1) (yF++vV p)→w.grownBy w' v0.ownBlock→(v0.ownBlock=some g'∨g'=w.heap.size)→K (a.put o.dst (.slice (some ⟨g',0,none⟩) (n0+1) c')) w'):
  if Region.wanted o (yielded ops a.tmps)=true then Oper.wp Tryz.prog o a w K Q else E:=by
 have hw:Region.wanted o (yielded ops a.tmps)=true:=by simp[Region.wanted,hgd]
 rw[if_pos hw];obtain⟨i,hi,hz,hsize,hby⟩:=info_parts iW;have hnews:∀j u,(vV p)[j]?=some u→w.cell? ((⟨b,0,none⟩:Addr).add j)=some u:=by
  intro j u hj;rw[Addr.add_lit,hb.cell,Nat.zero_add];simpa using hj
 obtain⟨v',w',hr',h2,h3,h4,h5⟩:=run_append_own_at (P:=Tryz.prog) w 0 139 o.type 142 i _ 5 40 Tryz.underlying139 hi hz hsize hby rfl (by omega) _ n0 yF hown ⟨b,0,none⟩ 1 1 (vV p) rfl hnews
  (by intro u hu;simp[vV]at hu;rcases hu with rfl|rfl|rfl|rfl|rfl<;>rfl) (by unfold maxLen;omega) (by omega) (Nat.zero_le _)
 unfold Oper.wp execOp;simp only[ho,resolve,invoke,builtin,Sem.run_bind,Sem.run_pure,Result.andThen_ok,List.map_toArray,List.map_cons,List.map_nil,hs,hx,hr'];rcases h2.2 with⟨hv,hn⟩|⟨g',c',cur,hv,h6⟩
 ·omega
 ·subst hv
  refine h g' c' w' h2 h3 ?_;rcases h5 with h5|h5
  ·exact .inl h5.symm
  ·exact .inr (by simpa[Value.ownBlock]using h5)
theorem Zt{w:World}{base:Nat}{e:TypeId}{size n:Nat}{v:Value}{xs:List Value}(h:w.ownsRow base e size v n xs):∃a c,v=.slice a n c:=by
 rcases h.2 with⟨rfl,rfl⟩|⟨g,cap,cur,rfl,_⟩
 ·exact⟨_,_,rfl⟩
 ·exact⟨_,_,rfl⟩
theorem iZ{W X w':World}{fb n g' c':Nat}{s:ByteArray}{pv ov:Value}{L:List zJ}{O:List Nat}(hF:Fd W fb s pv L ov O)(hX:zg (λ_=>False) W X)(hgr:X.grownBy w' ov.ownBlock)
 (hown:w'.ownsRow 0 3 1 (.slice (some ⟨g',0,none⟩) (O.length+1) c') (O.length+1) (YK O++ [.int .i64 (n:Int)]))(hg:ov.ownBlock=some g'∨W.heap.size≤g'):
  uI W fb s pv ov L (O++ [n]) (w'.setCell ⟨fb,2,none⟩ (.slice (some ⟨g',0,none⟩) (O.length+1) c')):=by
 have hlt:=hF.lt;have F1:zg (λk=>ov.ownBlock=some k) W w':=(hX.mono (λ_ _ h=>absurd h id)).grown hgr (λk hk=> .inl hk);have F2:zg (λk=>k=fb) w' (w'.setCell ⟨fb,2,none⟩ (.slice (some ⟨g',0,none⟩) (O.length+1) c')):=(zg.refl _ _).put _ _;have hgf:g'≠fb:=by
  rintro rfl;rcases hg with h|h
  ·exact hF.no h
  ·have:=hlt g' (.inl rfl);omega
 refine⟨pv,.slice (some ⟨g',0,none⟩) (O.length+1) c',⟨?_,?_,?_,hF.np,λe=>hgf (by simpa[Value.ownBlock]using e),?_⟩,?_,?_⟩
 ·have:=(hF.obj.zf F1 hF.no).set 2 (.slice (some ⟨g',0,none⟩) (O.length+1) c')
  simpa using this
 ·exact zQ F2 (zQ F1 hF.parts (λk hk=>hF.ne k hk)) (λk hk e=>hF.np (by rw[←e];exact hk))
 ·have e:YK (O++ [n])=YK O++ [.int .i64 (n:Int)]:=by simp[YK]
  rw[e,List.length_append];exact zQ F2 hown (λk hk=>by simp[Value.ownBlock]at hk;omega)
 ·intro b hb e
  have e2:g'=b:=by simpa[Value.ownBlock]using e
  subst e2;rcases hg with h|h
  ·exact hF.ne _ hb h
  ·have:=hlt g' (.inr (.inl hb));omega
 ·exact(F1.mono (λk _ h=> .inr (.inr h))).trans (F2.mono (λk _ h=> .inl h)) (λk _ h=>h)
 ·rintro k (h|h|h)
  ·exact .inl (.inl h)
  ·exact .inl (.inr (.inl h))
  ·have e2:g'=k:=by simpa[Value.ownBlock]using h
   subst e2;rcases hg with h|h
   ·exact .inl (.inr (.inr h))
   ·exact .inr h
theorem Ib{W X w':World}{fb g' c':Nat}{s:ByteArray}{pv ov:Value}{L:List zJ}{O:List Nat}{p:zJ}(hF:Fd W fb s pv L ov O)(hX:zg (λ_=>False) W X)(hgr:X.grownBy w' pv.ownBlock)
 (hown:w'.ownsRow 0 142 5 (.slice (some ⟨g',0,none⟩) (L.length+1) c') (L.length+1) (xn L++vV p))(hg:pv.ownBlock=some g'∨W.heap.size≤g'):
  uI W fb s pv ov (L++ [p]) O (w'.setCell ⟨fb,1,none⟩ (.slice (some ⟨g',0,none⟩) (L.length+1) c')):=by
 have hlt:=hF.lt;have F1:zg (λk=>pv.ownBlock=some k) W w':=(hX.mono (λ_ _ h=>absurd h id)).grown hgr (λk hk=> .inl hk);have F2:zg (λk=>k=fb) w' (w'.setCell ⟨fb,1,none⟩ (.slice (some ⟨g',0,none⟩) (L.length+1) c')):=(zg.refl _ _).put _ _;have hgf:g'≠fb:=by
  rintro rfl;rcases hg with h|h
  ·exact hF.np h
  ·have:=hlt g' (.inl rfl);omega
 refine⟨.slice (some ⟨g',0,none⟩) (L.length+1) c',ov,⟨?_,?_,?_,λe=>hgf (by simpa[Value.ownBlock]using e),hF.no,?_⟩,?_,?_⟩
 ·have:=(hF.obj.zf F1 hF.np).set 1 (.slice (some ⟨g',0,none⟩) (L.length+1) c')
  simpa using this
 ·have e:xn (L++ [p])=xn L++vV p:=by rw[Pj];simp[xn]
  rw[e,List.length_append];exact zQ F2 hown (λk hk=>by simp[Value.ownBlock]at hk;omega)
 ·exact zQ F2 (zQ F1 hF.opens (λk hk e=>hF.ne k e hk)) (λk hk e=>hF.no (by rw[←e];exact hk))
 ·intro b hb e
  have e2:g'=b:=by simpa[Value.ownBlock]using hb
  subst e2;rcases hg with h|h
  ·exact hF.ne _ h e
  ·have:=hlt g' (.inr (.inr e));omega
 ·exact(F1.mono (λk _ h=> .inr (.inl h))).trans (F2.mono (λk _ h=> .inl h)) (λk _ h=>h)
 ·rintro k (h|h|h)
  ·exact .inl (.inl h)
  ·have e2:g'=k:=by simpa[Value.ownBlock]using h
   subst e2;rcases hg with h|h
   ·exact .inl (.inr (.inl h))
   ·exact .inr h
  ·exact .inl (.inr (.inr h))
section
variable(w:World)
theorem zgq(fb n z:Nat)(s:ByteArray)(pa oa:Option Addr)(pc oc:Nat)(L:List zJ)(O:List Nat)(m k:Nat)(up:Int)(hF:Fd w fb s (.slice pa n pc) L (.slice oa z oc) O)(hn:Hid (n=L.length))(hz:Hid (z=O.length))(hnl:n≤900000)(hzl:z≤900000)
 (hup:(z=0∧up= -1)∨(0<z∧∃ob j,oa=some ⟨ob,0,none⟩∧IntKind.i64.wrap ((z:Int)-1)=((j:Nat):Int)∧j<z∧w.cell? ⟨ob,j,none⟩=some (.int .i64 up))):
  Calls Tryz.prog 172 #[.pointer (some ⟨fb,0,none⟩),.agg #[.int .i64 (m:Int),.int .i64 (k:Int)]] w λe w'=>(∃v,e=.returned v)∧uI w fb s (.slice pa n pc) (.slice oa z oc) (L++ [⟨m,k,0,up,false⟩]) (O++ [n]) w':=by
 have hlt:=hF.obj.lt;have c1:w.cell? ⟨fb,1,none⟩=some (.slice pa n pc):=hF.obj.cell 1;have c2:w.cell? ⟨fb,2,none⟩=some (.slice oa z oc):=hF.obj.cell 2;have hne:¬w.heap.size=fb:=by omega
 have hne1:¬w.heap.size+1=fb:=by omega
 have HF:=hid hF;have zgr:(z=0∧up= -1)∨(0<z∧∃ob j,oa=some ⟨ob,0,none⟩∧IntKind.i64.wrap ((z:Int)-1)=((j:Nat):Int)∧j<z∧w.cell? ⟨ob,j,none⟩=some (.int .i64 up)∧(0:Int)<(z:Int)∧(j:Int)<(z:Int)∧ob<w.heap.size):=by
  rcases hup with h|⟨h0,ob,j,rfl,e1,hj,h3⟩
  ·exact .inl h
  ·exact .inr ⟨h0,ob,j,rfl,e1,hj,h3,by omega,by omega,by
    have:=hF.lt ob (.inr (.inr rfl));omega⟩
 clear hF hup;go_enter Tryz.func172,Tryz.ntmps172;rcases zgr with⟨rfl,rfl⟩|⟨h0,ob,j,rfl,e1,hj,h3,h0',h1',hob⟩
 ·go_wp2
  obtain⟨W,hW⟩:∃W,W=w.alloc (.cells #[.int .i64 (m:Int),.int .i64 (k:Int)] 174):=⟨_,rfl⟩;have qw:zg (λ_=>False) w W:=by rw[hW];exact(zg.refl _ _).alloc _
  have hWs:W.heap.size=w.heap.size+1:=by rw[hW,World.size_alloc]
  have hbx:zh W w.heap.size #[.int .i64 (m:Int),.int .i64 (k:Int)] 174:=by rw[hW];exact zh.new _ _ _
  have ZE:=hid (HF.out.still qw);rw[←hW];have d1:=ZE.out.obj.cell 1;have d2:=ZE.out.obj.cell 2;simp at d1 d2;have dlt:=ZE.out.obj.lt;have hnW:¬W.heap.size=fb:=by omega
  have Ls:=hid hWs;obtain⟨bx,Kt⟩:∃bx,w.heap.size=bx:=⟨_,rfl⟩;rw[Kt]at hbx Ls hne hne1 ⊢;have Px:=hid Kt;clear hW c1 c2 hWs Kt hlt hne1;have hR:∀X,zg (λ_=>False) W X→X.ownsRow 0 3 1 (.slice oa 0 oc) 0 (YK O):=λX hX=>zQ hX (by have:=ZE.out.opens;rw[←hz.out]at this;exact this) (λ_ _ h=>h);have hno:=ZE.out.no;have rq:(Value.slice oa 0 oc).ownBlock≠some bx:=λe=>by
   have:=HF.out.lt bx (.inr (.inr e));have:=Px.out;omega
  go_cut []from 21 to 34 (λwx=>uI W fb s (.slice pa n pc) (.slice oa 0 oc) L (O++ [n]) wx∧zh wx bx #[.int .i64 (m:Int),.int .i64 (k:Int)] 174)
  case first=>
   go_region_law (refine Q9 (by rfl) _ _ (by rfl) (.slice oa 0 oc) 0 (YK O) (by rfl) (hR _ (((zg.refl _ W).alloc _).drew)) W.heap.size 1 1 [.int .i64 (n:Int)] (by rfl) ⟨rfl,.inr ⟨W.heap.size,1,_,rfl,Nat.zero_le _,(zh.new W _ _).drew,Nat.le_refl _,by unfold maxLen;omega,rfl,rfl⟩⟩ (by intro u hu;simp at hu;subst hu;rfl) (by omega) (by omega) (0+1) rfl ?_;intro g' c' w1 hown hgr hg';have o7:=((ZE.out.obj.alloc (.cells #[.int .i64 (n:Int)] 3)).drew).grown hgr (Ne.symm hno);have d7:w1.cell? ⟨fb,2,none⟩=some (.slice oa 0 oc):=o7.cell 2;have df:=o7.frozen 2)
   all_goals
    go_wp2_with fail
    have hg2:(Value.slice oa 0 oc).ownBlock=some g'∨W.heap.size≤g':=by
     refine hg'.imp id λh=>?_;have e:g'=W.heap.size+1:=h.trans (World.size_alloc _ _);omega
    have hT1:=iZ (n:=n) (g':=g') (c':=c') ZE.out (((zg.refl _ W).alloc (.cells #[.int .i64 (n:Int)] 3)).drew) hgr (by rw[←hz.out];exact hown) hg2;rw[←hz.out]at hT1;go_meet;case rel=>exact⟨hT1,(((hbx.alloc (.cells #[.int .i64 (n:Int)] 3)).drew).grown hgr (Ne.symm rq)).other (b':=fb) 2 (.slice (some ⟨g',0,none⟩) (0+1) c') hne⟩
  case rest=>
   obtain⟨hT1,hb1⟩:=hcut;clear d1 d2 hR hno rq hbx;obtain⟨V,hV⟩:∃V,V=wc:=⟨_,rfl⟩;rw[←hV]at hT1 hb1 ⊢;clear hV;obtain⟨kL,wu,hF2,Vh,hk2⟩:=hT1;have HF2:=hid hF2;have hP2:=hF2.parts;rw[←hn.out]at hP2;obtain⟨Jb,Jc,rfl⟩:=Zt hP2;have u1:=hF2.obj.cell 1;have elt:=hF2.obj.lt;simp at u1;have b0:V.cell? ⟨bx,0,none⟩=some (.int .i64 (m:Int)):=hb1.cell 0;have b1:V.cell? ⟨bx,1,none⟩=some (.int .i64 (k:Int)):=hb1.cell 1;have vX:=hid hk2;have MG:=hF2.np;have hnV:¬V.heap.size=fb:=by omega
   have hnb:¬V.heap.size=bx:=by have:=hb1.lt;omega
   clear hF2 hk2;have Py:∀X,zg (λ_=>False) V X→X.ownsRow 0 142 5 (.slice Jb n Jc) n (xn L):=λX hX=>zQ hX hP2 (λ_ _ h=>h);go_wp2
   go_region_law (refine iY (by rfl) _ _ (by rfl) (.slice Jb n Jc) n (xn L) (by rfl) (Py _ (((zg.refl _ V).alloc _).drew)) V.heap.size ⟨m,k,0,-1,false⟩ (by rfl) ((zh.new V _ _).drew) (by omega) ?_;intro g2 c2 w2 hown hgr hg';have o7:=((HF2.out.obj.alloc (.cells (vV ⟨m,k,0,-1,false⟩).toArray 142)).drew).grown hgr (Ne.symm MG);have d7:w2.cell? ⟨fb,1,none⟩=some (.slice Jb n Jc):=o7.cell 1;have df:=o7.frozen 1)
   all_goals
    go_wp2;refine bodyPost_end (results_none rfl _ _ _) rfl ?_;refine⟨⟨_,rfl⟩,?_⟩;have hg3:(Value.slice Jb n Jc).ownBlock=some g2∨V.heap.size≤g2:=by
     refine hg'.imp id λh=>?_;have e:g2=V.heap.size+1:=h.trans (World.size_alloc _ _);omega
    have hT2:=Ib (g':=g2) (c':=c2) (p:=⟨m,k,0,-1,false⟩) HF2.out (((zg.refl _ V).alloc (.cells (vV ⟨m,k,0,-1,false⟩).toArray 142)).drew) hgr (by rw[←hn.out];exact hown) hg3;rw[←hn.out]at hT2;have JK:=uI.trans Vh vX.out hT2;exact uI.trans (qw.mono (λ_ _ h=>absurd h id)) (λ_ h=> .inl h) JK
 ·go_wp2
  obtain⟨W,hW⟩:∃W,W=w.alloc (.cells #[.int .i64 (m:Int),.int .i64 (k:Int)] 174):=⟨_,rfl⟩;have qw:zg (λ_=>False) w W:=by rw[hW];exact(zg.refl _ _).alloc _
  have hWs:W.heap.size=w.heap.size+1:=by rw[hW,World.size_alloc]
  have hbx:zh W w.heap.size #[.int .i64 (m:Int),.int .i64 (k:Int)] 174:=by rw[hW];exact zh.new _ _ _
  have ZE:=hid (HF.out.still qw);rw[←hW];have d1:=ZE.out.obj.cell 1;have d2:=ZE.out.obj.cell 2;simp at d1 d2;have dlt:=ZE.out.obj.lt;have hnW:¬W.heap.size=fb:=by omega
  have Ls:=hid hWs;obtain⟨bx,Kt⟩:∃bx,w.heap.size=bx:=⟨_,rfl⟩;rw[Kt]at hbx Ls hne hne1 ⊢;have Px:=hid Kt;clear hW c1 c2 hWs Kt hlt hne1;have hR:∀X,zg (λ_=>False) W X→X.ownsRow 0 3 1 (.slice (some ⟨ob,0,none⟩) z oc) z (YK O):=λX hX=>zQ hX (by have:=ZE.out.opens;rw[←hz.out]at this;exact this) (λ_ _ h=>h);have hno:=ZE.out.no;have rq:(Value.slice (some ⟨ob,0,none⟩) z oc).ownBlock≠some bx:=λe=>by
   have:=HF.out.lt bx (.inr (.inr e));have:=Px.out;omega
  go_cut []from 21 to 34 (λwx=>uI W fb s (.slice pa n pc) (.slice (some ⟨ob,0,none⟩) z oc) L (O++ [n]) wx∧zh wx bx #[.int .i64 (m:Int),.int .i64 (k:Int)] 174)
  case first=>
   go_region_law (refine Q9 (by rfl) _ _ (by rfl) (.slice (some ⟨ob,0,none⟩) z oc) z (YK O) (by rfl) (hR _ (((zg.refl _ W).alloc _).drew)) W.heap.size 1 1 [.int .i64 (n:Int)] (by rfl) ⟨rfl,.inr ⟨W.heap.size,1,_,rfl,Nat.zero_le _,(zh.new W _ _).drew,Nat.le_refl _,by unfold maxLen;omega,rfl,rfl⟩⟩ (by intro u hu;simp at hu;subst hu;rfl) (by omega) (by omega) (z+1) rfl ?_;intro g' c' w1 hown hgr hg';have o7:=((ZE.out.obj.alloc (.cells #[.int .i64 (n:Int)] 3)).drew).grown hgr (Ne.symm hno);have d7:w1.cell? ⟨fb,2,none⟩=some (.slice (some ⟨ob,0,none⟩) z oc):=o7.cell 2;have df:=o7.frozen 2)
   all_goals
    go_wp2_with fail
    have hg2:(Value.slice (some ⟨ob,0,none⟩) z oc).ownBlock=some g'∨W.heap.size≤g':=by
     refine hg'.imp id λh=>?_;have e:g'=W.heap.size+1:=h.trans (World.size_alloc _ _);omega
    have hT1:=iZ (n:=n) (g':=g') (c':=c') ZE.out (((zg.refl _ W).alloc (.cells #[.int .i64 (n:Int)] 3)).drew) hgr (by rw[←hz.out];exact hown) hg2;rw[←hz.out]at hT1;go_meet;case rel=>exact⟨hT1,(((hbx.alloc (.cells #[.int .i64 (n:Int)] 3)).drew).grown hgr (Ne.symm rq)).other (b':=fb) 2 (.slice (some ⟨g',0,none⟩) (z+1) c') hne⟩
  case rest=>
   obtain⟨hT1,hb1⟩:=hcut;clear d1 d2 hR hno rq hbx;obtain⟨V,hV⟩:∃V,V=wc:=⟨_,rfl⟩;rw[←hV]at hT1 hb1 ⊢;clear hV;obtain⟨kL,wu,hF2,Vh,hk2⟩:=hT1;have HF2:=hid hF2;have hP2:=hF2.parts;rw[←hn.out]at hP2;obtain⟨Jb,Jc,rfl⟩:=Zt hP2;have u1:=hF2.obj.cell 1;have elt:=hF2.obj.lt;simp at u1;have b0:V.cell? ⟨bx,0,none⟩=some (.int .i64 (m:Int)):=hb1.cell 0;have b1:V.cell? ⟨bx,1,none⟩=some (.int .i64 (k:Int)):=hb1.cell 1;have vX:=hid hk2;have MG:=hF2.np;have hnV:¬V.heap.size=fb:=by omega
   have hnb:¬V.heap.size=bx:=by have:=hb1.lt;omega
   clear hF2 hk2;have Py:∀X,zg (λ_=>False) V X→X.ownsRow 0 142 5 (.slice Jb n Jc) n (xn L):=λX hX=>zQ hX hP2 (λ_ _ h=>h);go_wp2
   go_region_law (refine iY (by rfl) _ _ (by rfl) (.slice Jb n Jc) n (xn L) (by rfl) (Py _ (((zg.refl _ V).alloc _).drew)) V.heap.size ⟨m,k,0,up,false⟩ (by rfl) ((zh.new V _ _).drew) (by omega) ?_;intro g2 c2 w2 hown hgr hg';have o7:=((HF2.out.obj.alloc (.cells (vV ⟨m,k,0,up,false⟩).toArray 142)).drew).grown hgr (Ne.symm MG);have d7:w2.cell? ⟨fb,1,none⟩=some (.slice Jb n Jc):=o7.cell 1;have df:=o7.frozen 1)
   all_goals
    go_wp2;refine bodyPost_end (results_none rfl _ _ _) rfl ?_;refine⟨⟨_,rfl⟩,?_⟩;have hg3:(Value.slice Jb n Jc).ownBlock=some g2∨V.heap.size≤g2:=by
     refine hg'.imp id λh=>?_;have e:g2=V.heap.size+1:=h.trans (World.size_alloc _ _);omega
    have hT2:=Ib (g':=g2) (c':=c2) (p:=⟨m,k,0,up,false⟩) HF2.out (((zg.refl _ V).alloc (.cells (vV ⟨m,k,0,up,false⟩).toArray 142)).drew) hgr (by rw[←hn.out];exact hown) hg3;rw[←hn.out]at hT2;have JK:=uI.trans Vh vX.out hT2;exact uI.trans (qw.mono (λ_ _ h=>absurd h id)) (λ_ h=> .inl h) JK
end
set_option maxRecDepth 100000
structure wC(w:World)(ao:Option Addr)(len:Nat)(fl:List Fr):Prop where
 len:len=fl.length
 cells:∀i x,fl[i]?=some x→∃b off,ao=some ⟨b,off,none⟩∧b<w.heap.size∧w.cell? ⟨b,off+i*2,none⟩=some (.int .i64 (x.1:Int))∧w.cell? ⟨b,off+i*2+1,none⟩=some (.int .i64 (x.2:Int))
theorem wC.zf{p:Nat→Prop}{w w':World}{ao:Option Addr}{len:Nat}{fl:List Fr}(h:wC w ao len fl)(hf:zg p w w')(hp:∀b off,ao=some ⟨b,off,none⟩→¬p b):wC w' ao len fl:=
 ⟨h.len,λi x hx=>by
  obtain⟨b,off,h1,h2,h3,h4⟩:=h.cells i x hx;exact⟨b,off,h1,Nat.lt_of_lt_of_le h2 hf.size,(hf.cell h2 (hp b off h1)).trans h3,(hf.cell h2 (hp b off h1)).trans h4⟩⟩
section
variable(w:World)
theorem Ic(fb:Nat)(s:ByteArray)(pv:Value)(oa:Option Addr)(z oc:Nat)(L:List zJ)(O:List Nat)(o:Nat)(p:zJ)(ao:Option Addr)(len Xq:Nat)(fl:List Fr)(hF:Fd w fb s pv L (.slice oa z oc) (O++ [o]))(hp:L[o]?=some p)(hfl:wC w ao len fl)(hlen:len≤1000000)(hO:O.length≤1000000)
 (x:Bool)(hx:Hid (x=Kr fl (O.length+1) p.zf)):
  Calls Tryz.prog 169 #[.pointer (some ⟨fb,0,none⟩),.slice ao len Xq] w λe w'=>e=.returned (.bool x)∧∃q,w'=w.drewN q:=by
 obtain⟨pb,vW,ob,xM,rfl,hov,hc,h3,hfz,hoc,hol,hpc,Vg,Po,Pq⟩:=hF.last hp;cases hov;have c1:=hF.obj.cell 1;have c2:=hF.obj.cell 2;simp at c1 c2;have hl:=hfl.len;by_cases h:O.length+1≤fl.length
 ·obtain⟨b,off,rfl,_,_,h5⟩:=hfl.cells O.length fl[O.length] (List.getElem?_eq_getElem (by omega))
  refine iV w fb pb _ vW ob _ O.length oc o p.zf b off len Xq (hid rfl) hO hol hlen c1 c2 h3 (hc 1 _ rfl) _ x (.inr ⟨by omega,(fl[O.length]).2,rfl,h5,?_⟩);rw[hx.out];unfold Kr;rw[Nat.add_sub_cancel,List.getElem?_eq_getElem (by omega)];simp[h]
 ·refine iV w fb pb _ vW ob _ O.length oc o p.zf 0 0 len Xq (hid rfl) hO hol hlen c1 c2 h3 (hc 1 _ rfl) ao x (.inl ⟨by omega,?_⟩)
  rw[hx.out];unfold Kr;simp[h]
theorem Ie(fb:Nat)(s:ByteArray)(pv ov:Value)(L:List zJ)(O:List Nat)(m k:Nat)(up:Int)(n:Nat)(hF:Fd w fb s pv L ov O)(hn:n=L.length)(hL:L.length≤900000)(hO:O.length≤900000)
 (hup:(O=[]∧up= -1)∨∃O' o,O=O'++ [o]∧up=(o:Nat)):
  Calls Tryz.prog 172 #[.pointer (some ⟨fb,0,none⟩),.agg #[.int .i64 (m:Int),.int .i64 (k:Int)]] w λe w'=>(∃v,e=.returned v)∧uI w fb s pv ov (L++ [⟨m,k,0,up,false⟩]) (O++ [n]) w':=by
 subst hn;obtain⟨pa,pc,rfl⟩:=Zt hF.parts;obtain⟨oa,oc,rfl⟩:=Zt hF.opens;refine zgq w fb L.length O.length s pa oa pc oc L O m k up hF (hid rfl) (hid rfl) hL hO ?_;rcases hup with⟨rfl,rfl⟩|⟨O',o,rfl,rfl⟩
 ·exact .inl ⟨rfl,rfl⟩
 ·obtain⟨ob,xM,hv,_,_,_,_⟩:=VT hF.opens (by simp)
  cases hv;refine .inr ⟨by simp,ob,O'.length,rfl,?_,by simp,?_⟩
  ·rw[IntWalk.i64_in _ (by omega)]
   simp
  ·have:=hF.opens.cells (g:=ob) rfl O'.length (.int .i64 (o:Int)) (by simp[YK])
   rwa [Addr.add_lit,Nat.zero_add]at this
theorem zgs{w W:World}{fb:Nat}{s:ByteArray}{pb vW n:Nat}{ov:Value}{L:List zJ}{O:List Nat}{o:Nat}{p:zJ}(hF:Fd w fb s (.slice (some ⟨pb,0,none⟩) n vW) L ov O)(hn:n=L.length)(hp:L[o]?=some p)
 (hW:zg (λ_=>False) w W)(m:Nat):
  uI w fb s (.slice (some ⟨pb,0,none⟩) n vW) ov (L.set o {p with mode:=m}) O (W.setCell ⟨pb,o*5,none⟩ (.int .i64 (m:Int))):=by
 subst hn;have hl:o<L.length:=(List.getElem?_eq_some_iff.1 hp).1;have qw:=hF.still hW;have Vg:pb≠fb:=λe=>hF.np (by rw[e];rfl);have h1:=Pm qw.parts (o*5) (.int .i64 (m:Int)) (by rw[Ph];omega);have e1:(xn L).set (o*5) (.int .i64 (m:Int))=xn (L.set o {p with mode:=m}):=by
  have:=Me (c:=0) (v:=.int .i64 (m:Int)) (q:={p with mode:=m}) hp ⟨rfl,by omega⟩;rw[this,Nat.add_zero]
 rw[e1]at h1;have F1:zg (λk=>k=pb) W (W.setCell ⟨pb,o*5,none⟩ (.int .i64 (m:Int))):=(zg.refl _ W).put _ _;refine⟨.slice (some ⟨pb,0,none⟩) L.length vW,ov,⟨qw.obj.zf F1 (λe=>Vg e.symm),?_,?_,hF.np,hF.no,hF.ne⟩,?_,λk hk=> .inl hk⟩
 ·rw[List.length_set]
  exact h1
 ·exact zQ F1 qw.opens (λk hk e=>hF.ne pb rfl (by rw[←e];exact hk))
 ·exact zg.setCell (hW.mono (λ_ _ h=>absurd h id)) _ (.inl (.inr (.inl rfl))) _
end
theorem zgt{s:ByteArray}{k i j m f:Nat}{T R:List Fr}(hS:uy T ((nt s k).drop j))(hN:nt s (k+1)=T∨∃n,nt s (k+1)=(n,k)::T)(hD:(nt s k).drop i=(m,f)::R)(hi:i<j):Kr (nt s (k+1)).reverse (R.length+1) f=false:=by
 unfold Kr;rw[decide_eq_false_iff_not];rintro⟨h1,h2⟩;obtain⟨hp,_,_⟩:=Vj hD;have hlt:=jv hp;obtain⟨x,hx,J5⟩:=Option.map_eq_some_iff.1 h2;have hm:x∈nt s (k+1):=by
  have:=List.mem_of_getElem? hx;simpa using this
 have h3:zI s (k+1) f=true:=jR.2 ⟨x.1,by rw[←J5];exact hm⟩;obtain⟨n,hn⟩:=(J6 hS hN hlt).1 h3;have hpw:=Zr s k;rw[←List.take_append_drop i (nt s k),hD]at hpw;have zgu:=(List.pairwise_append.1 hpw).2.1;have e:(nt s k).drop j=R.drop (j-(i+1)):=by
  rw[show j=i+((j-(i+1))+1) by omega,←List.drop_drop,hD,List.drop_succ_cons];congr 1;omega
 rw[e]at hn;have:=(List.pairwise_cons.1 zgu).1 _ (List.mem_of_mem_drop hn);simp at this
theorem zgv{s:ByteArray}{k j m f:Nat}{T R:List Fr}(hS:uy T ((nt s k).drop j))(hN:nt s (k+1)=T∨∃n,nt s (k+1)=(n,k)::T)(hD:(nt s k).drop j=(m,f)::R):T=(md s (k+1) f,f)::R∧(nt s (k+1)).reverse[R.length]?=some (md s (k+1) f,f)∧Kr (nt s (k+1)).reverse (R.length+1) f=true:=by
 obtain⟨hp,_,_⟩:=Vj hD;have hT:∃n,T=(n,f)::R:=by
  rw[hD]at hS;rcases hS with rfl|⟨m1,n1,f1,r1,h1,rfl,_⟩
  ·exact⟨m,rfl⟩
  ·cases h1
   exact⟨n1,rfl⟩
 obtain⟨n,rfl⟩:=hT;have hmd:md s (k+1) f=n:=by
  rcases hN with h|⟨n2,h⟩
  ·exact Zq (A:=[]) h
  ·exact Zq (A:=[(n2,k)]) h
 have hg:(nt s (k+1)).reverse[R.length]?=some (n,f):=by
  rcases hN with h|⟨n2,h⟩<;>rw[h]<;>simp
 rw[hmd];refine⟨rfl,hg,?_⟩;unfold Kr;rw[Nat.add_sub_cancel,hg];have hl:R.length<(nt s (k+1)).reverse.length:=(List.getElem?_eq_some_iff.1 hg).1;simp only[Option.map_some,decide_eq_true_iff,and_true];omega
def zgw(s:ByteArray)(fb:Nat)(pv ov:Value)(k j:Nat)(w:World)(g:Nat)(wr:World):Prop:=
 ∃kL oa z oc,Fd wr fb s kL (Z4 s k (j-g)) (.slice oa z oc) (vG s k (j-g))∧zg (Zf fb pv ov) w wr∧(∀b,Zf fb kL (.slice oa z oc) b→Zf fb pv ov b∨w.heap.size≤b)∧g≤j
section
variable(w:World)
theorem zgx(fb:Nat)(s:ByteArray)(pv ov:Value)(k k1:Nat)(hk1:Hid (k1=k+1))(ao:Option Addr)(len Xq:Nat)(hF:Fd w fb s pv (LK s k) ov (vG s k 0))(hk:k<s.size)(hs:s.size≤100000)(hfl:wC w ao len (nt s (k+1)).reverse)(hfr:∀b off,ao=some ⟨b,off,none⟩→¬Zf fb pv ov b):
  Calls Tryz.prog 148 #[.pointer (some ⟨fb,0,none⟩),.slice ao len Xq,.int .i64 (k1:Int)] w λe w'=>(∃v,e=.returned v)∧uI w fb s pv ov (LK s (k+1)) (vG s (k+1) 0) w':=by
 obtain⟨j,T,hj,hS,hN0⟩:=MH s k;have hN:=ru hN0;have Ig:=MI s k;have hll:len≤100001:=by have h1:=hfl.len;have h2:=MI s (k+1);simp at h1;omega
 have HF:=hid hF;have HS:=hid hS;have HN:=hid hN;have Ku:=hid hN0;have Ih:=hid hfl;have jT:=hid hfr;clear hF hS hN hN0 hfl hfr;go_enter Tryz.func148,Tryz.ntmps148;go_wp2
 go_loopg [] j (λg wr=>zgw s fb pv ov k j w g wr)
 case atStart=>
  have h:=HF.out;obtain⟨oa,oc,rfl⟩:=Zt h.opens;refine⟨pv,oa,_,oc,?_,zg.refl _ _,λb hb=> .inl hb,Nat.le_refl _⟩;rw[Nat.sub_self,zgy];exact h
 case round=>
  obtain⟨kL,oa,z,oc,hF2,Vh,hk2,hgj⟩:=hrel;have Ii:=Ih.out.zf Vh jT.out;have c2:wr.cell? ⟨fb,2,none⟩=some (.slice oa z oc):=hF2.obj.cell 2;have Jd:z=(vG s k (j-gk)).length:=by
   have h1:=hF2.opens;rcases h1.2 with⟨h2,h3⟩|⟨_,_,_,h2,_⟩
   ·cases h2;exact h3.symm
   ·cases h2;rfl
  rw[ry]at Jd;have MJ:=hid Vh;have vX:=hid hk2;have Vk:=hid Ii;clear Vh hk2 Ii;by_cases hg0:gk=0
  ·
   subst hg0;rw[Nat.sub_zero]at hF2 Jd
   cases hD:(nt s k).drop j with
   |nil=>
    have hz0:z=0:=by have:=congrArg List.length hD;simp at this;omega
    have hO:vG s k j=[]:=by unfold vG;rw[hD];rfl
    have hL:Z4 s k j=(xY s k).map (xE s (k+1)):=zgz HS.out HN.out hD;rw[hO,hL]at hF2;subst hz0;have HD:=hid hD;clear Jd hD hO hL;have hT0:T=[]:=by
     have:=(rC HS.out).1;rw[HD.out]at this;simpa using this
    rcases Ku.out with hn|⟨m3,hn,ho,_⟩
    ·
     have hln:len=0:=by have:=Vk.out.len;rw[hn,hT0]at this;exact this
     subst hln;have hnb:=Ij HS.out hn;have Xr:=hid hF2;clear hF2;have J7:=hid hn;have Yj:=hid hnb;have HT0:=hid hT0;clear hn hnb hT0;go_wp2;refine bodyPost_end (results_none rfl _ _ _) rfl ?_;refine⟨⟨_,rfl⟩,kL,.slice oa 0 oc,?_,MJ.out,vX.out⟩;rw[MK,if_neg (by rw[Yj.out];simp),List.append_nil];have e:vG s (k+1) 0=[]:=by unfold vG;rw[J7.out,HT0.out];rfl
     rw[e];exact Xr.out
    ·
     have hln:len=1:=by have:=Vk.out.len;rw[hn,hT0]at this;exact this
     subst hln;obtain⟨hb,hp,hbl⟩:=Ik hn ho;obtain⟨b,off,rfl,hblt,q0,q1⟩:=Vk.out.cells 0 (m3,k) (by rw[hn,hT0];rfl);simp only[Nat.zero_mul,Nat.add_zero]at q0 q1;have hup:Zh s k= -1:=by unfold Zh;rw[hbl,hT0]
     rw[hup]at hp;have hlen:((xY s k).map (xE s (k+1))).length≤900000:=by have:=ML s k;simp;omega
     have jF:=hid (λW hW=>Ie W fb s kL (.slice oa 0 oc) _ [] m3 k (-1) _ (hF2.still hW) rfl hlen (by simp) (.inl ⟨rfl,rfl⟩));have J7:=hid hn;have HT0:=hid hT0;have HB:=hid hb;have HP:=hid hp;clear hF2 hn hT0 hb hp hbl hup hlen
     go_wp2_with fail
     refine(jF.out _ (zg.refl _ _)).mono ?_;rintro e w3 ⟨⟨v,rfl⟩,hT⟩;go_wp2;refine bodyPost_end (results_none rfl _ _ _) rfl ?_;refine⟨⟨_,rfl⟩,?_⟩;rw[MK,if_pos HB.out,HP.out];have e:vG s (k+1) 0=[]++ [((xY s k).map (xE s (k+1))).length]:=by
      unfold vG;rw[J7.out,HT0.out];simp[idx]
     rw[e];exact uI.trans MJ.out vX.out hT
   |cons a R=>
    obtain⟨m,f⟩:=a;obtain⟨hpr,hmd,hjl⟩:=Vj hD;obtain⟨hT,hfg,hst⟩:=zgv HS.out HN.out hD;have hRl:R.length+1=(nt s k).length-j:=by have:=congrArg List.length hD;simp at this;omega
    have Je:=Pz hD;have Vl:(vG s k (j+1)).length=R.length:=by rw[ry];omega
    have hg:=Il hD;have lg:=zgA HS.out HN.out hD;rw[Je]at hF2;obtain⟨b,off,rfl,hblt,q0,q1⟩:=Vk.out.cells R.length _ hfg;simp only at q0 q1;have zgB:R.length<len:=by
     have h1:=(List.getElem?_eq_some_iff.1 hfg).1;have:=Vk.out.len;omega
    have PD:=hid (λW hW=>Ic W fb s kL oa z oc _ _ _ _ (some ⟨b,off,none⟩) len Xq _ (hF2.still hW) hg (Vk.out.zf hW (λ_ _ _ h=>h)) (by omega) (by omega) true (hid (by rw[Vl,(rD s k f).1];exact hst.symm)));obtain⟨pb,vW,ob,xM,rfl,hov,hc,h3,hfz,hoc,hol,hpc,Vg,Po,Pq⟩:=hF2.last hg;obtain⟨rfl,hz2,rfl⟩:oa=some ⟨ob,0,none⟩∧z=(vG s k (j+1)).length+1∧oc=xM:=by simpa using hov
    clear hov;rw[Vl]at h3 hz2;have c1:=hF2.obj.cell 1;simp at c1;obtain⟨n,hn⟩:∃n,(Z4 s k j).length=n:=⟨_,rfl⟩;have Xt:=hid (fun(W:World) (hW:zg (λ_=>False) wr W)=>Pn W fb pb n vW ob z R.length oc (idx s f) (hid hz2) (by omega) (by rw[←hn];exact(hF2.still hW).obj.cell 1) ((hF2.still hW).obj.cell 2) ((hW.cell (by
     have:=hF2.lt ob (.inr (.inr rfl));exact this) (λh=>h)).trans h3) (by omega))
    have YL:=hid (λW hW=>zgs (W:=W) hF2 rfl hg hW (cnt (md s (k+1) f)));rw[lg]at YL;have p0:=hc 0 _ rfl;have g0:=hfz (idx s f*5);rw[Nat.add_zero]at p0;have zgC:=Vk.out;obtain⟨M,hM⟩:∃M,md s (k+1) f=M:=⟨_,rfl⟩;rw[hM]at q0 YL;obtain⟨o,ho⟩:∃o,idx s f=o:=⟨_,rfl⟩;rw[ho]at Xt YL p0 g0;have PE:z=R.length+1:=by omega
    have hrl:R.length≤100000:=by omega
    obtain⟨r,hr⟩:∃r,R.length=r:=⟨_,rfl⟩;rw[hr]at q0 q1 zgB PE hrl;rw[hn]at YL;have e1:IntKind.i64.wrap ((z:Int)-1)=(r:Int):=by rw[IntWalk.i64_in _ (by omega)];omega
    have t0:(0:Int)<(z:Int):=by omega
    have t1:(r:Int)<(len:Int):=by omega
    have t2:(0:Int)≤(r:Int):=by omega
    have HCO:=hid (λW=>zgn W M);have Io:∀W,zg (λ_=>False) wr W→W.cell? ⟨b,off+r*2,none⟩=some (.int .i64 (M:Int)):=λW hW=>(hW.cell hblt (λh=>h)).trans q0;have hob:∀W,zg (λ_=>False) wr W→W.cell? ⟨pb,o*5,none⟩=some (.int .i64 ((xE s k f).mode:Int))∧W.frozen? ⟨pb,o*5,none⟩=false∧W.cell? ⟨fb,2,none⟩=some (.slice (some ⟨ob,0,none⟩) z oc):=by
     intro W hW;have h1:=hF2.still hW;refine⟨(hW.cell (by have:=hF2.lt pb (.inr (.inl rfl));exact this) (λh=>h)).trans p0,iT h1.parts _,?_⟩;have:=h1.obj.cell 2;simp at this;exact this
    have HQB:=hid Io;have HOB:=hid hob;have HR:=hid hr;have PG:=hid PE;have HT:=hid hT;have HO:=hid ho;have HNL:=hid hn;have Jf:=hid Je;have Jg:=hid Vl;have HD:=hid hD;have Vm:=hid hRl;have ZF:∀b',Zf fb (.slice (some ⟨pb,0,none⟩) n vW) (.slice (some ⟨ob,0,none⟩) z oc) b'→Zf fb pv ov b'∨w.heap.size≤b':=λb' h=>vX.out b' h;have Xr:=hid ZF;clear hF2 zgC Jd hz2 hT hn ho hr Je Vl hg lg hpr hmd hjl hfg hst hRl hol hpc hoc hc h3 hfz c1 q0 q1 hM Io hob hD ZF p0 g0 PE vX
    go_wp2_with fail
    refine(PD.out _ (zg.refl _ _)).mono ?_;rintro e w3 ⟨rfl,q,rfl⟩;obtain⟨V,hV⟩:∃V,V=wr.drewN q:=⟨_,rfl⟩;have J8:zg (λ_=>False) wr V:=by rw[hV];exact(zg.refl _ _).drewN q
    rw[←hV];clear hV c2;obtain⟨v0,vf,v2⟩:=HOB.out V J8;have vq:=HQB.out V J8;go_wp2
    go_cut []from 29 to 39 (λwx=>uI wr fb s (.slice (some ⟨pb,0,none⟩) n vW) (.slice (some ⟨ob,0,none⟩) z oc) ((xY s k).map (xE s (k+1))) (vG s k (j+1)++ [o]) wx)
    case first=>
     go_region_with (first
      |(go_at_call 171;refine(Xt.out _ (by first|exact J8.drew|exact J8)).mono ?_;rintro e w4 ⟨rfl,q4,rfl⟩)
      |(go_at_call 170;refine(HCO.out _).mono ?_;rintro e w5 ⟨rfl,rfl⟩))
     all_goals
      go_wp2_with fail
      go_meet;case rel=>exact YL.out _ (J8.drewN _)
    case rest=>
     have Ip:=hid (uI.trans MJ.out Xr.out hcut);clear hcut v0 vf v2 vq;rcases Ku.out with hn|⟨m3,hn,hop,_⟩
     ·
      have hln:len=r+1:=by have:=Vk.out.len;rw[hn,HT.out]at this;simp at this;rw[HR.out]at this;exact this
      have t5:¬(z:Int)<(len:Int):=by have:=PG.out;omega
      have J7:=hid hn;have Yj:=hid (Ij HS.out hn);clear hn hln;go_wp2;refine bodyPost_end (results_none rfl _ _ _) rfl ?_;refine⟨⟨_,rfl⟩,?_⟩;rw[MK,if_neg (by rw[Yj.out];simp),List.append_nil];have e:vG s (k+1) 0=vG s k (j+1)++ [o]:=by
       rw[←HO.out,←Jf.out,←Iq HS.out];unfold vG;rw[List.drop_zero,J7.out]
      rw[e];exact Ip.out
     ·
      have hln:len=r+1+1:=by have:=Vk.out.len;rw[hn,HT.out]at this;simp at this;rw[HR.out]at this;exact this
      have t5:(z:Int)<(len:Int):=by have:=PG.out;omega
      obtain⟨hb,hp,hbl⟩:=Ik hn hop;have hup:Zh s k=(o:Nat):=by unfold Zh;rw[hbl,HT.out];simp[HO.out]
      rw[hup]at hp;obtain⟨Kq,L9,hF3,PH,hk3⟩:=Ip.out;have Ir:=Ih.out.zf PH jT.out;obtain⟨b',off',hbe,zmz,q0,q1⟩:=Ir.cells z (m3,k) (by rw[PG.out,←HR.out,hn,HT.out];simp);cases hbe;simp only at q0 q1;have hlen:((xY s k).map (xE s (k+1))).length≤900000:=by have:=ML s k;simp;omega
      have Iu:(vG s k (j+1)++ [o]).length≤900000:=by
       have h1:=Jg.out;have h2:=HR.out;rw[List.length_append,h1,h2];simp;omega
      have jF:=hid (λW hW=>Ie W fb s Kq L9 _ _ m3 k (o:Nat) _ (hF3.still hW) rfl hlen Iu (.inr ⟨_,_,rfl,rfl⟩));have J7:=hid hn;have HB:=hid hb;have HP:=hid hp;have zgD:=hid PH;have HK3:=hid hk3;clear hF3 PH hk3 Ir hn hb hp hbl hup hlen Iu hln
      go_wp2_with fail
      refine(jF.out _ (zg.refl _ _)).mono ?_;rintro e w3 ⟨⟨v,rfl⟩,hT⟩;go_wp2;refine bodyPost_end (results_none rfl _ _ _) rfl ?_;refine⟨⟨_,rfl⟩,?_⟩;rw[MK,if_pos HB.out,HP.out];have e:vG s (k+1) 0=vG s k (j+1)++ [o]++ [((xY s k).map (xE s (k+1))).length]:=by
       rw[←HO.out,←Jf.out,←Iq HS.out];unfold vG;rw[List.drop_zero,J7.out];simp[idx]
      rw[e];exact uI.trans zgD.out HK3.out hT
  ·
   have hlt:j-gk<j:=by omega
   cases hD:(nt s k).drop (j-gk)with
   |nil=>exact absurd hD (by intro h;have:=congrArg List.length h;simp at this;omega)
   |cons a R=>
    obtain⟨m,f⟩:=a;obtain⟨hpr,hmd,hjl⟩:=Vj hD;have hst:=zgt HS.out HN.out hD hlt;have hRl:R.length+1=(nt s k).length-(j-gk):=by have:=congrArg List.length hD;simp at this;omega
    have Je:=Pz hD;have Vl:(vG s k (j-gk+1)).length=R.length:=by rw[ry];omega
    have hg:=Il hD;have hsu:=zgE hD;rw[Je]at hF2;have hfk:=(rD s k f).1;have PD:=hid (λW hW=>Ic W fb s kL oa z oc _ _ _ _ ao len Xq _ (hF2.still hW) hg (Vk.out.zf hW (λ_ _ _ h=>h)) (by omega) (by omega) false (hid (by rw[Vl,hfk];exact hst.symm)));have Xu:=hid (λW hW=>iU W fb s kL (.slice oa z oc) _ _ _ _ (k+1) false (hF2.still hW) hg hs (by rw[hfk];have:=jv hpr;omega) (by omega));rw[hsu,←hk1.out]at Xu;have t0:(0:Int)<(z:Int):=by omega
    have HE:=hid (show j-gk+1=j-(gk-1) by omega);have hgg:gk-1<gk:=by omega
    clear hF2 Jd hD hpr hmd hjl hst hRl Je Vl hg hsu hfk
    go_wp2_with fail
    refine(PD.out _ (zg.refl _ _)).mono ?_;rintro e w3 ⟨rfl,q,rfl⟩;obtain⟨V,hV⟩:∃V,V=wr.drewN q:=⟨_,rfl⟩;have J8:zg (λ_=>False) wr V:=by rw[hV];exact(zg.refl _ _).drewN q
    rw[←hV];clear hV c2
    go_wp2_with fail
    refine(Xu.out _ J8).mono ?_;rintro e w4 ⟨⟨v,rfl⟩,hT⟩;go_wp2
    go_roundg (gk-1)
    case measure=>exact hgg
    case rel=>
     obtain⟨Kq,L9,h1,h2,h3⟩:=uI.trans MJ.out vX.out (uI.trans (J8.mono (λ_ _ h=>absurd h id)) (λ_ h=> .inl h) hT);rw[HE.out]at h1;obtain⟨Xv,PI,rfl⟩:=Zt h1.opens;exact⟨Kq,Xv,_,PI,h1,h2,h3,by omega⟩
end
theorem zd5{ops:Array Oper}{rest:List Oper}{o:Oper}{a:Act}{w:World}{Q:Exit→Act→World→Prop}(hgd:o.guard=none)(s x:Operand)
 (ho:o.op=.call {callee:=.builtin .append,args:=#[s,x],argTypes:=#[164,164]})
 (base:Nat)(v0:Value)(n0:Nat)(yF:List Value)(hs:a.eval s=v0)(hown:w.ownsRow base 174 2 v0 n0 yF)(b n c:Nat)(news:List Value)
 (hx:a.eval x=.slice (some ⟨b,0,none⟩) n c)(hn:news.length=n*2)(hc:∀j u,news[j]?=some u→w.cell? ((⟨b,0,none⟩:Addr).add j)=some u)(h1:∀u∈news,u.oneCell'=true)(hl:n0+n≤1000000)(hbase:base≤w.heap.size)
 (h:∀v' w',w'.ownsRow base 174 2 v' (n0+n) (yF++news)→w.grownBy w' v0.ownBlock→wpList Tryz.prog ops Q rest (a.put o.dst v') w'):wpList Tryz.prog ops Q (o::rest) a w:=by
 refine wpList_plain hgd λ_ hK=>?_;obtain⟨i,hi,hz,hsize,hby⟩:=info_parts Ht;obtain⟨v',w',hr',h2,h3,h4,h5⟩:=run_append_own_at (P:=Tryz.prog) w base 164 o.type 174 i _ 2 16 Tryz.underlying164 hi hz hsize hby rfl (by omega) v0 n0 yF hown ⟨b,0,none⟩ n c news hn hc
  h1 (by unfold maxLen;omega) (by omega) hbase
 unfold Oper.wp execOp;simp only[ho,resolve,invoke,builtin,Sem.run_bind,Sem.run_pure,Result.andThen_ok,List.map_toArray,List.map_cons,List.map_nil,hs,hx,hr'];exact hK _ _ (h v' w' h2 h3)
def Rs(w:World)(base:Nat)(v:Value)(l:List Fr):Prop:=∃g cap,v=.slice (some ⟨g,0,none⟩) l.length cap∧base≤g∧Fw w g cap l
theorem Rs.below{w w':World}{base:Nat}{v:Value}{l:List Fr}(h:Rs w base v l)(hb:Below w.heap.size w w'):Rs w' base v l:=by
 obtain⟨g,cap,h1,h2,h3⟩:=h;exact⟨g,cap,h1,h2,h3.zf (zg.of_below (p:=λ_=>False) hb) (λh=>h)⟩
theorem Rs.base{w:World}{b c:Nat}{v:Value}{l:List Fr}(h:Rs w b v l)(hc:c≤b):Rs w c v l:=by
 obtain⟨g,cap,h1,h2,h3⟩:=h;exact⟨g,cap,h1,by omega,h3⟩
theorem zd6(g cap:Nat)(l:List Fr)(w:World)(hF:Fw w g cap l)(h0:0<l.length)(hl:l.length≤100000):
  Calls Tryz.prog 146 #[.slice (some ⟨g,0,none⟩) l.length cap] w λe w'=>(∃v,e=.returned v∧Rs w' w.heap.size v l)∧Below w.heap.size w w':=by
 have hcell:∀X,Below w.heap.size w X→∀j u,(jA l)[j]?=some u→X.cell? ((⟨g,0,none⟩:Addr).add j)=some u:=by
  intro X hX j u hj;have h1:=(hF.zf (zg.of_below (p:=λ_=>False) hX) (λh=>h)).owns;exact h1.cells (g:=g) rfl j u hj
 have heq:=Lib.run_eql_slice_nil (P:=Tryz.prog) w 164 174 (some ⟨g,0,none⟩) l.length cap 0 0 Tryz.underlying164;have HF:=Lib.hid hF;clear hF;go_enter Tryz.func146,Tryz.ntmps146
 go_wp2_with (at_builtin;refine zd5 rfl _ _ rfl w.heap.size (.slice (some ⟨w.heap.size,0,none⟩) 0 0) 0 [] rfl ⟨rfl,.inr ⟨w.heap.size,0,_,rfl,Nat.le_refl _,zh.new w _ _,Nat.le_refl _,by unfold maxLen;omega,rfl,rfl⟩⟩ g l.length cap (jA l) rfl (mM l) (hcell _ ((Below.refl _ _).alloc (Nat.le_refl _) _)) (zd7 l) (by omega) (by simp) ?_;intro v' w1 hown hgr)
 go_ret;rw[Nat.zero_add,List.nil_append]at hown;refine⟨⟨_,rfl,?_⟩,((Below.refl w.heap.size w).alloc (Nat.le_refl _) (.cells #[] 174)).grown hgr (by simp) (λk hk=>by simp[Value.ownBlock]at hk;omega)⟩;obtain⟨g',cap',h1,h2,h3⟩:=Fw.mO hown rfl h0;exact⟨g',cap',h1,h2,h3⟩
section
variable(mb g cap p:Nat)(w:World)
theorem Hu(x:Ms)(hM:Mc w mb g cap x p)(h0:0<x.st.length)(hl:x.st.length≤100000):
  Calls Tryz.prog 127 #[.pointer (some ⟨mb,0,none⟩)] w λe w'=>(∃v,e=.returned v∧Rs w' w.heap.size v x.st.reverse)∧Below w.heap.size w w':=by
 have c0:w.cell? ⟨mb,0,none⟩=some (.slice (some ⟨g,0,none⟩) x.st.length cap):=hM.obj.cell 0;have hcl:=zd6 g cap x.st.reverse w hM.row (by simpa using h0) (by simpa using hl);rw[List.length_reverse]at hcl;go_enter Tryz.func127,Tryz.ntmps127
 go_wp2_with fail
 refine hcl.mono ?_;rintro e w1 ⟨⟨v,rfl,hR⟩,hB⟩;go_wp2;go_ret;exact⟨⟨v,rfl,hR⟩,hB⟩
theorem SG:
  Calls Tryz.prog 124 #[] w λe w'=>e=.returned (.pointer (some ⟨w.heap.size+1,0,none⟩))∧Mc w' (w.heap.size+1) w.heap.size 1 Ms.start 0∧Below w.heap.size w w':=by
 go_enter Tryz.func124,Tryz.ntmps124;go_wp2;go_ret;refine⟨by first|rfl|simp,⟨?_,by omega,?_⟩,((Below.refl w.heap.size w).alloc (Nat.le_refl _) _).alloc (by simp) _⟩
 ·exact World.size_alloc w _▸zh.new _ _ _
 ·exact⟨_,(zh.new w _ _).alloc _,Nat.le_refl _,by unfold maxLen;omega,rfl,rfl⟩
theorem xh.below{n:Nat}{w0 w w':World}{mb g:Nat}{x:Ms}{p:Nat}(hB:Below n w0 w)(hn:n≤w.heap.size)(hm:n≤mb)(hg:n≤g)(h:xh w mb g x p w'):
  ∃g' cap',Mc w' mb g' cap' x p∧n≤g'∧Below n w0 w':=by
 obtain⟨g',cap',h1,h2,h3⟩:=h;refine⟨g',cap',h1,by omega,hB.trans (h2.below hn ?_)⟩;rintro k (h|h)<;>omega
end
section
variable(mb g cap p:Nat)(w:World)
theorem zd8(x:Ms)(hM:Mc w mb g cap x p):
  Calls Tryz.prog 128 #[.pointer (some ⟨mb,0,none⟩)] w λe w'=>e=.returned (.bool x.fresh)∧w'=w:=by
 have c0:w.cell? ⟨mb,1,none⟩=some (.bool x.fresh):=hM.obj.cell 1;go_enter Tryz.func128,Tryz.ntmps128;go_wp2;go_ret;exact⟨rfl,rfl⟩
def zd9(s:ByteArray)(w:World)(v5 v9:Value)(wr:World):Prop:=
 ∃k g cap,k≤s.size∧v9=.int .i64 (k:Nat)∧Mc wr (w.heap.size+1) g cap (zL s k) k∧w.heap.size≤g∧Below w.heap.size w wr∧w.heap.size+1<wr.heap.size
theorem zdv(s:ByteArray)(hs:s.size≤99000):
  Calls Tryz.prog 110 #[.string s] w λe w'=>(∃v,e=.returned (.tuple #[v,.bool (zL s s.size).fresh])∧Rs w' w.heap.size v (zL s s.size).st.reverse)∧Below w.heap.size w w':=by
 go_enter Tryz.func110,Tryz.ntmps110
 go_wp2_with fail
 refine(SG w).mono ?_;rintro e w1 ⟨rfl,hM1,hB1⟩;go_wp2
 go_loopw [5,9] (λv5 v9 wr=>zd9 s w v5 v9 wr) (λ_ v _=>s.size-(intOf v).toNat)
 case atStart=>exact⟨0,_,_,Nat.zero_le _,rfl,hM1,Nat.le_refl _,hB1,hM1.obj.lt⟩
 case round=>
  obtain⟨k,g,cap,hk,rfl,hM,hg,hB,hlt⟩:=hrel;clear hM1 hB1;have hI:=ku s k;have hlen:=V6 s k;have hne:=hI.ne;have hsucc:=Y7 s k;obtain⟨x,hx⟩:∃x,zL s k=x:=⟨_,rfl⟩;rw[hx]at hM hI hlen hne hsucc;have HX:=hid hx;clear hx;by_cases hlt2:(k:Int)<s.size
  ·have hlt':k<s.size:=by omega
   have hby:(s[k].toNat:Int)=(by8 s k:Nat):=by unfold by8;rw[yx hlt']
   have hb8:=QE s k;obtain⟨b,hb⟩:∃b,by8 s k=b:=⟨_,rfl⟩;rw[hb]at hby hb8 hsucc;have HB:=hid hb;have HS:=hid hsucc;have HI:=hid hI;clear hb hsucc hI
   go_wp2_with fail
   refine(SH (w.heap.size+1) g cap k _ b x hM HI.out (by omega) hb8 (by omega) _ HS).mono ?_;rintro e w2 ⟨⟨v,rfl⟩,hT⟩;obtain⟨g2,cap2,hM2,hg2,hB2⟩:=hT.below hB (by omega) (by omega) hg;go_wp2
   go_roundw
   case rel=>exact⟨k+1,g2,cap2,by omega,by go_num,hM2,hg2,hB2,hM2.obj.lt⟩
   case measure=>simp[intOf];omega
  ·obtain rfl:k=s.size:=by omega
   rw[←HX.out]at hM hI hlen hne;clear hsucc
   go_wp2_with fail
   refine(Hu (w.heap.size+1) g cap _ _ _ hM hne (by omega)).mono ?_;rintro e w2 ⟨⟨v,rfl,hR⟩,hB2⟩
   go_wp2_with fail
   refine(zd8 (w.heap.size+1) g cap _ _ _ (hM.zf (zg.of_below (p:=λ_=>False) hB2) (λh=>h) (λh=>h))).mono ?_;rintro e w3 ⟨rfl,rfl⟩;go_wp2;go_ret2;exact⟨⟨v,rfl,hR.base (by omega)⟩,hB.trans (hB2.mono (by omega))⟩
end
def vC(x:Ms)(b:Nat):Bool:=uG b &&(decide (x.st.length=1)||(decide (x.st.length=2)&& decide (top x.st=12)&& decide (b≠40)))
section
variable(mb g cap p:Nat)(w:World)
theorem zdW(b:Nat)(x:Ms)(hM:Mc w mb g cap x p)(h0:0<x.st.length)(hl:x.st.length≤100000)(bb:Bool)(hbb:Hid (vC x b=bb)):
  Calls Tryz.prog 125 #[.pointer (some ⟨mb,0,none⟩),.int .u8 b] w λe w'=>e=.returned (.bool bb)∧∃q,w'=w.drewN q:=by
 obtain⟨st,fresh⟩:=x
 cases st with
 |nil=>simp at h0
 |cons a r=>
  obtain⟨m,f⟩:=a;obtain⟨z,hz⟩:∃z,z=r.length+1:=⟨_,rfl⟩;have c0:w.cell? ⟨mb,0,none⟩=some (.slice (some ⟨g,0,none⟩) z cap):=by rw[hz];exact hM.obj.cell 0
  simp only[List.length_cons]at hl;obtain⟨eb,heb⟩:∃eb,uG b=eb:=⟨_,rfl⟩;have hst:vC ⟨(m,f)::r,fresh⟩ b=(eb &&(decide (z=1)||(decide (z=2)&& decide (m=12)&& decide (b≠40)))):=by
   unfold vC;rw[heb,hz];rfl
  rw[hbb.out]at hst;have HB:=hid heb
  cases eb with
  |false=>
   have e:bb=false:=by rw[hst];simp
   clear hst hbb;subst e;clear hz;go_enter Tryz.func125,Tryz.ntmps125
   go_wp2_with fail
   refine(V3 _ _).mono ?_;rw[heb];rintro e w1 ⟨rfl,rfl⟩;go_wp2;go_ret;exact⟨rfl,0,rfl⟩
  |true=>
   by_cases h2:z=2
   ·have u2:((z:Int)==2)=true:=beq_iff_eq.2 (by omega)
    by_cases h12:m=12
    ·by_cases yV:b=40
     ·have e:bb=false:=by rw[hst];simp[h2,yV]
      have v1:((m:Int)==12)=true:=beq_iff_eq.2 (by omega);have v2:((b:Int)==40)=true:=beq_iff_eq.2 (by omega);clear hst hbb;subst e;subst h12 yV;have hb':uG 40=true:=heb;clear hz h2;go_enter Tryz.func125,Tryz.ntmps125
      go_wp2_with fail
      refine(V3 _ _).mono ?_;rw[hb'];rintro e w1 ⟨rfl,rfl⟩
      go_wp2_with fail
      refine(mG mb g cap p _ 12 f r fresh hM (by omega)).mono ?_;rintro e w1 ⟨rfl,q,rfl⟩;go_wp2;go_ret;exact⟨rfl,q,rfl⟩
     ·have e:bb=true:=by rw[hst];simp[h2,h12,yV]
      have v2:((b:Int)==40)=false:=beq_eq_false_iff_ne.2 (by omega);have v3:((b:Int)!=40)=true:=by rw[bne,v2];rfl
      clear hst hbb;subst e;subst h12;clear hz h2 yV;go_enter Tryz.func125,Tryz.ntmps125
      go_wp2_with fail
      refine(V3 _ _).mono ?_;rw[heb];rintro e w1 ⟨rfl,rfl⟩
      go_wp2_with fail
      refine(mG mb g cap p _ 12 f r fresh hM (by omega)).mono ?_;rintro e w1 ⟨rfl,q,rfl⟩;go_wp2;go_ret;exact⟨rfl,q,rfl⟩
    ·have e:bb=false:=by rw[hst];simp[h2,h12]
     have v1:((m:Int)==12)=false:=beq_eq_false_iff_ne.2 (by omega);clear hst hbb;subst e;clear hz h2 h12;go_enter Tryz.func125,Tryz.ntmps125
     go_wp2_with fail
     refine(V3 _ _).mono ?_;rw[heb];rintro e w1 ⟨rfl,rfl⟩
     go_wp2_with fail
     refine(mG mb g cap p _ m f r fresh hM (by omega)).mono ?_;rintro e w1 ⟨rfl,q,rfl⟩;go_wp2;go_ret;exact⟨rfl,q,rfl⟩
   ·have u2:((z:Int)==2)=false:=beq_eq_false_iff_ne.2 (by omega)
    have u1:((z:Int)==1)=bb:=by
     rw[hst,Bool.eq_iff_iff,beq_iff_eq];simp[h2];omega
    clear hst hbb hz h2;go_enter Tryz.func125,Tryz.ntmps125
    go_wp2_with fail
    refine(V3 _ _).mono ?_;rw[heb];rintro e w1 ⟨rfl,rfl⟩;go_wp2;go_ret;exact⟨rfl,0,rfl⟩
end
def xZ(s:ByteArray)(a p k:Nat):Ms:=YJ Ms.start (λi=>by8 s (a+i)) p k
def QZ(s:ByteArray)(a p n:Nat):Prop:=a≤n∧n≤s.size∧(∀i,a≤i→i<n→vC (xZ s a p (i-a)) (by8 s i)=false)∧(n<s.size→vC (xZ s a p (n-a)) (by8 s n)=true)
theorem He(s:ByteArray)(a p k:Nat):xZ s a p (k+1)=yE (xZ s a p k) (by8 s (a+k)) (p+k):=rfl
theorem Hf(s:ByteArray)(a p k:Nat):Inv (xZ s a p k):=SC Inv.start _ _ k
theorem Hg(s:ByteArray)(a p k:Nat):(xZ s a p k).st.length≤k+1:=by
 have:=SE Ms.start (λi=>by8 s (a+i)) p k;have e:Ms.start.st.length=1:=rfl;unfold xZ;omega
theorem zdX(w:World)(s:ByteArray)(a:Nat)(ha:a≤s.size)(hs:s.size≤80000):
  Calls Tryz.prog 109 #[.string s,.int .i64 (a:Int)] w λe w'=>(∃n:Nat,e=.returned (.int .i64 (n:Int))∧QZ s a 0 n)∧Below w.heap.size w w':=by
 have t1:decide ((a:Int)<0)=false:=decide_eq_false_iff_not.2 (by omega);have t2:decide ((s.size:Int)<(a:Int))=false:=decide_eq_false_iff_not.2 (by omega);have t3:decide (s.size<a)=false:=decide_eq_false_iff_not.2 (by omega);go_enter Tryz.func109,Tryz.ntmps109
 go_wp2_with fail
 refine(SG w).mono ?_;rintro e w1 ⟨rfl,hM1,hB1⟩;clear t1 t2 t3;go_wp2
 go_loopw [1,4] (λv1 v4 wr=>∃k g cap,a+k≤s.size∧v1=.int .i64 ((a+k:Nat):Int)∧Mc wr (w.heap.size+1) g cap (xZ s a 0 k) k∧w.heap.size≤g∧Below w.heap.size w wr∧Hid (∀i,a≤i→i<a+k→vC (xZ s a 0 (i-a)) (by8 s i)=false)) (λv _ _=>s.size-(intOf v).toNat)
 case atStart=>exact⟨0,_,_,by omega,rfl,hM1,Nat.le_refl _,hB1,hid λi h1 h2=>by omega⟩
 case round=>
  obtain⟨k,g,cap,hk,rfl,hM,hg,hB,Yi⟩:=hrel;clear hM1 hB1;have hI:=Hf s a 0 k;have hlen:=Hg s a 0 k;have hne:=hI.ne;have hsucc:=He s a 0 k;rw[Nat.zero_add]at hsucc;obtain⟨x,hx⟩:∃x,xZ s a 0 k=x:=⟨_,rfl⟩;rw[hx]at hM hI hlen hne hsucc;have HX:=hid hx;clear hx;obtain⟨j,hj⟩:∃j,a+k=j:=⟨_,rfl⟩;have hkj:k≤j:=by omega
  rw[hj]at hk hsucc ⊢;by_cases hlt:j<s.size
  ·have hlt2:(j:Int)<s.size:=by omega
   have hq0:(0:Int)≤(j:Int):=by omega
   have hby:(s[j].toNat:Int)=(by8 s j:Nat):=by unfold by8;rw[yx hlt]
   have hb8:=QE s j;obtain⟨b,hb⟩:∃b,by8 s j=b:=⟨_,rfl⟩;rw[hb]at hby hb8 hsucc;have HB:=hid hb;have HS:=hid hsucc;have HI:=hid hI;have HJ:=hid hj;clear hb hsucc hI hj;obtain⟨bb,hbb⟩:∃bb,vC x b=bb:=⟨_,rfl⟩;have JJ:=hid hbb;clear hbb;have GR:=zdW (w.heap.size+1) g cap k wr b x hM hne (by omega) bb JJ
   cases bb with
   |true=>
    go_wp2_with fail
    refine GR.mono ?_;rintro e w2 ⟨rfl,q,rfl⟩;go_wp2;go_ret;refine⟨⟨j,rfl,by have:=HJ.out;omega,by omega,λi h1 h2=>Yi.out i h1 (by have:=HJ.out;omega),λ_=>?_⟩,⟨hB.os,hB.tape,hB.output,hB.size,hB.block⟩⟩;rw[HB.out,show j-a=k by have:=HJ.out;omega,HX.out];exact JJ.out
   |false=>
    go_wp2_with fail
    refine GR.mono ?_;rintro e w2 ⟨rfl,q,rfl⟩
    go_wp2_with fail
    refine(SH (w.heap.size+1) g cap k _ b x (hM.JX q) HI.out (by omega) hb8 (by omega) _ HS).mono ?_;rintro e w3 ⟨⟨v,rfl⟩,hT⟩;have Hl:Below w.heap.size w (wr.drewN q):=⟨hB.os,hB.tape,hB.output,hB.size,hB.block⟩;obtain⟨g2,cap2,hM2,hg2,hB2⟩:=hT.below Hl Hl.size (by omega) hg;go_wp2
    go_roundw
    case rel=>
     refine⟨k+1,g2,cap2,by have:=HJ.out;omega,?_,hM2,hg2,hB2,hid λi h1 h2=>?_⟩
     ·have:=HJ.out
      rw[show a+(k+1)=j+1 by omega]
      go_num
     ·by_cases h3:i=j
      ·rw[h3,HB.out,show j-a=k by have:=HJ.out;omega,HX.out]
       exact JJ.out
      ·exact Yi.out i h1 (by have:=HJ.out;omega)
    case measure=>simp[intOf];omega
  ·obtain rfl:j=s.size:=by omega
   have HJ:=hid hj;clear hsucc hj;go_wp2;go_ret;exact⟨⟨s.size,rfl,by have:=HJ.out;omega,Nat.le_refl _,λi h1 h2=>Yi.out i h1 (by have:=HJ.out;omega),λh=>by omega⟩,hB⟩
def Ge(s:ByteArray)(i:Nat)(x:Nat):zJ:=if((nt s s.size).take i).any (λy=>y.2==x)=true then Zg s s.size true (xE s s.size x)else xE s s.size x
def Vo(s:ByteArray)(i:Nat):List zJ:=(xY s s.size).map (Ge s i)
theorem zgF(s:ByteArray):Vo s 0=LK s s.size:=by
 unfold Vo LK;congr 1
theorem zgG{s:ByteArray}{i m f:Nat}{R:List Fr}(h:(nt s s.size).drop i=(m,f)::R):(Vo s i)[idx s f]?=some (xE s s.size f):=by
 obtain⟨hp,_,_⟩:=Vj h;unfold Vo;rw[List.getElem?_map,JS s f (wE hp) (jv hp),Option.map_some];unfold Ge;rw[if_neg (by rw[Iw h];simp)]
theorem zgH{s:ByteArray}{i m f:Nat}{R:List Fr}(h:(nt s s.size).drop i=(m,f)::R):(Vo s i).set (idx s f) (Zg s s.size true (xE s s.size f))=Vo s (i+1):=by
 obtain⟨hp,_,hi⟩:=Vj h;unfold Vo;rw[PK (wE hp) (jv hp)];apply List.map_congr_left;intro x _;have e:(nt s s.size).take (i+1)=(nt s s.size).take i++ [(m,f)]:=by
  rw[List.take_add_one];have:(nt s s.size)[i]?=some (m,f):=by
   have h2:=congrArg (λl=>l[0]?) h;simpa using h2
  rw[this];rfl
 unfold Ge;rw[e,List.any_append];by_cases g:x=f
 ·subst g
  simp
 ·rw[if_neg g]
  have:([(m,f)].any λy=>y.2==x)=false:=by simp;omega
  rw[this,Bool.or_false]
theorem zgI{s:ByteArray}{i:Nat}(h:(nt s s.size).length≤i):Vo s i=PL s:=by
 unfold Vo PL;apply List.map_congr_left;intro x hx;obtain⟨hlt,_⟩:=MM.1 hx;unfold Ge prt;rw[List.take_of_length_le h];by_cases g:zI s s.size x=true
 ·have g2:(nt s s.size).any (λy=>y.2==x)=true:=g
  rw[if_pos g2,if_pos (Iy g)]
 ·have g2:¬(nt s s.size).any (λy=>y.2==x)=true:=g
  have:=PM hlt (by simpa using g);rw[if_neg g2,if_neg (by omega)]
def X4(w:World)(base:Nat)(v:Value)(L:List zJ):Prop:=w.ownsRow base 142 5 v L.length (xn L)
theorem Iz{w:World}{b c:Nat}{e:TypeId}{size n:Nat}{v:Value}{xs:List Value}(h:w.ownsRow b e size v n xs)(hc:∀k,v.ownBlock=some k→c≤k):w.ownsRow c e size v n xs:=by
 refine⟨h.1,?_⟩;rcases h.2 with h0|⟨g,cap,cur,hv,hb,h5⟩
 ·exact .inl h0
 ·exact .inr ⟨g,cap,cur,hv,hc g (by rw[hv];rfl),h5⟩
def zgJ(s:ByteArray)(w:World)(mb fb:Nat)(v:Value)(wr:World):Prop:=
 ∃i g cap pv ov,i≤s.size∧v=.int .i64 (i:Nat)∧Mc wr mb g cap (zL s i) i∧w.heap.size≤g∧Fd wr fb s pv (LK s i) ov (vG s i 0)∧(∀k,Zf fb pv ov k→w.heap.size≤k∧k≠mb∧k≠g)∧Below w.heap.size w wr∧mb<wr.heap.size
def zgK(s:ByteArray)(w:World)(fb:Nat)(g:Nat)(wr:World):Prop:=
 ∃pv oa z oc,Fd wr fb s pv (Vo s ((nt s s.size).length-g)) (.slice oa z oc) (vG s s.size ((nt s s.size).length-g))∧(∀k,Zf fb pv (.slice oa z oc) k→w.heap.size≤k)∧Below w.heap.size w wr∧g≤(nt s s.size).length
section
variable(w:World)
theorem zcz(s:ByteArray)(hs:s.size≤99000):
  Calls Tryz.prog 131 #[.string s] w λe w'=>(∃v,e=.returned v∧X4 w' w.heap.size v (PL s))∧Below w.heap.size w w':=by
 go_enter Tryz.func131,Tryz.ntmps131
 go_wp2_with fail
 refine(SG w).mono ?_;rintro e w1 ⟨rfl,hM1,hB1⟩;have hs1:=hM1.obj.lt;have hg1:=hM1.row.lt;go_wp2
 go_loopw [5,11] (λ_ v wr=>zgJ s w (w.heap.size+1) w1.heap.size v wr) (λ_ v _=>s.size-(intOf v).toNat)
 case atStart=>
  have hM2:=hM1.zf ((zg.refl (λ_=>False) w1).alloc (.cells #[.string s,.slice none 0 0,.slice none 0 0] 212)) (λh=>h) (λh=>h);refine⟨0,_,_,.slice none 0 0,.slice none 0 0,Nat.zero_le _,rfl,hM2,Nat.le_refl _,⟨zh.new w1 _ _,⟨rfl,.inl ⟨rfl,rfl⟩⟩,⟨rfl,.inl ⟨rfl,rfl⟩⟩,by simp[Value.ownBlock],by simp[Value.ownBlock],by simp[Value.ownBlock]⟩,?_,hB1.alloc hB1.size _,?_⟩
  ·rintro k (rfl|h|h)
   ·exact⟨hB1.size,by omega,by omega⟩
   ·simp[Value.ownBlock]at h
   ·simp[Value.ownBlock]at h
  ·rw[World.size_alloc];omega
 case round=>
  obtain⟨i,g,cap,pv,ov,hi,rfl,hM,hg,hF,hk,hB,hlt⟩:=hrel;clear hM1 hB1;by_cases hlt2:(i:Int)<s.size
  ·have hlt':i<s.size:=by omega
   have hI:=ku s i;have hlen:=V6 s i;have hsucc:=Y7 s i;obtain⟨x,hx⟩:∃x,zL s i=x:=⟨_,rfl⟩;rw[hx]at hM hI hlen hsucc;clear hx;have hby:(s[i].toNat:Int)=(by8 s i:Nat):=by unfold by8;rw[yx hlt']
   have hb8:=QE s i;obtain⟨b,hb⟩:∃b,by8 s i=b:=⟨_,rfl⟩;rw[hb]at hby hb8 hsucc;have HS:=hid hsucc;have HI:=hid hI;clear hsucc hI hb
   go_wp2_with fail
   refine(SH (w.heap.size+1) g cap i _ b x hM HI.out (by omega) hb8 (by omega) _ HS).mono ?_;rintro e w2 ⟨⟨v,rfl⟩,hT⟩;obtain⟨g2,cap2,hM2,hF2,hg2⟩:=hT;have hI2:=ku s (i+1);have hlen2:=V6 s (i+1);have hne2:=hI2.ne
   go_wp2_with fail
   refine(Hu (w.heap.size+1) g2 cap2 (i+1) w2 _ hM2 hne2 (by omega)).mono ?_;rintro e w3 ⟨⟨v3,rfl,hR3⟩,hB3⟩;obtain⟨gl,Zw,rfl,hgl,Vp⟩:=hR3;rw[List.length_reverse];have hst:=jy s (i+1);rw[hst,List.reverse_append]at Vp;have hzl:(zL s (i+1)).st.length=(nt s (i+1)).length+1:=by rw[hst];simp
   have hcl:=Vp.le;simp at hcl;obtain⟨z,hz⟩:∃z,(zL s (i+1)).st.length=z:=⟨_,rfl⟩;rw[hz]at hzl hlen2 ⊢;obtain⟨i1,hi1⟩:∃i1,i1=i+1:=⟨_,rfl⟩;have e1:IntKind.i64.wrap ((i:Int)+1)=(i1:Int):=by rw[IntWalk.i64_in _ (by omega)];omega
   have hF3:zg (V7 (w.heap.size+1) g) wr w3:=hF2.trans (zg.of_below hB3 (p:=λ_=>False)) (λ_ _ h=>h.elim);have IA:=hF.zf hF3 (λk h1 h2=>by
    have:=hk k h1;rcases h2 with h2|h2<;>omega)
   have wF:=hM2.zf (zg.of_below (p:=λ_=>False) hB3) (λh=>h) (λh=>h);have hkl:=hF.lt;have zmA:wr.heap.size≤gl:=by have:=hF2.size;omega
   have PN:Below w.heap.size w w3:=(hB.trans (hF2.below hB.size (by rintro k (h|h)<;>omega))).trans (hB3.mono (Nat.le_trans hB.size hF2.size));have PO:∀ao,(ao=some ⟨gl,2,none⟩∨z=1)→wC w3 ao (z-1) (nt s (i+1)).reverse:=by
    intro ao h;refine⟨by simp;omega,λc x hx=>?_⟩;have hc:c<(nt s (i+1)).length:=by have:=(List.getElem?_eq_some_iff.1 hx).1;simpa using this
    rcases h with rfl|h
    ·have:=Vp.cell (j:=c+1) (x:=x) (by simpa using hx)
     refine⟨gl,2,rfl,Vp.lt,?_,?_⟩
     ·rw[show 2+c*2=(c+1)*2 by omega];exact this.1
     ·rw[show 2+c*2+1=(c+1)*2+1 by omega];exact this.2
    ·omega
   have HFO:=hid PO;have hfo:=hid (λao Xq (h:ao=some ⟨gl,2,none⟩∨z=1) (h2:∀b off,ao=some ⟨b,off,none⟩→b=gl)=>zgx w3 w1.heap.size s pv ov i i1 (hid hi1) ao (z-1) Xq IA hlt' (by omega) (PO ao h) (λb off hb ZF=>by
    have h3:=h2 b off hb;subst h3;have:=hkl b ZF;omega))
   have HZ:=hid hz;have HZL:=hid hzl;have HI1:=hid hi1;have Xw:=hid hcl;have hz0:(1:Int)≤(z:Int):=by omega
   have hz1:(z:Int)≤(Zw:Int):=by omega
   have HK:=hid hk;have MN:=hid hkl;clear hz hzl hi1 PO hst hM hF hF2 hB hM2 hI2 hne2 hB3 Vp IA hF3 hcl hk hkl
   go_wp2_with fail
   all_goals
    refine(hfo.out _ _ (by have:=HZL.out;have:=Xw.out;first|exact .inl rfl|exact .inr (by omega)) (by intro b off hb;cases hb;rfl)).mono ?_;rintro e w4 ⟨⟨v4,rfl⟩,hT⟩;obtain⟨kL,wu,yZ,IB,hk4⟩:=hT;go_wp2
    go_roundw
    case rel=>
     have rE:=wF.zf IB (λh=>(HK.out _ h).2.1 rfl) (λh=>by
      have h1:=HK.out _ h;have h2:=MN.out _ h;omega)
     refine⟨i+1,g2,cap2,kL,wu,by omega,by rw[HI1.out],rE,by omega,yZ,λk h=>?_,PN.trans (IB.below PN.size (λk h=>(HK.out k h).1)),by have:=rE.obj.lt;exact this⟩;have zmB:=wF.row.lt;have zmC:=wF.obj.lt;rcases hk4 k h with h|h
     ·have h1:=HK.out _ h
      have h2:=MN.out _ h;exact⟨h1.1,h1.2.1,by omega⟩
     ·have:=PN.size
      exact⟨by omega,by omega,by omega⟩
    case measure=>have:=HI1.out;simp[intOf];omega
  ·obtain rfl:i=s.size:=by omega
   have HF:=hid hF;have HK:=hid hk;clear hF hk hM;go_wp2
   go_loopg [] (nt s s.size).length (λgg wr=>zgK s w w1.heap.size gg wr)
   case atStart=>
    have h:=HF.out;obtain⟨oa,oc,rfl⟩:=Zt h.opens;refine⟨pv,oa,_,oc,?_,λk h=>(HK.out k h).1,hB,Nat.le_refl _⟩;rw[Nat.sub_self,zgF];exact h
   case round=>
    clear HF HK hB hlt;obtain⟨kL,oa,z,oc,hF2,hk2,hB2,hgj⟩:=hrel;have c2:=hF2.obj.cell 2;have c1:=hF2.obj.cell 1;simp at c1 c2;have Jd:z=(vG s s.size ((nt s s.size).length-gk)).length:=by
     have h1:=hF2.opens;rcases h1.2 with⟨h2,h3⟩|⟨_,_,_,h2,_⟩
     ·cases h2;exact h3.symm
     ·cases h2;rfl
    rw[ry]at Jd;have vX:=hid hk2;clear hk2;by_cases hg0:gk=0
    ·subst hg0
     have hz0:z=0:=by omega
     subst hz0;have hP:=hF2.parts;rw[Nat.sub_zero,zgI (Nat.le_refl _)]at hP;have HP:=hid hP;clear hF2 Jd hP;go_wp2;go_ret;exact⟨⟨_,rfl,Iz HP.out (λk hk=>vX.out k (.inr (.inl hk)))⟩,hB2⟩
    ·cases hD:(nt s s.size).drop ((nt s s.size).length-gk)with
     |nil=>exact absurd hD (by intro h;have:=congrArg List.length h;simp at this;omega)
     |cons a R=>
      obtain⟨m,f⟩:=a;obtain⟨hpr,_,_⟩:=Vj hD;have Ig:=MI s s.size;have Je:=Pz hD;have Vl:(vG s s.size ((nt s s.size).length-gk+1)).length≤1000000:=by rw[ry];omega
      have hg:=zgG hD;have hsu:=zgH hD;rw[Je]at hF2;have hfk:=(rD s s.size f).1;have Xu:=hid (iU wr w1.heap.size s kL (.slice oa z oc) _ _ _ _ s.size true hF2 hg (by omega) (by rw[hfk];exact jv hpr) Vl);rw[hsu]at Xu;have t0:(0:Int)<(z:Int):=by omega
      have HE:=hid (show(nt s s.size).length-gk+1=(nt s s.size).length-(gk-1) by omega);have hgg:gk-1<gk:=by omega
      clear hF2 Jd hD hpr Ig Je Vl hg hsu hfk
      go_wp2_with fail
      refine Xu.out.mono ?_;rintro e w4 ⟨⟨v,rfl⟩,hT⟩;go_wp2
      go_roundg (gk-1)
      case measure=>exact hgg
      case rel=>
       obtain⟨Kq,L9,h1,h2,h3⟩:=hT;rw[HE.out]at h1;obtain⟨Xv,PI,rfl⟩:=Zt h1.opens;refine⟨Kq,Xv,_,PI,h1,λk h=>?_,hB2.trans (h2.below hB2.size (λk h=>vX.out k h)),by omega⟩;rcases h3 k h with h|h
       ·exact vX.out k h
       ·have:=hB2.size;omega
end
end Go.Proofs.YtdjcidackkogjaaGreatDoor

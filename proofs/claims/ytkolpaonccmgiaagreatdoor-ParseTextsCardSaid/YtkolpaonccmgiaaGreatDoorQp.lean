/- What begin of layer 7 (parts) leaves of a finder i -/
import Derived.Test.YtkolpaonccmgiaaGreatDoorPtB
import Derived.Test.YtkolpaonccmgiaaGreatDoorMdB
import Derived.Deep.DeepCutAuto
import Derived.Test.YtkolpaonccmgiaaGreatDoorMdW
namespace Go.Proofs.YtkolpaonccmgiaaGreatDoor
set_option linter.unusedSectionVars false
set_option linter.unusedVariables false
open Go.Proofs.Tryz
open _root_.Go.World renaming size_alloc->waf
open Lib(hid)
set_option maxHeartbeats 8000000
open Go.RowKit
theorem zbV:(prog.info? 136).map (λi=>(i.zero,i.size,i.bytes))=some (some (.agg #[.int .i64 0,.int .i64 0,.int .i64 0,.int .i64 0,.bool false]),5,40):=by kernel_rfl
theorem zbW{ops:Array Oper}{o:Oper}{a:Act}{w:World}{K:Act->World->Prop}{Q:Exit->Act->World->Prop}{E:Prop}(hgd:o.guard=none)(s x:Operand)
 (ho:o.op=.call {callee:=.builtin .append,args:=#[s,x],argTypes:=#[133,133]})
 (v0:Value)(n0:Nat)(yI:List Value)(hs:a.eval s=v0)(hown:w.ownsRow 0 136 5 v0 n0 yI)(b:Nat)(p:zQ)
 (hx:a.eval x=.slice (some ⟨b,0,none⟩) 1 1)(hb:zf w b (jr p).toArray 136)(hl:n0<=1000000)
 (h:∀g' c' w',w'.ownsRow 0 136 5 (.slice (some ⟨g',0,none⟩) (n0+1) c') (n0+1) (yI++jr p)->w.grownBy w' v0.ownBlock->(v0.ownBlock=some g'\/g'=w.heap.size)->K (a.put o.dst (.slice (some ⟨g',0,none⟩) (n0+1) c')) w'):
  if Region.wanted o (yielded ops a.tmps)=true then Oper.wp prog o a w K Q else E:=by
 have hw:Region.wanted o (yielded ops a.tmps)=true:=by simp[Region.wanted,hgd]
 rw[if_pos hw];obtain⟨i,hi,hz,hsize,hby⟩:=info_parts zbV;have hnews:∀j u,(jr p)[j]?=some u->w.cell? ((⟨b,0,none⟩:Addr).add j)=some u:=by
  intro j u hj;rw[Addr.add_lit,hb.cell,Nat.zero_add];simpa using hj
 obtain⟨v',w',hr',h2,h3,h4,h5⟩:=run_append_own_at (P:=prog) w 0 133 o.type 136 i _ 5 40 underlying133 hi hz hsize hby rfl (by omega) _ n0 yI hown ⟨b,0,none⟩ 1 1 (jr p) rfl hnews
  (by intro u hu;simp[jr]at hu;rcases hu with rfl|rfl|rfl|rfl|rfl<;>rfl) (by unfold maxLen;omega) (by omega) (Nat.zero_le _)
 unfold Oper.wp execOp;simp only[ho,resolve,invoke,builtin,Sem.run_bind,Sem.run_pure,Result.andThen_ok,List.map_toArray,List.map_cons,List.map_nil,hs,hx,hr'];rcases h2.2 with⟨hv,hn⟩|⟨g',c',cur,hv,h6⟩
 ·omega
 ·subst hv
  refine h g' c' w' h2 h3 ?_;rcases h5 with h5|h5
  ·exact .inl h5.symm
  ·exact .inr (by simpa[Value.ownBlock]using h5)
theorem Xw{w:World}{base:Nat}{e:TypeId}{size n:Nat}{v:Value}{xs:List Value}(h:w.ownsRow base e size v n xs):∃a c,v=.slice a n c:=by
 rcases h.2 with⟨rfl,rfl⟩|⟨g,cap,cur,rfl,_⟩
 ·exact⟨_,_,rfl⟩
 ·exact⟨_,_,rfl⟩
theorem zbX{W X w':World}{fb n g' c':Nat}{s:ByteArray}{pv ov:Value}{L:List zQ}{O:List Nat}(hF:Fd W fb s pv L ov O)(hX:zg (λ_=>False) W X)(hgr:X.grownBy w' ov.ownBlock)
 (hown:w'.ownsRow 0 3 1 (.slice (some ⟨g',0,none⟩) (O.length+1) c') (O.length+1) (Za O++ [.int .i64 (n:Int)]))(hg:ov.ownBlock=some g'\/W.heap.size<=g'):
  qm W fb s pv ov L (O++ [n]) (w'.setCell ⟨fb,2,none⟩ (.slice (some ⟨g',0,none⟩) (O.length+1) c')):=by
 have hlt:=hF.lt;have F1:zg (λk=>ov.ownBlock=some k) W w':=(hX.mono (λ_ _ h=>absurd h id)).grown hgr (λk hk=> .inl hk);have F2:zg (λk=>k=fb) w' (w'.setCell ⟨fb,2,none⟩ (.slice (some ⟨g',0,none⟩) (O.length+1) c')):=(zg.refl _ _).put _ _;have hgf:g'≠fb:=by
  rintro rfl;rcases hg with h|h
  ·exact hF.no h
  ·have:=hlt g' (.inl rfl);omega
 refine⟨pv,.slice (some ⟨g',0,none⟩) (O.length+1) c',⟨?_,?_,?_,hF.np,λe=>hgf (by simpa[Value.ownBlock]using e),?_⟩,?_,?_⟩
 ·have:=(hF.obj.zh F1 hF.no).set 2 (.slice (some ⟨g',0,none⟩) (O.length+1) c')
  simpa using this
 ·exact xq F2 (xq F1 hF.parts (λk hk=>hF.ne k hk)) (λk hk e=>hF.np (by rw[←e];exact hk))
 ·have e:Za (O++ [n])=Za O++ [.int .i64 (n:Int)]:=by simp[Za]
  rw[e,List.length_append];exact xq F2 hown (λk hk=>by simp[Value.ownBlock]at hk;omega)
 ·intro b hb e
  have e2:g'=b:=by simpa[Value.ownBlock]using e
  subst e2;rcases hg with h|h
  ·exact hF.ne _ hb h
  ·have:=hlt g' (.inr (.inl hb));omega
 ·exact(F1.mono (λk _ h=> .inr (.inr h))).trans (F2.mono (λk _ h=> .inl h)) (λk _ h=>h)
 ·rintro k (h|h|h)
  ·exact .inl (.inl h)
  ·exact .inl (.inr (.inl h))
  ·have e2:g'=k:=by simpa[Value.ownBlock]using h
   subst e2;rcases hg with h|h
   ·exact .inl (.inr (.inr h))
   ·exact .inr h
theorem zbY{W X w':World}{fb g' c':Nat}{s:ByteArray}{pv ov:Value}{L:List zQ}{O:List Nat}{p:zQ}(hF:Fd W fb s pv L ov O)(hX:zg (λ_=>False) W X)(hgr:X.grownBy w' pv.ownBlock)
 (hown:w'.ownsRow 0 136 5 (.slice (some ⟨g',0,none⟩) (L.length+1) c') (L.length+1) (vC L++jr p))(hg:pv.ownBlock=some g'\/W.heap.size<=g'):
  qm W fb s pv ov (L++ [p]) O (w'.setCell ⟨fb,1,none⟩ (.slice (some ⟨g',0,none⟩) (L.length+1) c')):=by
 have hlt:=hF.lt;have F1:zg (λk=>pv.ownBlock=some k) W w':=(hX.mono (λ_ _ h=>absurd h id)).grown hgr (λk hk=> .inl hk);have F2:zg (λk=>k=fb) w' (w'.setCell ⟨fb,1,none⟩ (.slice (some ⟨g',0,none⟩) (L.length+1) c')):=(zg.refl _ _).put _ _;have hgf:g'≠fb:=by
  rintro rfl;rcases hg with h|h
  ·exact hF.np h
  ·have:=hlt g' (.inl rfl);omega
 refine⟨.slice (some ⟨g',0,none⟩) (L.length+1) c',ov,⟨?_,?_,?_,λe=>hgf (by simpa[Value.ownBlock]using e),hF.no,?_⟩,?_,?_⟩
 ·have:=(hF.obj.zh F1 hF.np).set 1 (.slice (some ⟨g',0,none⟩) (L.length+1) c')
  simpa using this
 ·have e:vC (L++ [p])=vC L++jr p:=by rw[FB];simp[vC]
  rw[e,List.length_append];exact xq F2 hown (λk hk=>by simp[Value.ownBlock]at hk;omega)
 ·exact xq F2 (xq F1 hF.opens (λk hk e=>hF.ne k e hk)) (λk hk e=>hF.no (by rw[←e];exact hk))
 ·intro b hb e
  have e2:g'=b:=by simpa[Value.ownBlock]using hb
  subst e2;rcases hg with h|h
  ·exact hF.ne _ h e
  ·have:=hlt g' (.inr (.inr e));omega
 ·exact(F1.mono (λk _ h=> .inr (.inl h))).trans (F2.mono (λk _ h=> .inl h)) (λk _ h=>h)
 ·rintro k (h|h|h)
  ·exact .inl (.inl h)
  ·have e2:g'=k:=by simpa[Value.ownBlock]using h
   subst e2;rcases hg with h|h
   ·exact .inl (.inr (.inl h))
   ·exact .inr h
  ·exact .inl (.inr (.inr h))
section
variable(w:World)
theorem zkG(fb n z:Nat)(s:ByteArray)(pa oa:Option Addr)(pc oc:Nat)(L:List zQ)(O:List Nat)(m k:Nat)(up:Int)(hF:Fd w fb s (.slice pa n pc) L (.slice oa z oc) O)(hn:Hid (n=L.length))(hz:Hid (z=O.length))(hnl:n<=900000)(hzl:z<=900000)
 (hup:(z=0/\up= -1)\/(0<z/\∃ob j,oa=some ⟨ob,0,none⟩/\IntKind.i64.wrap ((z:Int)-1)=((j:Nat):Int)/\j<z/\w.cell? ⟨ob,j,none⟩=some (.int .i64 up))):
  Calls prog 247 #[.pointer (some ⟨fb,0,none⟩),.agg #[.int .i64 (m:Int),.int .i64 (k:Int)]] w λe w'=>(∃v,e=.returned v)/\qm w fb s (.slice pa n pc) (.slice oa z oc) (L++ [⟨m,k,0,up,false⟩]) (O++ [n]) w':=by
 have hlt:=hF.obj.lt;have c1:w.cell? ⟨fb,1,none⟩=some (.slice pa n pc):=hF.obj.cell 1;have c2:w.cell? ⟨fb,2,none⟩=some (.slice oa z oc):=hF.obj.cell 2;have hne:¬w.heap.size=fb:=by omega
 have hne1:¬w.heap.size+1=fb:=by omega
 have HF:=hid hF;have zkH:(z=0/\up= -1)\/(0<z/\∃ob j,oa=some ⟨ob,0,none⟩/\IntKind.i64.wrap ((z:Int)-1)=((j:Nat):Int)/\j<z/\w.cell? ⟨ob,j,none⟩=some (.int .i64 up)/\(0:Int)<(z:Int)/\(j:Int)<(z:Int)/\ob<w.heap.size):=by
  rcases hup with h|⟨h0,ob,j,rfl,e1,hj,h3⟩
  ·exact .inl h
  ·exact .inr ⟨h0,ob,j,rfl,e1,hj,h3,by omega,by omega,by
    have:=hF.lt ob (.inr (.inr rfl));omega⟩
 clear hF hup;go_enter func247,ntmps247;rcases zkH with⟨rfl,rfl⟩|⟨h0,ob,j,rfl,e1,hj,h3,h0',h1',hob⟩
 ·go_wp2
  obtain⟨W,hW⟩:∃W,W=w.alloc (.cells #[.int .i64 (m:Int),.int .i64 (k:Int)] 160):=⟨_,rfl⟩;have Z4:zg (λ_=>False) w W:=by rw[hW];exact(zg.refl _ _).alloc _
  have hWs:W.heap.size=w.heap.size+1:=by rw[hW,waf]
  have hbx:zf W w.heap.size #[.int .i64 (m:Int),.int .i64 (k:Int)] 160:=by rw[hW];exact zf.new _ _ _
  have XZ:=hid (HF.out.still Z4);rw[←hW];have d1:=XZ.out.obj.cell 1;have d2:=XZ.out.obj.cell 2;simp at d1 d2;have dlt:=XZ.out.obj.lt;have hnW:¬W.heap.size=fb:=by omega
  have ni:=hid hWs;obtain⟨bx,rO⟩:∃bx,w.heap.size=bx:=⟨_,rfl⟩;rw[rO]at hbx ni hne hne1 ⊢;have FK:=hid rO;clear hW c1 c2 hWs rO hlt hne1;have hR:∀X,zg (λ_=>False) W X->X.ownsRow 0 3 1 (.slice oa 0 oc) 0 (Za O):=λX hX=>xq hX (by have:=XZ.out.opens;rw[←hz.out]at this;exact this) (λ_ _ h=>h);have hno:=XZ.out.no;have JZ:(Value.slice oa 0 oc).ownBlock≠some bx:=λe=>by
   have:=HF.out.lt bx (.inr (.inr e));have:=FK.out;omega
  go_cut []from 21 to 34 (λwx=>qm W fb s (.slice pa n pc) (.slice oa 0 oc) L (O++ [n]) wx/\zf wx bx #[.int .i64 (m:Int),.int .i64 (k:Int)] 160)
  case first=>
   go_region_law (refine La (by rfl) _ _ (by rfl) (.slice oa 0 oc) 0 (Za O) (by rfl) (hR _ (((zg.refl _ W).alloc _).drew)) W.heap.size 1 1 [.int .i64 (n:Int)] (by rfl) ⟨rfl,.inr ⟨W.heap.size,1,_,rfl,Nat.zero_le _,(zf.new W _ _).drew,Nat.le_refl _,by unfold maxLen;omega,rfl,rfl⟩⟩ (by intro u hu;simp at hu;subst hu;rfl) (by omega) (by omega) (0+1) rfl ?_;intro g' c' w1 hown hgr hg';have o7:=((XZ.out.obj.alloc (.cells #[.int .i64 (n:Int)] 3)).drew).grown hgr (Ne.symm hno);have d7:w1.cell? ⟨fb,2,none⟩=some (.slice oa 0 oc):=o7.cell 2;have df:=o7.frozen 2)
   all_goals
    go_wp2_with fail
    have hg2:(Value.slice oa 0 oc).ownBlock=some g'\/W.heap.size<=g':=by
     refine hg'.imp id λh=>?_;have e:g'=W.heap.size+1:=h.trans (waf _ _);omega
    have hT1:=zbX (n:=n) (g':=g') (c':=c') XZ.out (((zg.refl _ W).alloc (.cells #[.int .i64 (n:Int)] 3)).drew) hgr (by rw[←hz.out];exact hown) hg2;rw[←hz.out]at hT1;go_meet;case rel=>exact⟨hT1,(((hbx.alloc (.cells #[.int .i64 (n:Int)] 3)).drew).grown hgr (Ne.symm JZ)).other (b':=fb) 2 (.slice (some ⟨g',0,none⟩) (0+1) c') hne⟩
  case rest=>
   obtain⟨hT1,hb1⟩:=hcut;clear d1 d2 hR hno JZ hbx;obtain⟨V,hV⟩:∃V,V=wc:=⟨_,rfl⟩;rw[←hV]at hT1 hb1 ⊢;clear hV;obtain⟨YV,DC,hF2,rP,hk2⟩:=hT1;have HF2:=hid hF2;have hP2:=hF2.parts;rw[←hn.out]at hP2;obtain⟨Gy,Gz,rfl⟩:=Xw hP2;have u1:=hF2.obj.cell 1;have elt:=hF2.obj.lt;simp at u1;have b0:V.cell? ⟨bx,0,none⟩=some (.int .i64 (m:Int)):=hb1.cell 0;have b1:V.cell? ⟨bx,1,none⟩=some (.int .i64 (k:Int)):=hb1.cell 1;have vK:=hid hk2;have FM:=hF2.np;have hnV:¬V.heap.size=fb:=by omega
   have hnb:¬V.heap.size=bx:=by have:=hb1.lt;omega
   clear hF2 hk2;have FN:∀X,zg (λ_=>False) V X->X.ownsRow 0 136 5 (.slice Gy n Gz) n (vC L):=λX hX=>xq hX hP2 (λ_ _ h=>h);go_wp2
   go_region_law (refine zbW (by rfl) _ _ (by rfl) (.slice Gy n Gz) n (vC L) (by rfl) (FN _ (((zg.refl _ V).alloc _).drew)) V.heap.size ⟨m,k,0,-1,false⟩ (by rfl) ((zf.new V _ _).drew) (by omega) ?_;intro g2 c2 w2 hown hgr hg';have o7:=((HF2.out.obj.alloc (.cells (jr ⟨m,k,0,-1,false⟩).toArray 136)).drew).grown hgr (Ne.symm FM);have d7:w2.cell? ⟨fb,1,none⟩=some (.slice Gy n Gz):=o7.cell 1;have df:=o7.frozen 1)
   all_goals
    go_wp2;refine bodyPost_end (results_none rfl _ _ _) rfl ?_;refine⟨⟨_,rfl⟩,?_⟩;have hg3:(Value.slice Gy n Gz).ownBlock=some g2\/V.heap.size<=g2:=by
     refine hg'.imp id λh=>?_;have e:g2=V.heap.size+1:=h.trans (waf _ _);omega
    have hT2:=zbY (g':=g2) (c':=c2) (p:=⟨m,k,0,-1,false⟩) HF2.out (((zg.refl _ V).alloc (.cells (jr ⟨m,k,0,-1,false⟩).toArray 136)).drew) hgr (by rw[←hn.out];exact hown) hg3;rw[←hn.out]at hT2;have Jp:=qm.trans rP vK.out hT2;exact qm.trans (Z4.mono (λ_ _ h=>absurd h id)) (λ_ h=> .inl h) Jp
 ·go_wp2
  obtain⟨W,hW⟩:∃W,W=w.alloc (.cells #[.int .i64 (m:Int),.int .i64 (k:Int)] 160):=⟨_,rfl⟩;have Z4:zg (λ_=>False) w W:=by rw[hW];exact(zg.refl _ _).alloc _
  have hWs:W.heap.size=w.heap.size+1:=by rw[hW,waf]
  have hbx:zf W w.heap.size #[.int .i64 (m:Int),.int .i64 (k:Int)] 160:=by rw[hW];exact zf.new _ _ _
  have XZ:=hid (HF.out.still Z4);rw[←hW];have d1:=XZ.out.obj.cell 1;have d2:=XZ.out.obj.cell 2;simp at d1 d2;have dlt:=XZ.out.obj.lt;have hnW:¬W.heap.size=fb:=by omega
  have ni:=hid hWs;obtain⟨bx,rO⟩:∃bx,w.heap.size=bx:=⟨_,rfl⟩;rw[rO]at hbx ni hne hne1 ⊢;have FK:=hid rO;clear hW c1 c2 hWs rO hlt hne1;have hR:∀X,zg (λ_=>False) W X->X.ownsRow 0 3 1 (.slice (some ⟨ob,0,none⟩) z oc) z (Za O):=λX hX=>xq hX (by have:=XZ.out.opens;rw[←hz.out]at this;exact this) (λ_ _ h=>h);have hno:=XZ.out.no;have JZ:(Value.slice (some ⟨ob,0,none⟩) z oc).ownBlock≠some bx:=λe=>by
   have:=HF.out.lt bx (.inr (.inr e));have:=FK.out;omega
  go_cut []from 21 to 34 (λwx=>qm W fb s (.slice pa n pc) (.slice (some ⟨ob,0,none⟩) z oc) L (O++ [n]) wx/\zf wx bx #[.int .i64 (m:Int),.int .i64 (k:Int)] 160)
  case first=>
   go_region_law (refine La (by rfl) _ _ (by rfl) (.slice (some ⟨ob,0,none⟩) z oc) z (Za O) (by rfl) (hR _ (((zg.refl _ W).alloc _).drew)) W.heap.size 1 1 [.int .i64 (n:Int)] (by rfl) ⟨rfl,.inr ⟨W.heap.size,1,_,rfl,Nat.zero_le _,(zf.new W _ _).drew,Nat.le_refl _,by unfold maxLen;omega,rfl,rfl⟩⟩ (by intro u hu;simp at hu;subst hu;rfl) (by omega) (by omega) (z+1) rfl ?_;intro g' c' w1 hown hgr hg';have o7:=((XZ.out.obj.alloc (.cells #[.int .i64 (n:Int)] 3)).drew).grown hgr (Ne.symm hno);have d7:w1.cell? ⟨fb,2,none⟩=some (.slice (some ⟨ob,0,none⟩) z oc):=o7.cell 2;have df:=o7.frozen 2)
   all_goals
    go_wp2_with fail
    have hg2:(Value.slice (some ⟨ob,0,none⟩) z oc).ownBlock=some g'\/W.heap.size<=g':=by
     refine hg'.imp id λh=>?_;have e:g'=W.heap.size+1:=h.trans (waf _ _);omega
    have hT1:=zbX (n:=n) (g':=g') (c':=c') XZ.out (((zg.refl _ W).alloc (.cells #[.int .i64 (n:Int)] 3)).drew) hgr (by rw[←hz.out];exact hown) hg2;rw[←hz.out]at hT1;go_meet;case rel=>exact⟨hT1,(((hbx.alloc (.cells #[.int .i64 (n:Int)] 3)).drew).grown hgr (Ne.symm JZ)).other (b':=fb) 2 (.slice (some ⟨g',0,none⟩) (z+1) c') hne⟩
  case rest=>
   obtain⟨hT1,hb1⟩:=hcut;clear d1 d2 hR hno JZ hbx;obtain⟨V,hV⟩:∃V,V=wc:=⟨_,rfl⟩;rw[←hV]at hT1 hb1 ⊢;clear hV;obtain⟨YV,DC,hF2,rP,hk2⟩:=hT1;have HF2:=hid hF2;have hP2:=hF2.parts;rw[←hn.out]at hP2;obtain⟨Gy,Gz,rfl⟩:=Xw hP2;have u1:=hF2.obj.cell 1;have elt:=hF2.obj.lt;simp at u1;have b0:V.cell? ⟨bx,0,none⟩=some (.int .i64 (m:Int)):=hb1.cell 0;have b1:V.cell? ⟨bx,1,none⟩=some (.int .i64 (k:Int)):=hb1.cell 1;have vK:=hid hk2;have FM:=hF2.np;have hnV:¬V.heap.size=fb:=by omega
   have hnb:¬V.heap.size=bx:=by have:=hb1.lt;omega
   clear hF2 hk2;have FN:∀X,zg (λ_=>False) V X->X.ownsRow 0 136 5 (.slice Gy n Gz) n (vC L):=λX hX=>xq hX hP2 (λ_ _ h=>h);go_wp2
   go_region_law (refine zbW (by rfl) _ _ (by rfl) (.slice Gy n Gz) n (vC L) (by rfl) (FN _ (((zg.refl _ V).alloc _).drew)) V.heap.size ⟨m,k,0,up,false⟩ (by rfl) ((zf.new V _ _).drew) (by omega) ?_;intro g2 c2 w2 hown hgr hg';have o7:=((HF2.out.obj.alloc (.cells (jr ⟨m,k,0,up,false⟩).toArray 136)).drew).grown hgr (Ne.symm FM);have d7:w2.cell? ⟨fb,1,none⟩=some (.slice Gy n Gz):=o7.cell 1;have df:=o7.frozen 1)
   all_goals
    go_wp2;refine bodyPost_end (results_none rfl _ _ _) rfl ?_;refine⟨⟨_,rfl⟩,?_⟩;have hg3:(Value.slice Gy n Gz).ownBlock=some g2\/V.heap.size<=g2:=by
     refine hg'.imp id λh=>?_;have e:g2=V.heap.size+1:=h.trans (waf _ _);omega
    have hT2:=zbY (g':=g2) (c':=c2) (p:=⟨m,k,0,up,false⟩) HF2.out (((zg.refl _ V).alloc (.cells (jr ⟨m,k,0,up,false⟩).toArray 136)).drew) hgr (by rw[←hn.out];exact hown) hg3;rw[←hn.out]at hT2;have Jp:=qm.trans rP vK.out hT2;exact qm.trans (Z4.mono (λ_ _ h=>absurd h id)) (λ_ h=> .inl h) Jp
end
open _root_.List renaming getElem?_eq_some_iff->wak,getElem?_eq_getElem->wal
set_option maxRecDepth 100000
structure DD(w:World)(ao:Option Addr)(len:Nat)(fl:List Fr):Prop where
 len:len=fl.length
 cells:∀i x,fl[i]?=some x->∃b off,ao=some ⟨b,off,none⟩/\b<w.heap.size/\w.cell? ⟨b,off+i*2,none⟩=some (.int .i64 (x.1:Int))/\w.cell? ⟨b,off+i*2+1,none⟩=some (.int .i64 (x.2:Int))
theorem DD.zh{p:Nat->Prop}{w w':World}{ao:Option Addr}{len:Nat}{fl:List Fr}(h:DD w ao len fl)(hf:zg p w w')(hp:∀b off,ao=some ⟨b,off,none⟩->¬p b):DD w' ao len fl:=
 ⟨h.len,λi x hx=>by
  obtain⟨b,off,h1,h2,h3,h4⟩:=h.cells i x hx;exact⟨b,off,h1,Nat.lt_of_lt_of_le h2 hf.size,(hf.cell h2 (hp b off h1)).trans h3,(hf.cell h2 (hp b off h1)).trans h4⟩⟩
section
variable(w:World)
theorem zbZ(fb:Nat)(s:ByteArray)(pv:Value)(oa:Option Addr)(z oc:Nat)(L:List zQ)(O:List Nat)(o:Nat)(p:zQ)(ao:Option Addr)(len Qp:Nat)(fl:List Fr)(hF:Fd w fb s pv L (.slice oa z oc) (O++ [o]))(hp:L[o]?=some p)(hfl:DD w ao len fl)(hlen:len<=1000000)(hO:O.length<=1000000)
 (x:Bool)(hx:Hid (x=rM fl (O.length+1) p.zh)):
  Calls prog 244 #[.pointer (some ⟨fb,0,none⟩),.slice ao len Qp] w λe w'=>e=.returned (.bool x)/\∃q,w'=w.drewN q:=by
 obtain⟨pb,jv,ob,vO,rfl,hov,hc,h3,hfz,hoc,hol,hpc,KD,FD,FH⟩:=hF.last hp;cases hov;have c1:=hF.obj.cell 1;have c2:=hF.obj.cell 2;simp at c1 c2;have hl:=hfl.len;by_cases h:O.length+1<=fl.length
 ·obtain⟨b,off,rfl,_,_,h5⟩:=hfl.cells O.length fl[O.length] (wal (by omega))
  refine zbU w fb pb _ jv ob _ O.length oc o p.zh b off len Qp (hid rfl) hO hol hlen c1 c2 h3 (hc 1 _ rfl) _ x (.inr ⟨by omega,(fl[O.length]).2,rfl,h5,?_⟩);rw[hx.out];unfold rM;rw[Nat.add_sub_cancel,wal (by omega)];simp[h]
 ·refine zbU w fb pb _ jv ob _ O.length oc o p.zh 0 0 len Qp (hid rfl) hO hol hlen c1 c2 h3 (hc 1 _ rfl) ao x (.inl ⟨by omega,?_⟩)
  rw[hx.out];unfold rM;simp[h]
theorem zb0(fb:Nat)(s:ByteArray)(pv ov:Value)(L:List zQ)(O:List Nat)(m k:Nat)(up:Int)(n:Nat)(hF:Fd w fb s pv L ov O)(hn:n=L.length)(hL:L.length<=900000)(hO:O.length<=900000)
 (hup:(O=[]/\up= -1)\/∃O' o,O=O'++ [o]/\up=(o:Nat)):
  Calls prog 247 #[.pointer (some ⟨fb,0,none⟩),.agg #[.int .i64 (m:Int),.int .i64 (k:Int)]] w λe w'=>(∃v,e=.returned v)/\qm w fb s pv ov (L++ [⟨m,k,0,up,false⟩]) (O++ [n]) w':=by
 subst hn;obtain⟨pa,pc,rfl⟩:=Xw hF.parts;obtain⟨oa,oc,rfl⟩:=Xw hF.opens;refine zkG w fb L.length O.length s pa oa pc oc L O m k up hF (hid rfl) (hid rfl) hL hO ?_;rcases hup with⟨rfl,rfl⟩|⟨O',o,rfl,rfl⟩
 ·exact .inl ⟨rfl,rfl⟩
 ·obtain⟨ob,vO,hv,_,_,_,_⟩:=VD hF.opens (by simp)
  cases hv;refine .inr ⟨by simp,ob,O'.length,rfl,?_,by simp,?_⟩
  ·rw[IntWalk.i64_in _ (by omega)]
   simp
  ·have:=hF.opens.cells (g:=ob) rfl O'.length (.int .i64 (o:Int)) (by simp[Za])
   rwa [Addr.add_lit,Nat.zero_add]at this
theorem zkI{w W:World}{fb:Nat}{s:ByteArray}{pb jv n:Nat}{ov:Value}{L:List zQ}{O:List Nat}{o:Nat}{p:zQ}(hF:Fd w fb s (.slice (some ⟨pb,0,none⟩) n jv) L ov O)(hn:n=L.length)(hp:L[o]?=some p)
 (hW:zg (λ_=>False) w W)(m:Nat):
  qm w fb s (.slice (some ⟨pb,0,none⟩) n jv) ov (L.set o {p with mode:=m}) O (W.setCell ⟨pb,o*5,none⟩ (.int .i64 (m:Int))):=by
 subst hn;have hl:o<L.length:=(wak.1 hp).1;have Z4:=hF.still hW;have KD:pb≠fb:=λe=>hF.np (by rw[e];rfl);have h1:=dK Z4.parts (o*5) (.int .i64 (m:Int)) (by rw[Fz];omega);have e1:(vC L).set (o*5) (.int .i64 (m:Int))=vC (L.set o {p with mode:=m}):=by
  have:=oz (c:=0) (v:=.int .i64 (m:Int)) (q:={p with mode:=m}) hp ⟨rfl,by omega⟩;rw[this,Nat.add_zero]
 rw[e1]at h1;have F1:zg (λk=>k=pb) W (W.setCell ⟨pb,o*5,none⟩ (.int .i64 (m:Int))):=(zg.refl _ W).put _ _;refine⟨.slice (some ⟨pb,0,none⟩) L.length jv,ov,⟨Z4.obj.zh F1 (λe=>KD e.symm),?_,?_,hF.np,hF.no,hF.ne⟩,?_,λk hk=> .inl hk⟩
 ·rw[List.length_set]
  exact h1
 ·exact xq F1 Z4.opens (λk hk e=>hF.ne pb rfl (by rw[←e];exact hk))
 ·exact zg.setCell (hW.mono (λ_ _ h=>absurd h id)) _ (.inl (.inr (.inl rfl))) _
end
theorem zkJ{s:ByteArray}{k i j m f:Nat}{T R:List Fr}(hS:jR T ((nt s k).drop j))(hN:nt s (k+1)=T\/∃n,nt s (k+1)=(n,k)::T)(hD:(nt s k).drop i=(m,f)::R)(hi:i<j):rM (nt s (k+1)).reverse (R.length+1) f=false:=by
 unfold rM;rw[decide_eq_false_iff_not];rintro⟨h1,h2⟩;obtain⟨hp,_,_⟩:=KE hD;have hlt:=kQ hp;obtain⟨x,hx,WJ⟩:=Option.map_eq_some_iff.1 h2;have hm:x∈nt s (k+1):=by
  have:=List.mem_of_getElem? hx;simpa using this
 have h3:zN s (k+1) f=true:=Zr.2 ⟨x.1,by rw[←WJ];exact hm⟩;obtain⟨n,hn⟩:=(WL hS hN hlt).1 h3;have hpw:=Xv s k;rw[←List.take_append_drop i (nt s k),hD]at hpw;have zkK:=(List.pairwise_append.1 hpw).2.1;have e:(nt s k).drop j=R.drop (j-(i+1)):=by
  rw[show j=i+((j-(i+1))+1) by omega,←List.drop_drop,hD,List.drop_succ_cons];congr 1;omega
 rw[e]at hn;have:=(List.pairwise_cons.1 zkK).1 _ (List.mem_of_mem_drop hn);simp at this
theorem zkL{s:ByteArray}{k j m f:Nat}{T R:List Fr}(hS:jR T ((nt s k).drop j))(hN:nt s (k+1)=T\/∃n,nt s (k+1)=(n,k)::T)(hD:(nt s k).drop j=(m,f)::R):T=(md s (k+1) f,f)::R/\(nt s (k+1)).reverse[R.length]?=some (md s (k+1) f,f)/\rM (nt s (k+1)).reverse (R.length+1) f=true:=by
 obtain⟨hp,_,_⟩:=KE hD;have hT:∃n,T=(n,f)::R:=by
  rw[hD]at hS;rcases hS with rfl|⟨m1,n1,f1,r1,h1,rfl,_⟩
  ·exact⟨m,rfl⟩
  ·cases h1
   exact⟨n1,rfl⟩
 obtain⟨n,rfl⟩:=hT;have hmd:md s (k+1) f=n:=by
  rcases hN with h|⟨n2,h⟩
  ·exact Xu (A:=[]) h
  ·exact Xu (A:=[(n2,k)]) h
 have hg:(nt s (k+1)).reverse[R.length]?=some (n,f):=by
  rcases hN with h|⟨n2,h⟩<;>rw[h]<;>simp
 rw[hmd];refine⟨rfl,hg,?_⟩;unfold rM;rw[Nat.add_sub_cancel,hg];have hl:R.length<(nt s (k+1)).reverse.length:=(wak.1 hg).1;simp only[Option.map_some,decide_eq_true_iff,and_true];omega
def zkM(s:ByteArray)(fb:Nat)(pv ov:Value)(k j:Nat)(w:World)(g:Nat)(wr:World):Prop:=
 ∃YV oa z oc,Fd wr fb s YV (Vt s k (j-g)) (.slice oa z oc) (uU s k (j-g))/\zg (Xi fb pv ov) w wr/\(∀b,Xi fb YV (.slice oa z oc) b->Xi fb pv ov b\/w.heap.size<=b)/\g<=j
section
variable(w:World)
theorem zkN(fb:Nat)(s:ByteArray)(pv ov:Value)(k k1:Nat)(hk1:Hid (k1=k+1))(ao:Option Addr)(len Qp:Nat)(hF:Fd w fb s pv (LK s k) ov (uU s k 0))(hk:k<s.size)(hs:s.size<=100000)(hfl:DD w ao len (nt s (k+1)).reverse)(hfr:∀b off,ao=some ⟨b,off,none⟩->¬Xi fb pv ov b):
  Calls prog 225 #[.pointer (some ⟨fb,0,none⟩),.slice ao len Qp,.int .i64 (k1:Int)] w λe w'=>(∃v,e=.returned v)/\qm w fb s pv ov (LK s (k+1)) (uU s (k+1) 0) w':=by
 obtain⟨j,T,hj,hS,hN0⟩:=oH s k;have hN:=Tt hN0;have zb3:=oI s k;have hll:len<=100001:=by have h1:=hfl.len;have h2:=oI s (k+1);simp at h1;omega
 have HF:=hid hF;have HS:=hid hS;have HN:=hid hN;have rH:=hid hN0;have HFL:=hid hfl;have QQ:=hid hfr;clear hF hS hN hN0 hfl hfr;go_enter func225,ntmps225;go_wp2
 go_loopg [] j (λg wr=>zkM s fb pv ov k j w g wr)
 case atStart=>
  have h:=HF.out;obtain⟨oa,oc,rfl⟩:=Xw h.opens;refine⟨pv,oa,_,oc,?_,zg.refl _ _,λb hb=> .inl hb,Nat.le_refl _⟩;rw[Nat.sub_self,zkO];exact h
 case round=>
  obtain⟨YV,oa,z,oc,hF2,rP,hk2,hgj⟩:=hrel;have zb4:=HFL.out.zh rP QQ.out;have c2:wr.cell? ⟨fb,2,none⟩=some (.slice oa z oc):=hF2.obj.cell 2;have GG:z=(uU s k (j-gk)).length:=by
   have h1:=hF2.opens;rcases h1.2 with⟨h2,h3⟩|⟨_,_,_,h2,_⟩
   ·cases h2;exact h3.symm
   ·cases h2;rfl
  rw[Tu]at GG;have oJ:=hid rP;have vK:=hid hk2;have KF:=hid zb4;clear rP hk2 zb4;by_cases hg0:gk=0
  ·
   subst hg0;rw[Nat.sub_zero]at hF2 GG
   cases hD:(nt s k).drop j with
   |nil=>
    have hz0:z=0:=by have:=congrArg List.length hD;simp at this;omega
    have hO:uU s k j=[]:=by unfold uU;rw[hD];rfl
    have hL:Vt s k j=(uG s k).map (vN s (k+1)):=zkP HS.out HN.out hD;rw[hO,hL]at hF2;subst hz0;have HD:=hid hD;clear GG hD hO hL;have hT0:T=[]:=by
     have:=(Tv HS.out).1;rw[HD.out]at this;simpa using this
    rcases rH.out with hn|⟨m3,hn,ho,_⟩
    ·
     have hln:len=0:=by have:=KF.out.len;rw[hn,hT0]at this;exact this
     subst hln;have hnb:=zb5 HS.out hn;have wY:=hid hF2;clear hF2;have WM:=hid hn;have VT:=hid hnb;have HT0:=hid hT0;clear hn hnb hT0;go_wp2;refine bodyPost_end (results_none rfl _ _ _) rfl ?_;refine⟨⟨_,rfl⟩,YV,.slice oa 0 oc,?_,oJ.out,vK.out⟩;rw[oK,if_neg (by rw[VT.out];simp),List.append_nil];have e:uU s (k+1) 0=[]:=by unfold uU;rw[WM.out,HT0.out];rfl
     rw[e];exact wY.out
    ·
     have hln:len=1:=by have:=KF.out.len;rw[hn,hT0]at this;exact this
     subst hln;obtain⟨hb,hp,hbl⟩:=zb6 hn ho;obtain⟨b,off,rfl,hblt,q0,q1⟩:=KF.out.cells 0 (m3,k) (by rw[hn,hT0];rfl);simp only[Nat.zero_mul,Nat.add_zero]at q0 q1;have hup:Xk s k= -1:=by unfold Xk;rw[hbl,hT0]
     rw[hup]at hp;have hlen:((uG s k).map (vN s (k+1))).length<=900000:=by have:=oL s k;simp;omega
     have Zl:=hid (λW hW=>zb0 W fb s YV (.slice oa 0 oc) _ [] m3 k (-1) _ (hF2.still hW) rfl hlen (by simp) (.inl ⟨rfl,rfl⟩));have WM:=hid hn;have HT0:=hid hT0;have HB:=hid hb;have HP:=hid hp;clear hF2 hn hT0 hb hp hbl hup hlen
     go_wp2_with fail
     refine(Zl.out _ (zg.refl _ _)).mono ?_;rintro e w3 ⟨⟨v,rfl⟩,hT⟩;go_wp2;refine bodyPost_end (results_none rfl _ _ _) rfl ?_;refine⟨⟨_,rfl⟩,?_⟩;rw[oK,if_pos HB.out,HP.out];have e:uU s (k+1) 0=[]++ [((uG s k).map (vN s (k+1))).length]:=by
      unfold uU;rw[WM.out,HT0.out];simp[idx]
     rw[e];exact qm.trans oJ.out vK.out hT
   |cons a R=>
    obtain⟨m,f⟩:=a;obtain⟨hpr,hmd,hjl⟩:=KE hD;obtain⟨hT,hfg,hst⟩:=zkL HS.out HN.out hD;have hRl:R.length+1=(nt s k).length-j:=by have:=congrArg List.length hD;simp at this;omega
    have GH:=FO hD;have KG:(uU s k (j+1)).length=R.length:=by rw[Tu];omega
    have hg:=zb7 hD;have mJ:=zkQ HS.out HN.out hD;rw[GH]at hF2;obtain⟨b,off,rfl,hblt,q0,q1⟩:=KF.out.cells R.length _ hfg;simp only at q0 q1;have zkR:R.length<len:=by
     have h1:=(wak.1 hfg).1;have:=KF.out.len;omega
    have FP:=hid (λW hW=>zbZ W fb s YV oa z oc _ _ _ _ (some ⟨b,off,none⟩) len Qp _ (hF2.still hW) hg (KF.out.zh hW (λ_ _ _ h=>h)) (by omega) (by omega) true (hid (by rw[KG,(TA s k f).1];exact hst.symm)));obtain⟨pb,jv,ob,vO,rfl,hov,hc,h3,hfz,hoc,hol,hpc,KD,FD,FH⟩:=hF2.last hg;obtain⟨rfl,hz2,rfl⟩:oa=some ⟨ob,0,none⟩/\z=(uU s k (j+1)).length+1/\oc=vO:=by simpa using hov
    clear hov;rw[KG]at h3 hz2;have c1:=hF2.obj.cell 1;simp at c1;obtain⟨n,hn⟩:∃n,(Vt s k j).length=n:=⟨_,rfl⟩;have HLA:=hid (fun(W:World) (hW:zg (λ_=>False) wr W)=>FC W fb pb n jv ob z R.length oc (idx s f) (hid hz2) (by omega) (by rw[←hn];exact(hF2.still hW).obj.cell 1) ((hF2.still hW).obj.cell 2) ((hW.cell (by
     have:=hF2.lt ob (.inr (.inr rfl));exact this) (λh=>h)).trans h3) (by omega))
    have WN:=hid (λW hW=>zkI (W:=W) hF2 rfl hg hW (cnt (md s (k+1) f)));rw[mJ]at WN;have p0:=hc 0 _ rfl;have g0:=hfz (idx s f*5);rw[Nat.add_zero]at p0;have zkS:=KF.out;obtain⟨M,hM⟩:∃M,md s (k+1) f=M:=⟨_,rfl⟩;rw[hM]at q0 WN;obtain⟨o,ho⟩:∃o,idx s f=o:=⟨_,rfl⟩;rw[ho]at HLA WN p0 g0;have FQ:z=R.length+1:=by omega
    have hrl:R.length<=100000:=by omega
    obtain⟨r,hr⟩:∃r,R.length=r:=⟨_,rfl⟩;rw[hr]at q0 q1 zkR FQ hrl;rw[hn]at WN;have e1:IntKind.i64.wrap ((z:Int)-1)=(r:Int):=by rw[IntWalk.i64_in _ (by omega)];omega
    have t0:(0:Int)<(z:Int):=by omega
    have t1:(r:Int)<(len:Int):=by omega
    have t2:(0:Int)<=(r:Int):=by omega
    have VK:=hid (λW=>zkD W M);have hqb:∀W,zg (λ_=>False) wr W->W.cell? ⟨b,off+r*2,none⟩=some (.int .i64 (M:Int)):=λW hW=>(hW.cell hblt (λh=>h)).trans q0;have hob:∀W,zg (λ_=>False) wr W->W.cell? ⟨pb,o*5,none⟩=some (.int .i64 ((vN s k f).mode:Int))/\W.frozen? ⟨pb,o*5,none⟩=false/\W.cell? ⟨fb,2,none⟩=some (.slice (some ⟨ob,0,none⟩) z oc):=by
     intro W hW;have h1:=hF2.still hW;refine⟨(hW.cell (by have:=hF2.lt pb (.inr (.inl rfl));exact this) (λh=>h)).trans p0,nY h1.parts _,?_⟩;have:=h1.obj.cell 2;simp at this;exact this
    have HQB:=hid hqb;have HOB:=hid hob;have HR:=hid hr;have FT:=hid FQ;have HT:=hid hT;have HO:=hid ho;have Zi:=hid hn;have GI:=hid GH;have qg:=hid KG;have HD:=hid hD;have KC:=hid hRl;have oM:∀b',Xi fb (.slice (some ⟨pb,0,none⟩) n jv) (.slice (some ⟨ob,0,none⟩) z oc) b'->Xi fb pv ov b'\/w.heap.size<=b':=λb' h=>vK.out b' h;have wY:=hid oM;clear hF2 zkS GG hz2 hT hn ho hr GH KG hg mJ hpr hmd hjl hfg hst hRl hol hpc hoc hc h3 hfz c1 q0 q1 hM hqb hob hD oM p0 g0 FQ vK
    go_wp2_with fail
    refine(FP.out _ (zg.refl _ _)).mono ?_;rintro e w3 ⟨rfl,q,rfl⟩;obtain⟨V,hV⟩:∃V,V=wr.drewN q:=⟨_,rfl⟩;have WO:zg (λ_=>False) wr V:=by rw[hV];exact(zg.refl _ _).drewN q
    rw[←hV];clear hV c2;obtain⟨v0,vf,v2⟩:=HOB.out V WO;have vq:=HQB.out V WO;go_wp2
    go_cut []from 29 to 39 (λwx=>qm wr fb s (.slice (some ⟨pb,0,none⟩) n jv) (.slice (some ⟨ob,0,none⟩) z oc) ((uG s k).map (vN s (k+1))) (uU s k (j+1)++ [o]) wx)
    case first=>
     go_region_with (first
      |(go_at_call 246;refine(HLA.out _ (by first|exact WO.drew|exact WO)).mono ?_;rintro e w4 ⟨rfl,q4,rfl⟩)
      |(go_at_call 245;refine(VK.out _).mono ?_;rintro e w5 ⟨rfl,rfl⟩))
     all_goals
      go_wp2_with fail
      go_meet;case rel=>exact WN.out _ (WO.drewN _)
    case rest=>
     have dW:=hid (qm.trans oJ.out wY.out hcut);clear hcut v0 vf v2 vq;rcases rH.out with hn|⟨m3,hn,hop,_⟩
     ·
      have hln:len=r+1:=by have:=KF.out.len;rw[hn,HT.out]at this;simp at this;rw[HR.out]at this;exact this
      have t5:¬(z:Int)<(len:Int):=by have:=FT.out;omega
      have WM:=hid hn;have VT:=hid (zb5 HS.out hn);clear hn hln;go_wp2;refine bodyPost_end (results_none rfl _ _ _) rfl ?_;refine⟨⟨_,rfl⟩,?_⟩;rw[oK,if_neg (by rw[VT.out];simp),List.append_nil];have e:uU s (k+1) 0=uU s k (j+1)++ [o]:=by
       rw[←HO.out,←GI.out,←zb8 HS.out];unfold uU;rw[List.drop_zero,WM.out]
      rw[e];exact dW.out
     ·
      have hln:len=r+1+1:=by have:=KF.out.len;rw[hn,HT.out]at this;simp at this;rw[HR.out]at this;exact this
      have t5:(z:Int)<(len:Int):=by have:=FT.out;omega
      obtain⟨hb,hp,hbl⟩:=zb6 hn hop;have hup:Xk s k=(o:Nat):=by unfold Xk;rw[hbl,HT.out];simp[HO.out]
      rw[hup]at hp;obtain⟨rJ,Tq,hF3,FU,hk3⟩:=dW.out;have zb9:=HFL.out.zh FU QQ.out;obtain⟨b',off',hbe,zoL,q0,q1⟩:=zb9.cells z (m3,k) (by rw[FT.out,←HR.out,hn,HT.out];simp);cases hbe;simp only at q0 q1;have hlen:((uG s k).map (vN s (k+1))).length<=900000:=by have:=oL s k;simp;omega
      have zca:(uU s k (j+1)++ [o]).length<=900000:=by
       have h1:=qg.out;have h2:=HR.out;rw[List.length_append,h1,h2];simp;omega
      have Zl:=hid (λW hW=>zb0 W fb s rJ Tq _ _ m3 k (o:Nat) _ (hF3.still hW) rfl hlen zca (.inr ⟨_,_,rfl,rfl⟩));have WM:=hid hn;have HB:=hid hb;have HP:=hid hp;have zkT:=hid FU;have ND:=hid hk3;clear hF3 FU hk3 zb9 hn hb hp hbl hup hlen zca hln
      go_wp2_with fail
      refine(Zl.out _ (zg.refl _ _)).mono ?_;rintro e w3 ⟨⟨v,rfl⟩,hT⟩;go_wp2;refine bodyPost_end (results_none rfl _ _ _) rfl ?_;refine⟨⟨_,rfl⟩,?_⟩;rw[oK,if_pos HB.out,HP.out];have e:uU s (k+1) 0=uU s k (j+1)++ [o]++ [((uG s k).map (vN s (k+1))).length]:=by
       rw[←HO.out,←GI.out,←zb8 HS.out];unfold uU;rw[List.drop_zero,WM.out];simp[idx]
      rw[e];exact qm.trans zkT.out ND.out hT
  ·
   have hlt:j-gk<j:=by omega
   cases hD:(nt s k).drop (j-gk)with
   |nil=>exact absurd hD (by intro h;have:=congrArg List.length h;simp at this;omega)
   |cons a R=>
    obtain⟨m,f⟩:=a;obtain⟨hpr,hmd,hjl⟩:=KE hD;have hst:=zkJ HS.out HN.out hD hlt;have hRl:R.length+1=(nt s k).length-(j-gk):=by have:=congrArg List.length hD;simp at this;omega
    have GH:=FO hD;have KG:(uU s k (j-gk+1)).length=R.length:=by rw[Tu];omega
    have hg:=zb7 hD;have hsu:=zkU hD;rw[GH]at hF2;have hfk:=(TA s k f).1;have FP:=hid (λW hW=>zbZ W fb s YV oa z oc _ _ _ _ ao len Qp _ (hF2.still hW) hg (KF.out.zh hW (λ_ _ _ h=>h)) (by omega) (by omega) false (hid (by rw[KG,hfk];exact hst.symm)));have GK:=hid (λW hW=>jO W fb s YV (.slice oa z oc) _ _ _ _ (k+1) false (hF2.still hW) hg hs (by rw[hfk];have:=kQ hpr;omega) (by omega));rw[hsu,←hk1.out]at GK;have t0:(0:Int)<(z:Int):=by omega
    have HE:=hid (show j-gk+1=j-(gk-1) by omega);have hgg:gk-1<gk:=by omega
    clear hF2 GG hD hpr hmd hjl hst hRl GH KG hg hsu hfk
    go_wp2_with fail
    refine(FP.out _ (zg.refl _ _)).mono ?_;rintro e w3 ⟨rfl,q,rfl⟩;obtain⟨V,hV⟩:∃V,V=wr.drewN q:=⟨_,rfl⟩;have WO:zg (λ_=>False) wr V:=by rw[hV];exact(zg.refl _ _).drewN q
    rw[←hV];clear hV c2
    go_wp2_with fail
    refine(GK.out _ WO).mono ?_;rintro e w4 ⟨⟨v,rfl⟩,hT⟩;go_wp2
    go_roundg (gk-1)
    case measure=>exact hgg
    case rel=>
     obtain⟨rJ,Tq,h1,h2,h3⟩:=qm.trans oJ.out vK.out (qm.trans (WO.mono (λ_ _ h=>absurd h id)) (λ_ h=> .inl h) hT);rw[HE.out]at h1;obtain⟨FV,FW,rfl⟩:=Xw h1.opens;exact⟨rJ,FV,_,FW,h1,h2,h3,by omega⟩
end
theorem zfS{ops:Array Oper}{rest:List Oper}{o:Oper}{a:Act}{w:World}{Q:Exit->Act->World->Prop}(hgd:o.guard=none)(s x:Operand)
 (ho:o.op=.call {callee:=.builtin .append,args:=#[s,x],argTypes:=#[150,150]})
 (base:Nat)(v0:Value)(n0:Nat)(yI:List Value)(hs:a.eval s=v0)(hown:w.ownsRow base 160 2 v0 n0 yI)(b n c:Nat)(news:List Value)
 (hx:a.eval x=.slice (some ⟨b,0,none⟩) n c)(hn:news.length=n*2)(hc:∀j u,news[j]?=some u->w.cell? ((⟨b,0,none⟩:Addr).add j)=some u)(h1:∀u∈news,u.oneCell'=true)(hl:n0+n<=1000000)(hbase:base<=w.heap.size)
 (h:∀v' w',w'.ownsRow base 160 2 v' (n0+n) (yI++news)->w.grownBy w' v0.ownBlock->wpList prog ops Q rest (a.put o.dst v') w'):wpList prog ops Q (o::rest) a w:=by
 refine wpList_plain hgd λ_ hK=>?_;obtain⟨i,hi,hz,hsize,hby⟩:=info_parts UB;obtain⟨v',w',hr',h2,h3,h4,h5⟩:=run_append_own_at (P:=prog) w base 150 o.type 160 i _ 2 16 underlying150 hi hz hsize hby rfl (by omega) v0 n0 yI hown ⟨b,0,none⟩ n c news hn hc
  h1 (by unfold maxLen;omega) (by omega) hbase
 unfold Oper.wp execOp;simp only[ho,resolve,invoke,builtin,Sem.run_bind,Sem.run_pure,Result.andThen_ok,List.map_toArray,List.map_cons,List.map_nil,hs,hx,hr'];exact hK _ _ (h v' w' h2 h3)
def Rs(w:World)(base:Nat)(v:Value)(l:List Fr):Prop:=∃g cap,v=.slice (some ⟨g,0,none⟩) l.length cap/\base<=g/\Fw w g cap l
theorem Rs.below{w w':World}{base:Nat}{v:Value}{l:List Fr}(h:Rs w base v l)(hb:Below w.heap.size w w'):Rs w' base v l:=by
 obtain⟨g,cap,h1,h2,h3⟩:=h;exact⟨g,cap,h1,h2,h3.zh (zg.of_below (p:=λ_=>False) hb) (λh=>h)⟩
theorem Rs.base{w:World}{b c:Nat}{v:Value}{l:List Fr}(h:Rs w b v l)(hc:c<=b):Rs w c v l:=by
 obtain⟨g,cap,h1,h2,h3⟩:=h;exact⟨g,cap,h1,by omega,h3⟩
theorem zfT(g cap:Nat)(l:List Fr)(w:World)(hF:Fw w g cap l)(h0:0<l.length)(hl:l.length<=100000):
  Calls prog 223 #[.slice (some ⟨g,0,none⟩) l.length cap] w λe w'=>(∃v,e=.returned v/\Rs w' w.heap.size v l)/\Below w.heap.size w w':=by
 have hcell:∀X,Below w.heap.size w X->∀j u,(kY l)[j]?=some u->X.cell? ((⟨g,0,none⟩:Addr).add j)=some u:=by
  intro X hX j u hj;have h1:=(hF.zh (zg.of_below (p:=λ_=>False) hX) (λh=>h)).owns;exact h1.cells (g:=g) rfl j u hj
 have heq:=Lib.run_eql_slice_nil (P:=prog) w 150 160 (some ⟨g,0,none⟩) l.length cap 0 0 underlying150;have HF:=Lib.hid hF;clear hF;go_enter func223,ntmps223
 go_wp2_with (at_builtin;refine zfS rfl _ _ rfl w.heap.size (.slice (some ⟨w.heap.size,0,none⟩) 0 0) 0 [] rfl ⟨rfl,.inr ⟨w.heap.size,0,_,rfl,Nat.le_refl _,zf.new w _ _,Nat.le_refl _,by unfold maxLen;omega,rfl,rfl⟩⟩ g l.length cap (kY l) rfl (pJ l) (hcell _ ((Below.refl _ _).alloc (Nat.le_refl _) _)) (zfU l) (by omega) (by simp) ?_;intro v' w1 hown hgr)
 go_ret;rw[Nat.zero_add,List.nil_append]at hown;refine⟨⟨_,rfl,?_⟩,((Below.refl w.heap.size w).alloc (Nat.le_refl _) (.cells #[] 160)).grown hgr (by simp) (λk hk=>by simp[Value.ownBlock]at hk;omega)⟩;obtain⟨g',cap',h1,h2,h3⟩:=Fw.pK hown rfl h0;exact⟨g',cap',h1,h2,h3⟩
section
variable(mb g cap p:Nat)(w:World)
theorem UC(x:Ms)(hM:Mc w mb g cap x p)(h0:0<x.st.length)(hl:x.st.length<=100000):
  Calls prog 194 #[.pointer (some ⟨mb,0,none⟩)] w λe w'=>(∃v,e=.returned v/\Rs w' w.heap.size v x.st.reverse)/\Below w.heap.size w w':=by
 have c0:w.cell? ⟨mb,0,none⟩=some (.slice (some ⟨g,0,none⟩) x.st.length cap):=hM.obj.cell 0;have hcl:=zfT g cap x.st.reverse w hM.row (by simpa using h0) (by simpa using hl);rw[List.length_reverse]at hcl;go_enter func194,ntmps194
 go_wp2_with fail
 refine hcl.mono ?_;rintro e w1 ⟨⟨v,rfl,hR⟩,hB⟩;go_wp2;go_ret;exact⟨⟨v,rfl,hR⟩,hB⟩
theorem BF:
  Calls prog 191 #[] w λe w'=>e=.returned (.pointer (some ⟨w.heap.size+1,0,none⟩))/\Mc w' (w.heap.size+1) w.heap.size 1 Ms.start 0/\Below w.heap.size w w':=by
 go_enter func191,ntmps191;go_wp2;go_ret;refine⟨by first|rfl|simp,⟨?_,by omega,?_⟩,((Below.refl w.heap.size w).alloc (Nat.le_refl _) _).alloc (by simp) _⟩
 ·exact World.size_alloc w _▸zf.new _ _ _
 ·exact⟨_,(zf.new w _ _).alloc _,Nat.le_refl _,by unfold maxLen;omega,rfl,rfl⟩
theorem xW.below{n:Nat}{w0 w w':World}{mb g:Nat}{x:Ms}{p:Nat}(hB:Below n w0 w)(hn:n<=w.heap.size)(hm:n<=mb)(hg:n<=g)(h:xW w mb g x p w'):
  ∃g' cap',Mc w' mb g' cap' x p/\n<=g'/\Below n w0 w':=by
 obtain⟨g',cap',h1,h2,h3⟩:=h;refine⟨g',cap',h1,by omega,hB.trans (h2.below hn ?_)⟩;rintro k (h|h)<;>omega
end
section
variable(mb g cap p:Nat)(w:World)
theorem zfV(x:Ms)(hM:Mc w mb g cap x p):
  Calls prog 195 #[.pointer (some ⟨mb,0,none⟩)] w λe w'=>e=.returned (.bool x.fresh)/\w'=w:=by
 have c0:w.cell? ⟨mb,1,none⟩=some (.bool x.fresh):=hM.obj.cell 1;go_enter func195,ntmps195;go_wp2;go_ret;exact⟨rfl,rfl⟩
def zfW(s:ByteArray)(w:World)(v5 v9:Value)(wr:World):Prop:=
 ∃k g cap,k<=s.size/\v9=.int .i64 (k:Nat)/\Mc wr (w.heap.size+1) g cap (zU s k) k/\w.heap.size<=g/\Below w.heap.size w wr/\w.heap.size+1<wr.heap.size
theorem zfk(s:ByteArray)(hs:s.size<=99000):
  Calls prog 163 #[.string s] w λe w'=>(∃v,e=.returned (.tuple #[v,.bool (zU s s.size).fresh])/\Rs w' w.heap.size v (zU s s.size).st.reverse)/\Below w.heap.size w w':=by
 go_enter func163,ntmps163
 go_wp2_with fail
 refine(BF w).mono ?_;rintro e w1 ⟨rfl,hM1,hB1⟩;go_wp2
 go_loopw [5,9] (λv5 v9 wr=>zfW s w v5 v9 wr) (λ_ v _=>s.size-(intOf v).toNat)
 case atStart=>exact⟨0,_,_,Nat.zero_le _,rfl,hM1,Nat.le_refl _,hB1,hM1.obj.lt⟩
 case round=>
  obtain⟨k,g,cap,hk,rfl,hM,hg,hB,hlt⟩:=hrel;clear hM1 hB1;have hI:=Yz s k;have hlen:=gQ s k;have hne:=hI.ne;have hsucc:=Jv s k;obtain⟨x,hx⟩:∃x,zU s k=x:=⟨_,rfl⟩;rw[hx]at hM hI hlen hne hsucc;have HX:=hid hx;clear hx;by_cases hlt2:(k:Int)<s.size
  ·have hlt':k<s.size:=by omega
   have hby:(s[k].toNat:Int)=(by8 s k:Nat):=by unfold by8;rw[zT hlt']
   have hb8:=WZ s k;obtain⟨b,hb⟩:∃b,by8 s k=b:=⟨_,rfl⟩;rw[hb]at hby hb8 hsucc;have HB:=hid hb;have HS:=hid hsucc;have HI:=hid hI;clear hb hsucc hI
   go_wp2_with fail
   refine(BG (w.heap.size+1) g cap k _ b x hM HI.out (by omega) hb8 (by omega) _ HS).mono ?_;rintro e w2 ⟨⟨v,rfl⟩,hT⟩;obtain⟨g2,cap2,hM2,hg2,hB2⟩:=hT.below hB (by omega) (by omega) hg;go_wp2
   go_roundw
   case rel=>exact⟨k+1,g2,cap2,by omega,by go_num,hM2,hg2,hB2,hM2.obj.lt⟩
   case measure=>simp[intOf];omega
  ·obtain rfl:k=s.size:=by omega
   rw[←HX.out]at hM hI hlen hne;clear hsucc
   go_wp2_with fail
   refine(UC (w.heap.size+1) g cap _ _ _ hM hne (by omega)).mono ?_;rintro e w2 ⟨⟨v,rfl,hR⟩,hB2⟩
   go_wp2_with fail
   refine(zfV (w.heap.size+1) g cap _ _ _ (hM.zh (zg.of_below (p:=λ_=>False) hB2) (λh=>h) (λh=>h))).mono ?_;rintro e w3 ⟨rfl,rfl⟩;go_wp2;go_ret2;exact⟨⟨v,rfl,hR.base (by omega)⟩,hB.trans (hB2.mono (by omega))⟩
end
def je(x:Ms)(b:Nat):Bool:=qo b &&(decide (x.st.length=1)||(decide (x.st.length=2)&& decide (top x.st=12)&& decide (b≠40)))
section
variable(mb g cap p:Nat)(w:World)
theorem zfL(b:Nat)(x:Ms)(hM:Mc w mb g cap x p)(h0:0<x.st.length)(hl:x.st.length<=100000)(bb:Bool)(hbb:Hid (je x b=bb)):
  Calls prog 192 #[.pointer (some ⟨mb,0,none⟩),.int .u8 b] w λe w'=>e=.returned (.bool bb)/\∃q,w'=w.drewN q:=by
 obtain⟨st,fresh⟩:=x
 cases st with
 |nil=>simp at h0
 |cons a r=>
  obtain⟨m,f⟩:=a;obtain⟨z,hz⟩:∃z,z=r.length+1:=⟨_,rfl⟩;have c0:w.cell? ⟨mb,0,none⟩=some (.slice (some ⟨g,0,none⟩) z cap):=by rw[hz];exact hM.obj.cell 0
  simp only[List.length_cons]at hl;obtain⟨eb,heb⟩:∃eb,qo b=eb:=⟨_,rfl⟩;have hst:je ⟨(m,f)::r,fresh⟩ b=(eb &&(decide (z=1)||(decide (z=2)&& decide (m=12)&& decide (b≠40)))):=by
   unfold je;rw[heb,hz];rfl
  rw[hbb.out]at hst;have HB:=hid heb
  cases eb with
  |false=>
   have e:bb=false:=by rw[hst];simp
   clear hst hbb;subst e;clear hz;go_enter func192,ntmps192
   go_wp2_with fail
   refine(gI _ _).mono ?_;rw[heb];rintro e w1 ⟨rfl,rfl⟩;go_wp2;go_ret;exact⟨rfl,0,rfl⟩
  |true=>
   by_cases h2:z=2
   ·have u2:((z:Int)==2)=true:=beq_iff_eq.2 (by omega)
    by_cases h12:m=12
    ·by_cases yZ:b=40
     ·have e:bb=false:=by rw[hst];simp[h2,yZ]
      have v1:((m:Int)==12)=true:=beq_iff_eq.2 (by omega);have v2:((b:Int)==40)=true:=beq_iff_eq.2 (by omega);clear hst hbb;subst e;subst h12 yZ;have hb':qo 40=true:=heb;clear hz h2;go_enter func192,ntmps192
      go_wp2_with fail
      refine(gI _ _).mono ?_;rw[hb'];rintro e w1 ⟨rfl,rfl⟩
      go_wp2_with fail
      refine(pG mb g cap p _ 12 f r fresh hM (by omega)).mono ?_;rintro e w1 ⟨rfl,q,rfl⟩;go_wp2;go_ret;exact⟨rfl,q,rfl⟩
     ·have e:bb=true:=by rw[hst];simp[h2,h12,yZ]
      have v2:((b:Int)==40)=false:=beq_eq_false_iff_ne.2 (by omega);have v3:((b:Int)!=40)=true:=by rw[bne,v2];rfl
      clear hst hbb;subst e;subst h12;clear hz h2 yZ;go_enter func192,ntmps192
      go_wp2_with fail
      refine(gI _ _).mono ?_;rw[heb];rintro e w1 ⟨rfl,rfl⟩
      go_wp2_with fail
      refine(pG mb g cap p _ 12 f r fresh hM (by omega)).mono ?_;rintro e w1 ⟨rfl,q,rfl⟩;go_wp2;go_ret;exact⟨rfl,q,rfl⟩
    ·have e:bb=false:=by rw[hst];simp[h2,h12]
     have v1:((m:Int)==12)=false:=beq_eq_false_iff_ne.2 (by omega);clear hst hbb;subst e;clear hz h2 h12;go_enter func192,ntmps192
     go_wp2_with fail
     refine(gI _ _).mono ?_;rw[heb];rintro e w1 ⟨rfl,rfl⟩
     go_wp2_with fail
     refine(pG mb g cap p _ m f r fresh hM (by omega)).mono ?_;rintro e w1 ⟨rfl,q,rfl⟩;go_wp2;go_ret;exact⟨rfl,q,rfl⟩
   ·have u2:((z:Int)==2)=false:=beq_eq_false_iff_ne.2 (by omega)
    have u1:((z:Int)==1)=bb:=by
     rw[hst,Bool.eq_iff_iff,beq_iff_eq];simp[h2];omega
    clear hst hbb hz h2;go_enter func192,ntmps192
    go_wp2_with fail
    refine(gI _ _).mono ?_;rw[heb];rintro e w1 ⟨rfl,rfl⟩;go_wp2;go_ret;exact⟨rfl,0,rfl⟩
end
def jJ(s:ByteArray)(a p k:Nat):Ms:=Jd Ms.start (λi=>by8 s (a+i)) p k
def JD(s:ByteArray)(a p n:Nat):Prop:=a<=n/\n<=s.size/\(∀i,a<=i->i<n->je (jJ s a p (i-a)) (by8 s i)=false)/\(n<s.size->je (jJ s a p (n-a)) (by8 s n)=true)
theorem Us(s:ByteArray)(a p k:Nat):jJ s a p (k+1)=y7 (jJ s a p k) (by8 s (a+k)) (p+k):=rfl
theorem Ut(s:ByteArray)(a p k:Nat):Inv (jJ s a p k):=BC Inv.start _ _ k
theorem Uu(s:ByteArray)(a p k:Nat):(jJ s a p k).st.length<=k+1:=by
 have:=BD Ms.start (λi=>by8 s (a+i)) p k;have e:Ms.start.st.length=1:=rfl;unfold jJ;omega
theorem zfM(w:World)(s:ByteArray)(a:Nat)(ha:a<=s.size)(hs:s.size<=80000):
  Calls prog 162 #[.string s,.int .i64 (a:Int)] w λe w'=>(∃n:Nat,e=.returned (.int .i64 (n:Int))/\JD s a 0 n)/\Below w.heap.size w w':=by
 have t1:decide ((a:Int)<0)=false:=decide_eq_false_iff_not.2 (by omega);have t2:decide ((s.size:Int)<(a:Int))=false:=decide_eq_false_iff_not.2 (by omega);have t3:decide (s.size<a)=false:=decide_eq_false_iff_not.2 (by omega);go_enter func162,ntmps162
 go_wp2_with fail
 refine(BF w).mono ?_;rintro e w1 ⟨rfl,hM1,hB1⟩;clear t1 t2 t3;go_wp2
 go_loopw [1,4] (λv1 v4 wr=>∃k g cap,a+k<=s.size/\v1=.int .i64 ((a+k:Nat):Int)/\Mc wr (w.heap.size+1) g cap (jJ s a 0 k) k/\w.heap.size<=g/\Below w.heap.size w wr/\Hid (∀i,a<=i->i<a+k->je (jJ s a 0 (i-a)) (by8 s i)=false)) (λv _ _=>s.size-(intOf v).toNat)
 case atStart=>exact⟨0,_,_,by omega,rfl,hM1,Nat.le_refl _,hB1,hid λi h1 h2=>by omega⟩
 case round=>
  obtain⟨k,g,cap,hk,rfl,hM,hg,hB,Zu⟩:=hrel;clear hM1 hB1;have hI:=Ut s a 0 k;have hlen:=Uu s a 0 k;have hne:=hI.ne;have hsucc:=Us s a 0 k;rw[Nat.zero_add]at hsucc;obtain⟨x,hx⟩:∃x,jJ s a 0 k=x:=⟨_,rfl⟩;rw[hx]at hM hI hlen hne hsucc;have HX:=hid hx;clear hx;obtain⟨j,hj⟩:∃j,a+k=j:=⟨_,rfl⟩;have hkj:k<=j:=by omega
  rw[hj]at hk hsucc ⊢;by_cases hlt:j<s.size
  ·have hlt2:(j:Int)<s.size:=by omega
   have hq0:(0:Int)<=(j:Int):=by omega
   have hby:(s[j].toNat:Int)=(by8 s j:Nat):=by unfold by8;rw[zT hlt]
   have hb8:=WZ s j;obtain⟨b,hb⟩:∃b,by8 s j=b:=⟨_,rfl⟩;rw[hb]at hby hb8 hsucc;have HB:=hid hb;have HS:=hid hsucc;have HI:=hid hI;have HJ:=hid hj;clear hb hsucc hI hj;obtain⟨bb,hbb⟩:∃bb,je x b=bb:=⟨_,rfl⟩;have Va:=hid hbb;clear hbb;have di:=zfL (w.heap.size+1) g cap k wr b x hM hne (by omega) bb Va
   cases bb with
   |true=>
    go_wp2_with fail
    refine di.mono ?_;rintro e w2 ⟨rfl,q,rfl⟩;go_wp2;go_ret;refine⟨⟨j,rfl,by have:=HJ.out;omega,by omega,λi h1 h2=>Zu.out i h1 (by have:=HJ.out;omega),λ_=>?_⟩,⟨hB.os,hB.tape,hB.output,hB.size,hB.block⟩⟩;rw[HB.out,show j-a=k by have:=HJ.out;omega,HX.out];exact Va.out
   |false=>
    go_wp2_with fail
    refine di.mono ?_;rintro e w2 ⟨rfl,q,rfl⟩
    go_wp2_with fail
    refine(BG (w.heap.size+1) g cap k _ b x (hM.wG q) HI.out (by omega) hb8 (by omega) _ HS).mono ?_;rintro e w3 ⟨⟨v,rfl⟩,hT⟩;have Uw:Below w.heap.size w (wr.drewN q):=⟨hB.os,hB.tape,hB.output,hB.size,hB.block⟩;obtain⟨g2,cap2,hM2,hg2,hB2⟩:=hT.below Uw Uw.size (by omega) hg;go_wp2
    go_roundw
    case rel=>
     refine⟨k+1,g2,cap2,by have:=HJ.out;omega,?_,hM2,hg2,hB2,hid λi h1 h2=>?_⟩
     ·have:=HJ.out
      rw[show a+(k+1)=j+1 by omega]
      go_num
     ·by_cases h3:i=j
      ·rw[h3,HB.out,show j-a=k by have:=HJ.out;omega,HX.out]
       exact Va.out
      ·exact Zu.out i h1 (by have:=HJ.out;omega)
    case measure=>simp[intOf];omega
  ·obtain rfl:j=s.size:=by omega
   have HJ:=hid hj;clear hsucc hj;go_wp2;go_ret;exact⟨⟨s.size,rfl,by have:=HJ.out;omega,Nat.le_refl _,λi h1 h2=>Zu.out i h1 (by have:=HJ.out;omega),λh=>by omega⟩,hB⟩
def Ge(s:ByteArray)(i:Nat)(x:Nat):zQ:=if((nt s s.size).take i).any (λy=>y.2==x)=true then Xj s s.size true (vN s s.size x)else vN s s.size x
def KH(s:ByteArray)(i:Nat):List zQ:=(uG s s.size).map (Ge s i)
theorem zkV(s:ByteArray):KH s 0=LK s s.size:=by
 unfold KH LK;congr 1
theorem zkW{s:ByteArray}{i m f:Nat}{R:List Fr}(h:(nt s s.size).drop i=(m,f)::R):(KH s i)[idx s f]?=some (vN s s.size f):=by
 obtain⟨hp,_,_⟩:=KE h;unfold KH;rw[List.getElem?_map,G9 s f (DF hp) (kQ hp),Option.map_some];unfold Ge;rw[if_neg (by rw[zcb h];simp)]
theorem zkX{s:ByteArray}{i m f:Nat}{R:List Fr}(h:(nt s s.size).drop i=(m,f)::R):(KH s i).set (idx s f) (Xj s s.size true (vN s s.size f))=KH s (i+1):=by
 obtain⟨hp,_,hi⟩:=KE h;unfold KH;rw[FX (DF hp) (kQ hp)];apply List.map_congr_left;intro x _;have e:(nt s s.size).take (i+1)=(nt s s.size).take i++ [(m,f)]:=by
  rw[List.take_add_one];have:(nt s s.size)[i]?=some (m,f):=by
   have h2:=congrArg (λl=>l[0]?) h;simpa using h2
  rw[this];rfl
 unfold Ge;rw[e,List.any_append];by_cases g:x=f
 ·subst g
  simp
 ·rw[if_neg g]
  have:([(m,f)].any λy=>y.2==x)=false:=by simp;omega
  rw[this,Bool.or_false]
theorem zkY{s:ByteArray}{i:Nat}(h:(nt s s.size).length<=i):KH s i=PL s:=by
 unfold KH PL;apply List.map_congr_left;intro x hx;obtain⟨hlt,_⟩:=oN.1 hx;unfold Ge prt;rw[List.take_of_length_le h];by_cases g:zN s s.size x=true
 ·have g2:(nt s s.size).any (λy=>y.2==x)=true:=g
  rw[if_pos g2,if_pos (zcc g)]
 ·have g2:¬(nt s s.size).any (λy=>y.2==x)=true:=g
  have:=FY hlt (by simpa using g);rw[if_neg g2,if_neg (by omega)]
def QL(w:World)(base:Nat)(v:Value)(L:List zQ):Prop:=w.ownsRow base 136 5 v L.length (vC L)
theorem Df{w:World}{b c:Nat}{e:TypeId}{size n:Nat}{v:Value}{xs:List Value}(h:w.ownsRow b e size v n xs)(hc:∀k,v.ownBlock=some k->c<=k):w.ownsRow c e size v n xs:=by
 refine⟨h.1,?_⟩;rcases h.2 with h0|⟨g,cap,cur,hv,hb,h5⟩
 ·exact .inl h0
 ·exact .inr ⟨g,cap,cur,hv,hc g (by rw[hv];rfl),h5⟩
def zkZ(s:ByteArray)(w:World)(mb fb:Nat)(v:Value)(wr:World):Prop:=
 ∃i g cap pv ov,i<=s.size/\v=.int .i64 (i:Nat)/\Mc wr mb g cap (zU s i) i/\w.heap.size<=g/\Fd wr fb s pv (LK s i) ov (uU s i 0)/\(∀k,Xi fb pv ov k->w.heap.size<=k/\k≠mb/\k≠g)/\Below w.heap.size w wr/\mb<wr.heap.size
def zk0(s:ByteArray)(w:World)(fb:Nat)(g:Nat)(wr:World):Prop:=
 ∃pv oa z oc,Fd wr fb s pv (KH s ((nt s s.size).length-g)) (.slice oa z oc) (uU s s.size ((nt s s.size).length-g))/\(∀k,Xi fb pv (.slice oa z oc) k->w.heap.size<=k)/\Below w.heap.size w wr/\g<=(nt s s.size).length
section
variable(w:World)
theorem zes(s:ByteArray)(hs:s.size<=99000):
  Calls Tryz.prog 198 #[.string s] w λe w'=>(∃v,e=.returned v/\QL w' w.heap.size v (PL s))/\Below w.heap.size w w':=by
 go_enter Tryz.func198,Tryz.ntmps198
 go_wp2_with fail
 refine(BF w).mono ?_;rintro e w1 ⟨rfl,hM1,hB1⟩;have hs1:=hM1.obj.lt;have hg1:=hM1.row.lt;go_wp2
 go_loopw [5,11] (λ_ v wr=>zkZ s w (w.heap.size+1) w1.heap.size v wr) (λ_ v _=>s.size-(intOf v).toNat)
 case atStart=>
  have hM2:=hM1.zh ((zg.refl (λ_=>False) w1).alloc (.cells #[.string s,.slice none 0 0,.slice none 0 0] 204)) (λh=>h) (λh=>h);refine⟨0,_,_,.slice none 0 0,.slice none 0 0,Nat.zero_le _,rfl,hM2,Nat.le_refl _,⟨zf.new w1 _ _,⟨rfl,.inl ⟨rfl,rfl⟩⟩,⟨rfl,.inl ⟨rfl,rfl⟩⟩,by simp[Value.ownBlock],by simp[Value.ownBlock],by simp[Value.ownBlock]⟩,?_,hB1.alloc hB1.size _,?_⟩
  ·rintro k (rfl|h|h)
   ·exact⟨hB1.size,by omega,by omega⟩
   ·simp[Value.ownBlock]at h
   ·simp[Value.ownBlock]at h
  ·rw[World.size_alloc];omega
 case round=>
  obtain⟨i,g,cap,pv,ov,hi,rfl,hM,hg,hF,hk,hB,hlt⟩:=hrel;clear hM1 hB1;by_cases hlt2:(i:Int)<s.size
  ·have hlt':i<s.size:=by omega
   have hI:=Yz s i;have hlen:=gQ s i;have hsucc:=Jv s i;obtain⟨x,hx⟩:∃x,zU s i=x:=⟨_,rfl⟩;rw[hx]at hM hI hlen hsucc;clear hx;have hby:(s[i].toNat:Int)=(by8 s i:Nat):=by unfold by8;rw[zT hlt']
   have hb8:=WZ s i;obtain⟨b,hb⟩:∃b,by8 s i=b:=⟨_,rfl⟩;rw[hb]at hby hb8 hsucc;have HS:=hid hsucc;have HI:=hid hI;clear hsucc hI hb
   go_wp2_with fail
   refine(BG (w.heap.size+1) g cap i _ b x hM HI.out (by omega) hb8 (by omega) _ HS).mono ?_;rintro e w2 ⟨⟨v,rfl⟩,hT⟩;obtain⟨g2,cap2,hM2,hF2,hg2⟩:=hT;have hI2:=Yz s (i+1);have hlen2:=gQ s (i+1);have hne2:=hI2.ne
   go_wp2_with fail
   refine(UC (w.heap.size+1) g2 cap2 (i+1) w2 _ hM2 hne2 (by omega)).mono ?_;rintro e w3 ⟨⟨v3,rfl,hR3⟩,hB3⟩;obtain⟨gl,XA,rfl,hgl,TB⟩:=hR3;rw[List.length_reverse];have hst:=kU s (i+1);rw[hst,List.reverse_append]at TB;have hzl:(zU s (i+1)).st.length=(nt s (i+1)).length+1:=by rw[hst];simp
   have hcl:=TB.le;simp at hcl;obtain⟨z,hz⟩:∃z,(zU s (i+1)).st.length=z:=⟨_,rfl⟩;rw[hz]at hzl hlen2 ⊢;obtain⟨i1,hi1⟩:∃i1,i1=i+1:=⟨_,rfl⟩;have e1:IntKind.i64.wrap ((i:Int)+1)=(i1:Int):=by rw[IntWalk.i64_in _ (by omega)];omega
   have hF3:zg (gU (w.heap.size+1) g) wr w3:=hF2.trans (zg.of_below hB3 (p:=λ_=>False)) (λ_ _ h=>h.elim);have zcd:=hF.zh hF3 (λk h1 h2=>by
    have:=hk k h1;rcases h2 with h2|h2<;>omega)
   have zx:=hM2.zh (zg.of_below (p:=λ_=>False) hB3) (λh=>h) (λh=>h);have hkl:=hF.lt;have zoM:wr.heap.size<=gl:=by have:=hF2.size;omega
   have FZ:Below w.heap.size w w3:=(hB.trans (hF2.below hB.size (by rintro k (h|h)<;>omega))).trans (hB3.mono (Nat.le_trans hB.size hF2.size));have F5:∀ao,(ao=some ⟨gl,2,none⟩\/z=1)->DD w3 ao (z-1) (nt s (i+1)).reverse:=by
    intro ao h;refine⟨by simp;omega,λc x hx=>?_⟩;have hc:c<(nt s (i+1)).length:=by have:=(List.getElem?_eq_some_iff.1 hx).1;simpa using this
    rcases h with rfl|h
    ·have:=TB.cell (j:=c+1) (x:=x) (by simpa using hx)
     refine⟨gl,2,rfl,TB.lt,?_,?_⟩
     ·rw[show 2+c*2=(c+1)*2 by omega];exact this.1
     ·rw[show 2+c*2+1=(c+1)*2+1 by omega];exact this.2
    ·omega
   have HFO:=hid F5;have hfo:=hid (λao Qp (h:ao=some ⟨gl,2,none⟩\/z=1) (h2:∀b off,ao=some ⟨b,off,none⟩->b=gl)=>zkN w3 w1.heap.size s pv ov i i1 (hid hi1) ao (z-1) Qp zcd hlt' (by omega) (F5 ao h) (λb off hb oM=>by
    have h3:=h2 b off hb;subst h3;have:=hkl b oM;omega))
   have HZ:=hid hz;have HZL:=hid hzl;have HI1:=hid hi1;have XK:=hid hcl;have hz0:(1:Int)<=(z:Int):=by omega
   have hz1:(z:Int)<=(XA:Int):=by omega
   have HK:=hid hk;have HKL:=hid hkl;clear hz hzl hi1 F5 hst hM hF hF2 hB hM2 hI2 hne2 hB3 TB zcd hF3 hcl hk hkl
   go_wp2_with fail
   all_goals
    refine(hfo.out _ _ (by have:=HZL.out;have:=XK.out;first|exact .inl rfl|exact .inr (by omega)) (by intro b off hb;cases hb;rfl)).mono ?_;rintro e w4 ⟨⟨v4,rfl⟩,hT⟩;obtain⟨YV,DC,jh,zce,hk4⟩:=hT;go_wp2
    go_roundw
    case rel=>
     have zH:=zx.zh zce (λh=>(HK.out _ h).2.1 rfl) (λh=>by
      have h1:=HK.out _ h;have h2:=HKL.out _ h;omega)
     refine⟨i+1,g2,cap2,YV,DC,by omega,by rw[HI1.out],zH,by omega,jh,λk h=>?_,FZ.trans (zce.below FZ.size (λk h=>(HK.out k h).1)),by have:=zH.obj.lt;exact this⟩;have zoN:=zx.row.lt;have zoO:=zx.obj.lt;rcases hk4 k h with h|h
     ·have h1:=HK.out _ h
      have h2:=HKL.out _ h;exact⟨h1.1,h1.2.1,by omega⟩
     ·have:=FZ.size
      exact⟨by omega,by omega,by omega⟩
    case measure=>have:=HI1.out;simp[intOf];omega
  ·obtain rfl:i=s.size:=by omega
   have HF:=hid hF;have HK:=hid hk;clear hF hk hM;go_wp2
   go_loopg [] (nt s s.size).length (λgg wr=>zk0 s w w1.heap.size gg wr)
   case atStart=>
    have h:=HF.out;obtain⟨oa,oc,rfl⟩:=Xw h.opens;refine⟨pv,oa,_,oc,?_,λk h=>(HK.out k h).1,hB,Nat.le_refl _⟩;rw[Nat.sub_self,zkV];exact h
   case round=>
    clear HF HK hB hlt;obtain⟨YV,oa,z,oc,hF2,hk2,hB2,hgj⟩:=hrel;have c2:=hF2.obj.cell 2;have c1:=hF2.obj.cell 1;simp at c1 c2;have GG:z=(uU s s.size ((nt s s.size).length-gk)).length:=by
     have h1:=hF2.opens;rcases h1.2 with⟨h2,h3⟩|⟨_,_,_,h2,_⟩
     ·cases h2;exact h3.symm
     ·cases h2;rfl
    rw[Tu]at GG;have vK:=hid hk2;clear hk2;by_cases hg0:gk=0
    ·subst hg0
     have hz0:z=0:=by omega
     subst hz0;have hP:=hF2.parts;rw[Nat.sub_zero,zkY (Nat.le_refl _)]at hP;have HP:=hid hP;clear hF2 GG hP;go_wp2;go_ret;exact⟨⟨_,rfl,Df HP.out (λk hk=>vK.out k (.inr (.inl hk)))⟩,hB2⟩
    ·cases hD:(nt s s.size).drop ((nt s s.size).length-gk)with
     |nil=>exact absurd hD (by intro h;have:=congrArg List.length h;simp at this;omega)
     |cons a R=>
      obtain⟨m,f⟩:=a;obtain⟨hpr,_,_⟩:=KE hD;have zb3:=oI s s.size;have GH:=FO hD;have KG:(uU s s.size ((nt s s.size).length-gk+1)).length<=1000000:=by rw[Tu];omega
      have hg:=zkW hD;have hsu:=zkX hD;rw[GH]at hF2;have hfk:=(TA s s.size f).1;have GK:=hid (jO wr w1.heap.size s YV (.slice oa z oc) _ _ _ _ s.size true hF2 hg (by omega) (by rw[hfk];exact kQ hpr) KG);rw[hsu]at GK;have t0:(0:Int)<(z:Int):=by omega
      have HE:=hid (show(nt s s.size).length-gk+1=(nt s s.size).length-(gk-1) by omega);have hgg:gk-1<gk:=by omega
      clear hF2 GG hD hpr zb3 GH KG hg hsu hfk
      go_wp2_with fail
      refine GK.out.mono ?_;rintro e w4 ⟨⟨v,rfl⟩,hT⟩;go_wp2
      go_roundg (gk-1)
      case measure=>exact hgg
      case rel=>
       obtain⟨rJ,Tq,h1,h2,h3⟩:=hT;rw[HE.out]at h1;obtain⟨FV,FW,rfl⟩:=Xw h1.opens;refine⟨rJ,FV,_,FW,h1,λk h=>?_,hB2.trans (h2.below hB2.size (λk h=>vK.out k h)),by omega⟩;rcases h3 k h with h|h
       ·exact vK.out k h
       ·have:=hB2.size;omega
end
end Go.Proofs.YtkolpaonccmgiaaGreatDoor

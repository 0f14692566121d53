/- The finder of layer 7 (parts) in memory: its block -/
import Derived.Test.YtkolpaonccmgiaaGreatDoorQt
import Derived.Test.YtkolpaonccmgiaaGreatDoorQs
namespace Go.Proofs.YtkolpaonccmgiaaGreatDoor
set_option linter.unusedSectionVars false
set_option linter.unusedVariables false
open Go.Proofs.Tryz
open _root_.Nat renaming zero_add->wac
open _root_.List renaming getElem?_eq_some_iff->wak,length_cons->wan
open _root_.Go.IntWalk renaming i64_in->waq
open Lib(hid)
set_option maxHeartbeats 8000000
open Go.RowKit
def jr(p:zQ):List Value:=[.int .i64 (p.mode:Int),.int .i64 (p.zh:Int),.int .i64 (p.to:Int),.int .i64 p.up,.bool p.op]
def vC(l:List zQ):List Value:=l.flatMap jr
def Za(l:List Nat):List Value:=l.map λx:Nat=> .int .i64 (x:Int)
theorem zbS(a:zQ)(l:List zQ):vC (a::l)=.int .i64 (a.mode:Int)::.int .i64 (a.zh:Int)::.int .i64 (a.to:Int)::.int .i64 a.up::.bool a.op::vC l:=by
 unfold vC;rw[List.flatMap_cons];rfl
theorem Fz(l:List zQ):(vC l).length=l.length*5:=by
 induction l with
 |nil=>rfl
 |cons a l ih=>rw[zbS];simp only[wan,ih];omega
theorem FB(l k:List zQ):vC (l++k)=vC l++vC k:=by unfold vC;rw[List.flatMap_append]
theorem ou:∀{l:List zQ} {j:Nat} {p:zQ},l[j]?=some p->∀c v,(jr p)[c]?=some v->(vC l)[j*5+c]?=some v
 | [],j,p,h,c,v,hv=>by simp at h
 |a::l,0,p,h,c,v,hv=>by
  simp at h;subst h;have hc:c<(jr a).length:=(wak.1 hv).1;show(vC (a::l))[0*5+c]?=_;rw[Nat.zero_mul,wac];unfold vC;rw[List.flatMap_cons,List.getElem?_append_left hc];exact hv
 |a::l,j+1,p,h,c,v,hv=>by
  have h':l[j]?=some p:=by simpa using h
  have ih:=ou h' c v hv;rw[zbS,show(j+1)*5+c=j*5+c+1+1+1+1+1 by omega];simpa using ih
def zkA(p:zQ)(c:Nat)(v:Value)(q:zQ):Prop:=jr q=(jr p).set c v/\c<5
theorem oz:∀{l:List zQ} {j c:Nat} {p q:zQ} {v:Value},l[j]?=some p->zkA p c v q->vC (l.set j q)=(vC l).set (j*5+c) v
 | [],j,c,p,q,v,h,_=>by simp at h
 |a::l,0,c,p,q,v,h,hs=>by
  simp at h;subst h;have hc:c<(jr a).length:=hs.2;rw[List.set_cons_zero,Nat.zero_mul,wac];unfold vC;rw[List.flatMap_cons,List.flatMap_cons,hs.1,List.set_append_left _ _ hc]
 |a::l,j+1,c,p,q,v,h,hs=>by
  have h':l[j]?=some p:=by simpa using h
  have ih:=oz h' hs;rw[List.set_cons_succ];show jr a++vC (l.set j q)=(jr a++vC l).set _ _;rw[ih,show(j+1)*5+c=(jr a).length+(j*5+c) by simp[jr];omega,List.set_append_right _ _ (Nat.le_add_right _ _)];congr 2;omega
theorem dK{w:World}{base:Nat}{e:TypeId}{size n g cap:Nat}{xs:List Value}(h:w.ownsRow base e size (.slice (some ⟨g,0,none⟩) n cap) n xs)(i:Nat)(u:Value)(hi:i<xs.length):
  (w.setCell ⟨g,i,none⟩ u).ownsRow base e size (.slice (some ⟨g,0,none⟩) n cap) n (xs.set i u):=by
 refine⟨by rw[List.length_set];exact h.1,.inr ?_⟩;rcases h.2 with⟨h0,_⟩|⟨g',cap',cur,hv,h2,h3,h4,h5,h6,h7⟩
 ·cases h0
 ·cases hv
  refine⟨g,cap,_,rfl,h2,zf.set (t:=e) h3 i u,h4,h5,by simpa using h6,?_⟩;rw[Array.toList_setIfInBounds,List.take_set,h7]
theorem VD{w:World}{base:Nat}{e:TypeId}{size n:Nat}{v:Value}{xs:List Value}(h:w.ownsRow base e size v n xs)(hn:0<n):∃g cap,v=.slice (some ⟨g,0,none⟩) n cap/\base<=g/\n<=cap/\cap<=maxLen/\g<w.heap.size:=by
 rcases h.2 with⟨_,h1⟩|⟨g,cap,cur,hv,h2,h3,h4,h5,_⟩
 ·omega
 ·exact⟨g,cap,hv,h2,h4,h5,(Array.getElem?_eq_some_iff.1 h3).1⟩
theorem zbT{w:World}{base:Nat}{e:TypeId}{n m g cap:Nat}{xs ys:List Value}(h:w.ownsRow base e 1 (.slice (some ⟨g,0,none⟩) n cap) n xs)(hm:m<=n)(hy:ys=xs.take m):
  w.ownsRow base e 1 (.slice (some ⟨g,0,none⟩) m cap) m ys:=by
 subst hy;have h1:=h.1;refine⟨by rw[List.length_take];omega,.inr ?_⟩;rcases h.2 with⟨h0,_⟩|⟨g',cap',cur,hv,h2,h3,h4,h5,h6,h7⟩
 ·cases h0
 ·cases hv
  refine⟨g,cap,cur,rfl,h2,h3,by omega,h5,h6,?_⟩;rw[←h7,List.take_take];congr 1;omega
theorem nY{w:World}{base:Nat}{e:TypeId}{size n g cap:Nat}{xs:List Value}(h:w.ownsRow base e size (.slice (some ⟨g,0,none⟩) n cap) n xs)(o:Nat):w.frozen? ⟨g,o,none⟩=false:=by
 rcases h.2 with⟨h0,_⟩|⟨g',cap',cur,hv,h2,h3,_⟩
 ·cases h0
 ·cases hv
  exact zf.frozen (t:=e) h3 o
structure Fd(w:World)(fb:Nat)(s:ByteArray)(pv:Value)(L:List zQ)(ov:Value)(O:List Nat):Prop where
 obj:zf w fb #[.string s,pv,ov] 204
 parts:w.ownsRow 0 136 5 pv L.length (vC L)
 opens:w.ownsRow 0 3 1 ov O.length (Za O)
 np:pv.ownBlock≠some fb
 no:ov.ownBlock≠some fb
 ne:∀b,pv.ownBlock=some b->ov.ownBlock≠some b
def Xi(fb:Nat)(pv ov:Value)(k:Nat):Prop:=k=fb\/pv.ownBlock=some k\/ov.ownBlock=some k
theorem Fd.zh{p:Nat->Prop}{w w':World}{fb:Nat}{s:ByteArray}{pv ov:Value}{L:List zQ}{O:List Nat}(h:Fd w fb s pv L ov O)(hf:zg p w w')(hp:∀k,Xi fb pv ov k->¬p k):Fd w' fb s pv L ov O:=
 ⟨h.obj.zh hf (hp _ (.inl rfl)),xq hf h.parts (λk hk=>hp _ (.inr (.inl hk))),xq hf h.opens (λk hk=>hp _ (.inr (.inr hk))),h.np,h.no,h.ne⟩
theorem Fd.still{w w':World}{fb:Nat}{s:ByteArray}{pv ov:Value}{L:List zQ}{O:List Nat}(h:Fd w fb s pv L ov O)(hf:zg (λ_=>False) w w'):Fd w' fb s pv L ov O:=h.zh hf (λ_ _ h=>h)
theorem Fd.lt{w:World}{fb:Nat}{s:ByteArray}{pv ov:Value}{L:List zQ}{O:List Nat}(h:Fd w fb s pv L ov O):∀k,Xi fb pv ov k->k<w.heap.size:=by
 rintro k (rfl|hk|hk)
 ·exact h.obj.lt
 ·exact kK h.parts k hk
 ·exact kK h.opens k hk
def qm(w:World)(fb:Nat)(s:ByteArray)(pv ov:Value)(L:List zQ)(O:List Nat)(w':World):Prop:=
 ∃pv' oC,Fd w' fb s pv' L oC O/\zg (Xi fb pv ov) w w'/\∀k,Xi fb pv' oC k->Xi fb pv ov k\/w.heap.size<=k
theorem qm.trans{w1 w2 w3:World}{fb:Nat}{s:ByteArray}{pv ov YV DC:Value}{L:List zQ}{O:List Nat}(hF:zg (Xi fb pv ov) w1 w2)(hk:∀k,Xi fb YV DC k->Xi fb pv ov k\/w1.heap.size<=k)(h:qm w2 fb s YV DC L O w3):qm w1 fb s pv ov L O w3:=by
 obtain⟨rJ,Tq,h1,h2,h3⟩:=h;refine⟨rJ,Tq,h1,hF.trans h2 (λi hi hh=>?_),λk hh=>?_⟩
 ·rcases hk i hh with g|g
  ·exact g
  ·omega
 ·rcases h3 k hh with g|g
  ·exact hk k g
  ·exact .inr (by have:=hF.size;omega)
theorem Fd.last{w:World}{fb:Nat}{s:ByteArray}{pv ov:Value}{L:List zQ}{O:List Nat}{o:Nat}{p:zQ}(h:Fd w fb s pv L ov (O++ [o]))(hp:L[o]?=some p):
  ∃pb jv ob vO,pv=.slice (some ⟨pb,0,none⟩) L.length jv/\ov=.slice (some ⟨ob,0,none⟩) (O.length+1) vO/\(∀c v,(jr p)[c]?=some v->w.cell? ⟨pb,o*5+c,none⟩=some v)/\w.cell? ⟨ob,O.length,none⟩=some (.int .i64 (o:Int))/\(∀c,w.frozen? ⟨pb,c,none⟩=false)/\O.length+1<=vO/\o<L.length/\L.length<=jv/\pb≠fb/\ob≠fb/\pb≠ob:=by
 have hl:o<L.length:=(wak.1 hp).1;obtain⟨pb,jv,rfl,_,hpc,_,_⟩:=VD h.parts (by omega);obtain⟨ob,vO,rfl,_,hoc,_,_⟩:=VD h.opens (by simp);simp only[List.length_append,wan,List.length_nil,wac]at hoc;refine⟨pb,jv,ob,vO,rfl,by simp,λc v hv=>?_,?_,λc=>nY h.parts c,hoc,hl,hpc,λe=>h.np (by rw[e];rfl),λe=>h.no (by rw[e];rfl),λe=>h.ne pb rfl (by rw[e];rfl)⟩
 ·have:=h.parts.cells (g:=pb) rfl (o*5+c) v (ou hp c v hv)
  rwa [Addr.add_lit,wac]at this
 ·have:=h.opens.cells (g:=ob) rfl O.length (.int .i64 (o:Int)) (by simp[Za])
  rwa [Addr.add_lit,wac]at this
theorem zkB(s:ByteArray)(k:Nat):ql s (k:Int) (uF s)=(uF s k:Nat):=by
 unfold ql;split
 ·rfl
 ·rename_i h
  have hn:uq s k=0:=by have:=mg s k;omega
  unfold uF;rw[hn,if_neg (by omega),if_neg (by omega)];rfl
theorem oD(s:ByteArray)(k:Nat)(h:k<=s.size):k+uF s k<=s.size:=by
 have:=mg s k;unfold uF
 repeat' split
 all_goals omega
theorem zkC(s:ByteArray)(k:Nat)(a:Int)(ha:a=k)(n:Nat)(hn:Hid (uF s k=n))(w:World)(hs:s.size<=1000000):
  Calls prog 248 #[.string s,.int .i64 a] w λe w'=>e=.returned (.int .i64 (n:Int))/\w'=w:=by
 subst ha;rw[←hn.out,←zkB];exact zky s k w hs
section
variable(w:World)
theorem zkD(m:Nat):Calls prog 245 #[.int .i64 (m:Int)] w λe w'=>e=.returned (.int .i64 (cnt m:Nat))/\w'=w:=by
 by_cases h3:m=3
 ·subst h3
  go_enter func245,ntmps245;go_wp2;go_ret;exact⟨rfl,rfl⟩
 by_cases h11:m=11
 ·subst h11
  go_enter func245,ntmps245;go_wp2;go_ret;exact⟨rfl,rfl⟩
 have t3:((m:Int)==3)=false:=beq_eq_false_iff_ne.2 (by omega);have t11:((m:Int)==11)=false:=beq_eq_false_iff_ne.2 (by omega);go_enter func245,ntmps245;go_wp2;go_ret;exact⟨by unfold cnt;rw[if_neg h3,if_neg h11];rfl,rfl⟩
theorem FC(fb pb n jv ob z k vO o:Nat)(hz:Hid (z=k+1))(hzl:z<=1000001)(c1:w.cell? ⟨fb,1,none⟩=some (.slice (some ⟨pb,0,none⟩) n jv))(c2:w.cell? ⟨fb,2,none⟩=some (.slice (some ⟨ob,0,none⟩) z vO))
 (c3:w.cell? ⟨ob,k,none⟩=some (.int .i64 (o:Int)))(ho:o<n):
  Calls prog 246 #[.pointer (some ⟨fb,0,none⟩)] w λe w'=>e=.returned (.pointer (some ⟨pb,o*5,none⟩))/\∃q,w'=w.drewN q:=by
 have e1:IntKind.i64.wrap ((z:Int)-1)=(k:Int):=by have:=hz.out;rw[waq _ (by omega)];omega
 have q1:(k:Int)<(z:Int):=by have:=hz.out;omega
 have q0:(0:Int)<=(k:Int):=by omega
 have q2:(o:Int)<(n:Int):=by omega
 have q3:(0:Int)<=(o:Int):=by omega
 go_enter func246,ntmps246;go_wp2
 go_quiet (fail)
 go_wp2;go_ret;exact⟨rfl,_,rfl⟩
theorem zkE{w W:World}{fb:Nat}{s:ByteArray}{pb jv ob vO n:Nat}{L:List zQ}{O:List Nat}{o:Nat}{p:zQ}(hF:Fd w fb s (.slice (some ⟨pb,0,none⟩) n jv) L (.slice (some ⟨ob,0,none⟩) (O.length+1) vO) (O++ [o]))(hn:n=L.length)(hp:L[o]?=some p)
 (hW:zg (λ_=>False) w W)(to:Nat)(op:Bool):
  qm w fb s (.slice (some ⟨pb,0,none⟩) n jv) (.slice (some ⟨ob,0,none⟩) (O.length+1) vO) (L.set o {p with to:=to,op:=op}) O
   (((W.setCell ⟨pb,o*5+2,none⟩ (.int .i64 (to:Int))).setCell ⟨pb,o*5+4,none⟩ (.bool op)).setCell ⟨fb,2,none⟩ (.slice (some ⟨ob,0,none⟩) O.length vO)):=by
 subst hn;have hl:o<L.length:=(wak.1 hp).1;have Z4:=hF.still hW;have KD:pb≠fb:=λe=>hF.np (by rw[e];rfl);have FD:ob≠fb:=λe=>hF.no (by rw[e];rfl);have FH:pb≠ob:=λe=>hF.ne pb rfl (by rw[e];rfl);have h1:=dK (dK Z4.parts (o*5+2) (.int .i64 (to:Int)) (by rw[Fz];omega)) (o*5+4) (.bool op) (by rw[List.length_set,Fz];omega);have e1:((vC L).set (o*5+2) (.int .i64 (to:Int))).set (o*5+4) (.bool op)=vC (L.set o {p with to:=to,op:=op}):=by
  rw[←oz (q:={p with to:=to}) hp ⟨rfl,by omega⟩];rw[←oz (p:={p with to:=to}) (q:={p with to:=to,op:=op}) (c:=4) (by rw[List.getElem?_set_self hl]) ⟨rfl,by omega⟩,List.set_set]
 rw[e1]at h1;have F1:zg (λk=>k=pb) W ((W.setCell ⟨pb,o*5+2,none⟩ (.int .i64 (to:Int))).setCell ⟨pb,o*5+4,none⟩ (.bool op)):=((zg.refl _ W).put _ _).put _ _;have F2:∀X:World,zg (λk=>k=fb) X (X.setCell ⟨fb,2,none⟩ (.slice (some ⟨ob,0,none⟩) O.length vO)):=λX=>(zg.refl _ X).put _ _;refine⟨.slice (some ⟨pb,0,none⟩) L.length jv,.slice (some ⟨ob,0,none⟩) O.length vO,⟨?_,?_,?_,hF.np,hF.no,hF.ne⟩,?_,λk hk=> .inl hk⟩
 ·have:=(Z4.obj.zh F1 (λe=>KD e.symm)).set 2 (.slice (some ⟨ob,0,none⟩) O.length vO)
  simpa using this
 ·rw[List.length_set]
  exact xq (F2 _) h1 (λk hk=>by simp[Value.ownBlock]at hk;omega)
 ·have h2:=xq F1 Z4.opens (λk hk=>by simp[Value.ownBlock]at hk;omega)
  have h3:=xq (F2 _) h2 (λk hk=>by simp[Value.ownBlock]at hk;omega);rw[List.length_append,wan,List.length_nil,wac]at h3;exact zbT h3 (Nat.le_succ _) (by simp[Za])
 ·refine zg.setCell (zg.setCell (zg.setCell (hW.mono (λ_ _ h=>absurd h id)) _ (.inl (.inr (.inl rfl))) _) _ (.inl (.inr (.inl rfl))) _) _ (.inl (.inl rfl)) _
theorem zkF(Q:World->Prop)(fb pb n jv ob z k vO o m f N t to:Nat)(op:Bool)(s:ByteArray)(hz:Hid (z=k+1))(hzl:k<=1000000)(hoc:k<=vO)(ho:o<n)(hf:f<=100000)(hNl:N<=100000)(hN:Hid (uF s (f+1)=N))(ht:Hid (t=f+1+N))(hs:s.size<=100000)
 (hB:zf w fb #[.string s,.slice (some ⟨pb,0,none⟩) n jv,.slice (some ⟨ob,0,none⟩) z vO] 204)
 (h3:w.cell? ⟨ob,k,none⟩=some (.int .i64 (o:Int)))(p0:w.cell? ⟨pb,o*5,none⟩=some (.int .i64 (m:Int)))(p1:w.cell? ⟨pb,o*5+1,none⟩=some (.int .i64 (f:Int)))(u2 u4:Value)(p2:w.cell? ⟨pb,o*5+2,none⟩=some u2)(p4:w.cell? ⟨pb,o*5+4,none⟩=some u4)(g2:w.frozen? ⟨pb,o*5+2,none⟩=false)(g4:w.frozen? ⟨pb,o*5+4,none⟩=false)(KD:pb≠fb)
 (hQ:Hid (∀W,zg (λ_=>False) w W->Q ((((W.setCell ⟨pb,o*5+2,none⟩ (.int .i64 ((if m=12 then t else to:Nat):Int))).setCell ⟨pb,o*5+4,none⟩ (.bool (if m=12 then false else op))).setCell ⟨fb,2,none⟩ (.slice (some ⟨ob,0,none⟩) k vO)).drew))):
  Calls prog 226 #[.pointer (some ⟨fb,0,none⟩),.int .i64 (to:Int),.bool op] w λe w'=>(∃v,e=.returned v)/\Q w':=by
 have hz0:=hz.out;have e1:IntKind.i64.wrap ((z:Int)-1)=(k:Int):=by rw[waq _ (by omega)];omega
 have q1:(k:Int)<=(z:Int):=by omega
 have q2:(k:Int)<=(vO:Int):=by omega
 have q0:(0:Int)<=(k:Int):=by omega
 have oG:=hid (fun(W:World) c1 c2 c3=>FC W fb pb n jv ob z k vO o hz (by omega) c1 c2 c3 ho);have c0:=hB.cell 0;have c1:=hB.cell 1;have c2:=hB.cell 2;have f2:=hB.frozen 2;simp at c0 c1 c2;clear hz0;have hV:∀(W:World) (t:Nat) (op:Bool),zf W fb #[.string s,.slice (some ⟨pb,0,none⟩) n jv,.slice (some ⟨ob,0,none⟩) z vO] 204->∃V,V=(W.setCell ⟨pb,o*5+2,none⟩ (.int .i64 (t:Int))).setCell ⟨pb,o*5+4,none⟩ (.bool op)/\V.cell? ⟨fb,2,none⟩=some (.slice (some ⟨ob,0,none⟩) z vO)/\V.frozen? ⟨fb,2,none⟩=false:=by
  intro W t op h;have h2:=(h.other (b':=pb) (o*5+2) (.int .i64 (t:Int)) (Ne.symm KD)).other (b':=pb) (o*5+4) (.bool op) (Ne.symm KD);exact⟨_,rfl,h2.cell 2,h2.frozen 2⟩
 have HV:=hid hV;clear hV;by_cases h12:m=12
 ·subst h12
  have a1:IntKind.i64.wrap ((f:Int)+1)=((f+1:Nat):Int):=by rw[waq _ (by omega)];omega
  have a2:IntKind.i64.wrap (((f+1:Nat):Int)+(N:Int))=(t:Int):=by have:=ht.out;rw[waq _ (by omega)];omega
  obtain⟨f1,hf1⟩:∃f1,f+1=f1:=⟨_,rfl⟩;rw[hf1]at a1 a2 hN;clear hf1;have hPA:=hid (λW=>zkC s f1 (f1:Int) rfl N hN W (by omega));go_enter func226,ntmps226
  go_wp2_with fail
  refine(oG.out _ c1 c2 h3).mono ?_;rintro e w1 ⟨rfl,q,rfl⟩;obtain⟨W,hW⟩:∃W,W=w.drewN q:=⟨_,rfl⟩;have Z4:zg (λ_=>False) w W:=by rw[hW];exact(zg.refl _ _).drewN q
  rw[←hW];replace c0:W.cell? ⟨fb,0,none⟩=some (.string s):=hW▸c0;replace p0:W.cell? ⟨pb,o*5,none⟩=some (.int .i64 ((12:Nat):Int)):=hW▸p0;replace p1:W.cell? ⟨pb,o*5+1,none⟩=some (.int .i64 (f:Int)):=hW▸p1;replace p2:W.cell? ⟨pb,o*5+2,none⟩=some u2:=hW▸p2;replace p4:W.cell? ⟨pb,o*5+4,none⟩=some u4:=hW▸p4;replace g2:W.frozen? ⟨pb,o*5+2,none⟩=false:=hW▸g2;replace g4:W.frozen? ⟨pb,o*5+4,none⟩=false:=hW▸g4;clear hW c1 c2 h3 f2;go_wp2
  go_quiet ((go_at_call 248;exact Calls.quiet_of_same (hPA.out _)))
  go_wp2;obtain⟨V,hV,v2,vf⟩:=HV.out (W.drewN nq) t false (hB.zh (Z4.drewN nq) (λh=>h));have FI:=hid hV;rw[←hV];clear hV
  go_region
  all_goals
   go_wp2;refine bodyPost_end (results_none rfl _ _ _) rfl ?_;refine⟨⟨_,rfl⟩,?_⟩;rw[FI.out];exact hQ.out (W.drewN nq) (Z4.drewN nq)
 ·have t12:((m:Int)==12)=false:=beq_eq_false_iff_ne.2 (by omega)
  simp only[if_neg h12]at hQ;go_enter func226,ntmps226
  go_wp2_with fail
  refine(oG.out _ c1 c2 h3).mono ?_;rintro e w1 ⟨rfl,q,rfl⟩;obtain⟨W,hW⟩:∃W,W=w.drewN q:=⟨_,rfl⟩;have Z4:zg (λ_=>False) w W:=by rw[hW];exact(zg.refl _ _).drewN q
  rw[←hW];replace c0:W.cell? ⟨fb,0,none⟩=some (.string s):=hW▸c0;replace p0:W.cell? ⟨pb,o*5,none⟩=some (.int .i64 (m:Int)):=hW▸p0;replace p2:W.cell? ⟨pb,o*5+2,none⟩=some u2:=hW▸p2;replace p4:W.cell? ⟨pb,o*5+4,none⟩=some u4:=hW▸p4;replace g2:W.frozen? ⟨pb,o*5+2,none⟩=false:=hW▸g2;replace g4:W.frozen? ⟨pb,o*5+4,none⟩=false:=hW▸g4;clear hW c1 c2 h3 p1 f2;go_wp2;obtain⟨V,hV,v2,vf⟩:=HV.out W to op (hB.zh Z4 (λh=>h));have FI:=hid hV;rw[←hV];clear hV
  go_region
  all_goals
   go_wp2;refine bodyPost_end (results_none rfl _ _ _) rfl ?_;refine⟨⟨_,rfl⟩,?_⟩;rw[FI.out];exact hQ.out W Z4
theorem qm.drew{w w':World}{fb:Nat}{s:ByteArray}{pv ov:Value}{L:List zQ}{O:List Nat}(h:qm w fb s pv ov L O w'):qm w fb s pv ov L O w'.drew:=by
 obtain⟨pv',oC,h1,h2,h3⟩:=h;exact⟨pv',oC,h1.still ((zg.refl _ _).drew),h2.drew,h3⟩
theorem jO(fb:Nat)(s:ByteArray)(pv ov:Value)(L:List zQ)(O:List Nat)(o:Nat)(p:zQ)(to:Nat)(op:Bool)(hF:Fd w fb s pv L ov (O++ [o]))(hp:L[o]?=some p)(hs:s.size<=100000)(Vb:p.zh<s.size)(hO:O.length<=1000000):
  Calls prog 226 #[.pointer (some ⟨fb,0,none⟩),.int .i64 (to:Int),.bool op] w λe w'=>(∃v,e=.returned v)/\qm w fb s pv ov (L.set o (Xj s to op p)) O w':=by
 obtain⟨pb,jv,ob,vO,rfl,rfl,hc,h3,hfz,hoc,hol,hpc,KD,FD,FH⟩:=hF.last hp;have hNl:uF s (p.zh+1)<=100000:=by have:=oD s (p.zh+1) (by omega);omega
 refine zkF w _ fb pb L.length jv ob (O.length+1) O.length vO o p.mode p.zh (uF s (p.zh+1)) (p.zh+1+uF s (p.zh+1)) to op s (hid rfl) hO (by omega) hol (by omega) hNl (hid rfl) (hid rfl) hs (by simpa using hF.obj) h3 (hc 0 _ rfl) (hc 1 _ rfl) _ _ (hc 2 _ rfl) (hc 4 _ rfl) (hfz _) (hfz _) KD (hid λW hW=>?_);have:=zkE hF rfl hp hW (if p.mode=12 then p.zh+1+uF s (p.zh+1)else to) (if p.mode=12 then false else op);have e:({p with to:=if p.mode=12 then p.zh+1+uF s (p.zh+1)else to,op:=if p.mode=12 then false else op}:zQ)=Xj s to op p:=by
  unfold Xj;split<;>simp[*]
 rw[e]at this;exact this.drew
def rM(fl:List Fr)(n f:Nat):Bool:=decide (n<=fl.length/\(fl[n-1]?.map Prod.snd)=some f)
theorem zbU(fb pb n jv ob z k vO o f b off len Qp:Nat)(hz:Hid (z=k+1))(hzl:k<=1000000)(ho:o<n)(hlen:len<=1000000)
 (c1:w.cell? ⟨fb,1,none⟩=some (.slice (some ⟨pb,0,none⟩) n jv))(c2:w.cell? ⟨fb,2,none⟩=some (.slice (some ⟨ob,0,none⟩) z vO))
 (h3:w.cell? ⟨ob,k,none⟩=some (.int .i64 (o:Int)))(p1:w.cell? ⟨pb,o*5+1,none⟩=some (.int .i64 (f:Int)))(ao:Option Addr)(x:Bool)
 (hx:(len<z/\x=false)\/(z<=len/\∃g:Nat,ao=some ⟨b,off,none⟩/\w.cell? ⟨b,off+k*2+1,none⟩=some (.int .i64 (g:Int))/\x=decide (g=f))):
  Calls prog 244 #[.pointer (some ⟨fb,0,none⟩),.slice ao len Qp] w λe w'=>e=.returned (.bool x)/\∃q,w'=w.drewN q:=by
 have hz0:=hz.out;have e1:IntKind.i64.wrap ((z:Int)-1)=(k:Int):=by rw[waq _ (by omega)];omega
 have q0:(0:Int)<=(k:Int):=by omega
 have oG:=hid (fun(W:World) c1 c2 c3=>FC W fb pb n jv ob z k vO o hz (by omega) c1 c2 c3 ho);rcases hx with⟨hlt,rfl⟩|⟨hle,g,rfl,hg,rfl⟩
 ·have t1:¬(z:Int)<=(len:Int):=by omega
  have t2:decide (z<=len)=false:=by simp;omega
  clear hz0;go_enter func244,ntmps244;go_wp2
  go_quiet (fail)
  go_wp2;go_ret;exact⟨rfl,_,rfl⟩
 ·have t1:(z:Int)<=(len:Int):=by omega
  have t2:decide (z<=len)=true:=by simp;omega
  have q1:(k:Int)<(len:Int):=by omega
  clear hz0;go_enter func244,ntmps244;go_wp2
  go_quiet ((go_at_call 246;exact Calls.quiet_of (oG.out _ c1 c2 h3)))
  go_wp2;go_ret;refine⟨uV ?_,_,rfl⟩;rw[Bool.eq_iff_iff,decide_eq_true_iff];simp;omega
end
end Go.Proofs.YtkolpaonccmgiaaGreatDoor

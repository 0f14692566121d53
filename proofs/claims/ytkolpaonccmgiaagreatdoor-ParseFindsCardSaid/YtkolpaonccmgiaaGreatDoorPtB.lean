/- The finder of layer 7 (parts) in memory: its block -/
import Derived.Test.YtkolpaonccmgiaaGreatDoorQt
import Derived.Test.YtkolpaonccmgiaaGreatDoorQs
set_option linter.unusedVariables false
namespace Go.Proofs.YtkolpaonccmgiaaGreatDoor
set_option linter.unusedSectionVars false
set_option linter.unusedVariables false
open Go.RowKit
def cellP (p:Prt):List Value:=[.int .i64 (p.mode:Int),.int .i64 (p.frm:Int),.int .i64 (p.to:Int),.int .i64 p.up,.bool p.op]
def cellsP (l:List Prt):List Value:=l.flatMap cellP
def cellsO (l:List Nat):List Value:=l.map fun x:Nat=> .int .i64 (x:Int)
theorem cellsP_cons (a:Prt) (l:List Prt):cellsP (a::l)=.int .i64 (a.mode:Int)::.int .i64 (a.frm:Int)::.int .i64 (a.to:Int)::.int .i64 a.up::.bool a.op::cellsP l:=by
 unfold cellsP;rw [List.flatMap_cons];rfl
theorem cellsP_length (l:List Prt):(cellsP l).length=l.length*5:=by
 induction l with
 |nil=>rfl
 |cons a l ih=>rw [cellsP_cons];simp only [List.length_cons,ih];omega
theorem cellsP_append (l k:List Prt):cellsP (l++k)=cellsP l++cellsP k:=by unfold cellsP;rw [List.flatMap_append]
theorem cellsP_at:∀{l:List Prt} {j:Nat} {p:Prt},l[j]?=some p→∀c v,(cellP p)[c]?=some v→(cellsP l)[j*5+c]?=some v
 | [],j,p,h,c,v,hv=>by simp at h
 |a::l,0,p,h,c,v,hv=>by
  simp at h
  subst h
  have hc:c<(cellP a).length:=(List.getElem?_eq_some_iff.1 hv).1
  show(cellsP (a::l))[0*5+c]?=_
  rw [Nat.zero_mul,Nat.zero_add]
  unfold cellsP
  rw [List.flatMap_cons,List.getElem?_append_left hc]
  exact hv
 |a::l,j+1,p,h,c,v,hv=>by
  have h':l[j]?=some p:=by simpa using h
  have ih:=cellsP_at h' c v hv
  rw [cellsP_cons,show(j+1)*5+c=j*5+c+1+1+1+1+1 by omega]
  simpa using ih
def setF (p:Prt) (c:Nat) (v:Value) (q:Prt):Prop:=cellP q=(cellP p).set c v∧c<5
theorem cellsP_set:∀{l:List Prt} {j c:Nat} {p q:Prt} {v:Value},l[j]?=some p→setF p c v q→cellsP (l.set j q)=(cellsP l).set (j*5+c) v
 | [],j,c,p,q,v,h,_=>by simp at h
 |a::l,0,c,p,q,v,h,hs=>by
  simp at h
  subst h
  have hc:c<(cellP a).length:=hs.2
  rw [List.set_cons_zero,Nat.zero_mul,Nat.zero_add]
  unfold cellsP
  rw [List.flatMap_cons,List.flatMap_cons,hs.1,List.set_append_left _ _ hc]
 |a::l,j+1,c,p,q,v,h,hs=>by
  have h':l[j]?=some p:=by simpa using h
  have ih:=cellsP_set h' hs
  rw [List.set_cons_succ]
  show cellP a++cellsP (l.set j q)=(cellP a++cellsP l).set _ _
  rw [ih,show(j+1)*5+c=(cellP a).length+(j*5+c) by simp [cellP];omega,List.set_append_right _ _ (Nat.le_add_right _ _)]
  congr 2
  omega
theorem owns_set {w:World} {base:Nat} {e:TypeId} {size n g cap:Nat} {xs:List Value} (h:w.ownsRow base e size (.slice (some ⟨g,0,none⟩) n cap) n xs) (i:Nat) (u:Value) (hi:i<xs.length):
  (w.setCell ⟨g,i,none⟩ u).ownsRow base e size (.slice (some ⟨g,0,none⟩) n cap) n (xs.set i u):=by
 refine⟨by rw [List.length_set];exact h.1,.inr ?_⟩
 rcases h.2 with⟨h0,_⟩|⟨g',cap',cur,hv,h2,h3,h4,h5,h6,h7⟩
 ·cases h0
 ·cases hv
  refine⟨g,cap,_,rfl,h2,Blk.set (t:=e) h3 i u,h4,h5,by simpa using h6,?_⟩
  rw [Array.toList_setIfInBounds,List.take_set,h7]
theorem owns_nil {w:World} {base:Nat} {e:TypeId} {size n:Nat} {v:Value} {xs:List Value} (h:w.ownsRow base e size v n xs) (hn:0<n):∃g cap,v=.slice (some ⟨g,0,none⟩) n cap∧base≤g∧n≤cap∧cap≤maxLen∧g<w.heap.size:=by
 rcases h.2 with⟨_,h1⟩|⟨g,cap,cur,hv,h2,h3,h4,h5,_⟩
 ·omega
 ·exact⟨g,cap,hv,h2,h4,h5,(Array.getElem?_eq_some_iff.1 h3).1⟩
theorem owns_pop {w:World} {base:Nat} {e:TypeId} {n m g cap:Nat} {xs ys:List Value} (h:w.ownsRow base e 1 (.slice (some ⟨g,0,none⟩) n cap) n xs) (hm:m≤n) (hy:ys=xs.take m):
  w.ownsRow base e 1 (.slice (some ⟨g,0,none⟩) m cap) m ys:=by
 subst hy
 have h1:=h.1
 refine⟨by rw [List.length_take];omega,.inr ?_⟩
 rcases h.2 with⟨h0,_⟩|⟨g',cap',cur,hv,h2,h3,h4,h5,h6,h7⟩
 ·cases h0
 ·cases hv
  refine⟨g,cap,cur,rfl,h2,h3,by omega,h5,h6,?_⟩
  rw [←h7,List.take_take]
  congr 1
  omega
theorem owns_frozen {w:World} {base:Nat} {e:TypeId} {size n g cap:Nat} {xs:List Value} (h:w.ownsRow base e size (.slice (some ⟨g,0,none⟩) n cap) n xs) (o:Nat):w.frozen? ⟨g,o,none⟩=false:=by
 rcases h.2 with⟨h0,_⟩|⟨g',cap',cur,hv,h2,h3,_⟩
 ·cases h0
 ·cases hv
  exact Blk.frozen (t:=e) h3 o
structure Fd (w:World) (fb:Nat) (s:ByteArray) (pv:Value) (L:List Prt) (ov:Value) (O:List Nat):Prop where
 obj:Blk w fb #[.string s,pv,ov] 204
 parts:w.ownsRow 0 136 5 pv L.length (cellsP L)
 opens:w.ownsRow 0 3 1 ov O.length (cellsO O)
 np:pv.ownBlock≠some fb
 no:ov.ownBlock≠some fb
 ne:∀b,pv.ownBlock=some b→ov.ownBlock≠some b
def ffoot (fb:Nat) (pv ov:Value) (k:Nat):Prop:=k=fb∨pv.ownBlock=some k∨ov.ownBlock=some k
theorem Fd.frm {p:Nat→Prop} {w w':World} {fb:Nat} {s:ByteArray} {pv ov:Value} {L:List Prt} {O:List Nat} (h:Fd w fb s pv L ov O) (hf:Frm p w w') (hp:∀k,ffoot fb pv ov k→¬p k):Fd w' fb s pv L ov O:=
 ⟨h.obj.frm hf (hp _ (.inl rfl)),own_frm hf h.parts (fun k hk=>hp _ (.inr (.inl hk))),own_frm hf h.opens (fun k hk=>hp _ (.inr (.inr hk))),h.np,h.no,h.ne⟩
theorem Fd.still {w w':World} {fb:Nat} {s:ByteArray} {pv ov:Value} {L:List Prt} {O:List Nat} (h:Fd w fb s pv L ov O) (hf:Frm (fun _=>False) w w'):Fd w' fb s pv L ov O:=h.frm hf (fun _ _ h=>h)
theorem Fd.lt {w:World} {fb:Nat} {s:ByteArray} {pv ov:Value} {L:List Prt} {O:List Nat} (h:Fd w fb s pv L ov O):∀k,ffoot fb pv ov k→k<w.heap.size:=by
 rintro k (rfl|hk|hk)
 ·exact h.obj.lt
 ·exact own_lt h.parts k hk
 ·exact own_lt h.opens k hk
def FdTo (w:World) (fb:Nat) (s:ByteArray) (pv ov:Value) (L:List Prt) (O:List Nat) (w':World):Prop:=
 ∃pv' ov',Fd w' fb s pv' L ov' O∧Frm (ffoot fb pv ov) w w'∧∀k,ffoot fb pv' ov' k→ffoot fb pv ov k∨w.heap.size≤k
theorem FdTo.trans {w1 w2 w3:World} {fb:Nat} {s:ByteArray} {pv ov pv2 ov2:Value} {L:List Prt} {O:List Nat} (hF:Frm (ffoot fb pv ov) w1 w2) (hk:∀k,ffoot fb pv2 ov2 k→ffoot fb pv ov k∨w1.heap.size≤k) (h:FdTo w2 fb s pv2 ov2 L O w3):FdTo w1 fb s pv ov L O w3:=by
 obtain⟨pv3,ov3,h1,h2,h3⟩:=h
 refine⟨pv3,ov3,h1,hF.trans h2 (fun i hi hh=>?_),fun k hh=>?_⟩
 ·rcases hk i hh with g|g
  ·exact g
  ·omega
 ·rcases h3 k hh with g|g
  ·exact hk k g
  ·exact .inr (by have:=hF.size;omega)
theorem Fd.last {w:World} {fb:Nat} {s:ByteArray} {pv ov:Value} {L:List Prt} {O:List Nat} {o:Nat} {p:Prt} (h:Fd w fb s pv L ov (O++ [o])) (hp:L[o]?=some p):
  ∃pb pcap ob ocap,pv=.slice (some ⟨pb,0,none⟩) L.length pcap∧ov=.slice (some ⟨ob,0,none⟩) (O.length+1) ocap∧(∀c v,(cellP p)[c]?=some v→w.cell? ⟨pb,o*5+c,none⟩=some v)∧w.cell? ⟨ob,O.length,none⟩=some (.int .i64 (o:Int))∧(∀c,w.frozen? ⟨pb,c,none⟩=false)∧O.length+1≤ocap∧o<L.length∧L.length≤pcap∧pb≠fb∧ob≠fb∧pb≠ob:=by
 have hl:o<L.length:=(List.getElem?_eq_some_iff.1 hp).1
 obtain⟨pb,pcap,rfl,_,hpc,_,_⟩:=owns_nil h.parts (by omega)
 obtain⟨ob,ocap,rfl,_,hoc,_,_⟩:=owns_nil h.opens (by simp)
 simp only [List.length_append,List.length_cons,List.length_nil,Nat.zero_add]at hoc
 refine⟨pb,pcap,ob,ocap,rfl,by simp,fun c v hv=>?_,?_,fun c=>owns_frozen h.parts c,hoc,hl,hpc,fun e=>h.np (by rw [e];rfl),fun e=>h.no (by rw [e];rfl),fun e=>h.ne pb rfl (by rw [e];rfl)⟩
 ·have:=h.parts.cells (g:=pb) rfl (o*5+c) v (cellsP_at hp c v hv)
  rwa [Addr.add_lit,Nat.zero_add]at this
 ·have:=h.opens.cells (g:=ob) rfl O.length (.int .i64 (o:Int)) (by simp [cellsO])
  rwa [Addr.add_lit,Nat.zero_add]at this
theorem atV_param (s:ByteArray) (k:Nat):atV s (k:Int) (paramN s)=(paramN s k:Nat):=by
 unfold atV
 split
 ·rfl
 ·rename_i h
  have hn:nameN s k=0:=by have:=nameN_le s k;omega
  unfold paramN
  rw [hn,if_neg (by omega),if_neg (by omega)]
  rfl
theorem paramN_le (s:ByteArray) (k:Nat) (h:k≤s.size):k+paramN s k≤s.size:=by
 have:=nameN_le s k
 unfold paramN
 repeat' split
 all_goals omega
theorem param_at (s:ByteArray) (k:Nat) (a:Int) (ha:a=k) (n:Nat) (hn:Hid (paramN s k=n)) (w:World) (hs:s.size≤1000000):
  Calls Tryz.prog 248 #[.string s,.int .i64 a] w fun e w'=>e=.returned (.int .i64 (n:Int))∧w'=w:=by
 subst ha
 rw [←hn.out,←atV_param]
 exact param_any s k w hs
section
variable (w:World)
set_option maxHeartbeats 1000000 in
theorem counted_any (m:Nat):Calls Tryz.prog 245 #[.int .i64 (m:Int)] w fun e w'=>e=.returned (.int .i64 (cnt m:Nat))∧w'=w:=by
 by_cases h3:m=3
 ·subst h3
  go_enter Tryz.func245,Tryz.ntmps245
  go_wp2
  go_ret
  exact⟨rfl,rfl⟩
 by_cases h11:m=11
 ·subst h11
  go_enter Tryz.func245,Tryz.ntmps245
  go_wp2
  go_ret
  exact⟨rfl,rfl⟩
 have t3:((m:Int)==3)=false:=beq_eq_false_iff_ne.2 (by omega)
 have t11:((m:Int)==11)=false:=beq_eq_false_iff_ne.2 (by omega)
 go_enter Tryz.func245,Tryz.ntmps245
 go_wp2
 go_ret
 exact⟨by unfold cnt;rw [if_neg h3,if_neg h11];rfl,rfl⟩
set_option maxHeartbeats 1000000 in
theorem last_any (fb pb n pcap ob z k ocap o:Nat) (hz:Hid (z=k+1)) (hzl:z≤1000001) (c1:w.cell? ⟨fb,1,none⟩=some (.slice (some ⟨pb,0,none⟩) n pcap)) (c2:w.cell? ⟨fb,2,none⟩=some (.slice (some ⟨ob,0,none⟩) z ocap))
  (c3:w.cell? ⟨ob,k,none⟩=some (.int .i64 (o:Int))) (ho:o<n):
  Calls Tryz.prog 246 #[.pointer (some ⟨fb,0,none⟩)] w fun e w'=>e=.returned (.pointer (some ⟨pb,o*5,none⟩))∧∃q,w'=w.drewN q:=by
 have e1:IntKind.i64.wrap ((z:Int) - 1)=(k:Int):=by have:=hz.out;rw [IntWalk.i64_in _ (by omega)];omega
 have q1:(k:Int)<(z:Int):=by have:=hz.out;omega
 have q0:(0:Int)≤(k:Int):=by omega
 have q2:(o:Int)<(n:Int):=by omega
 have q3:(0:Int)≤(o:Int):=by omega
 go_enter Tryz.func246,Tryz.ntmps246
 go_wp2
 go_quiet (fail)
 go_wp2
 go_ret
 exact⟨rfl,_,rfl⟩
theorem ended {w W:World} {fb:Nat} {s:ByteArray} {pb pcap ob ocap n:Nat} {L:List Prt} {O:List Nat} {o:Nat} {p:Prt} (hF:Fd w fb s (.slice (some ⟨pb,0,none⟩) n pcap) L (.slice (some ⟨ob,0,none⟩) (O.length+1) ocap) (O++ [o])) (hn:n=L.length) (hp:L[o]?=some p)
  (hW:Frm (fun _=>False) w W) (to:Nat) (op:Bool):
  FdTo w fb s (.slice (some ⟨pb,0,none⟩) n pcap) (.slice (some ⟨ob,0,none⟩) (O.length+1) ocap) (L.set o { p with to:=to,op:=op }) O
   (((W.setCell ⟨pb,o*5+2,none⟩ (.int .i64 (to:Int))).setCell ⟨pb,o*5+4,none⟩ (.bool op)).setCell ⟨fb,2,none⟩ (.slice (some ⟨ob,0,none⟩) O.length ocap)):=by
 subst hn
 have hl:o<L.length:=(List.getElem?_eq_some_iff.1 hp).1
 have hFW:=hF.still hW
 have npf:pb≠fb:=fun e=>hF.np (by rw [e];rfl)
 have nof:ob≠fb:=fun e=>hF.no (by rw [e];rfl)
 have npo:pb≠ob:=fun e=>hF.ne pb rfl (by rw [e];rfl)
 have h1:=owns_set (owns_set hFW.parts (o*5+2) (.int .i64 (to:Int)) (by rw [cellsP_length];omega)) (o*5+4) (.bool op) (by rw [List.length_set,cellsP_length];omega)
 have e1:((cellsP L).set (o*5+2) (.int .i64 (to:Int))).set (o*5+4) (.bool op)=cellsP (L.set o { p with to:=to,op:=op }):=by
  rw [←cellsP_set (q:={ p with to:=to }) hp ⟨rfl,by omega⟩]
  rw [←cellsP_set (p:={ p with to:=to }) (q:={ p with to:=to,op:=op }) (c:=4) (by rw [List.getElem?_set_self hl]) ⟨rfl,by omega⟩,List.set_set]
 rw [e1]at h1
 have F1:Frm (fun k=>k=pb) W ((W.setCell ⟨pb,o*5+2,none⟩ (.int .i64 (to:Int))).setCell ⟨pb,o*5+4,none⟩ (.bool op)):=((Frm.refl _ W).put _ _).put _ _
 have F2:∀X:World,Frm (fun k=>k=fb) X (X.setCell ⟨fb,2,none⟩ (.slice (some ⟨ob,0,none⟩) O.length ocap)):=fun X=>(Frm.refl _ X).put _ _
 refine⟨.slice (some ⟨pb,0,none⟩) L.length pcap,.slice (some ⟨ob,0,none⟩) O.length ocap,⟨?_,?_,?_,hF.np,hF.no,hF.ne⟩,?_,fun k hk=> .inl hk⟩
 ·have:=(hFW.obj.frm F1 (fun e=>npf e.symm)).set 2 (.slice (some ⟨ob,0,none⟩) O.length ocap)
  simpa using this
 ·rw [List.length_set]
  exact own_frm (F2 _) h1 (fun k hk=>by simp [Value.ownBlock]at hk;omega)
 ·have h2:=own_frm F1 hFW.opens (fun k hk=>by simp [Value.ownBlock]at hk;omega)
  have h3:=own_frm (F2 _) h2 (fun k hk=>by simp [Value.ownBlock]at hk;omega)
  rw [List.length_append,List.length_cons,List.length_nil,Nat.zero_add]at h3
  exact owns_pop h3 (Nat.le_succ _) (by simp [cellsO])
 ·refine Frm.setCell (Frm.setCell (Frm.setCell (hW.mono (fun _ _ h=>absurd h id)) _ (.inl (.inr (.inl rfl))) _) _ (.inl (.inr (.inl rfl))) _) _ (.inl (.inl rfl)) _
set_option maxHeartbeats 2000000 in
theorem end_core (Q:World→Prop) (fb pb n pcap ob z k ocap o m f N t to:Nat) (op:Bool) (s:ByteArray) (hz:Hid (z=k+1)) (hzl:k≤1000000) (hoc:k≤ocap) (ho:o<n) (hf:f≤100000) (hNl:N≤100000) (hN:Hid (paramN s (f+1)=N)) (ht:Hid (t=f+1+N)) (hs:s.size≤100000)
  (hB:Blk w fb #[.string s,.slice (some ⟨pb,0,none⟩) n pcap,.slice (some ⟨ob,0,none⟩) z ocap] 204)
  (h3:w.cell? ⟨ob,k,none⟩=some (.int .i64 (o:Int))) (p0:w.cell? ⟨pb,o*5,none⟩=some (.int .i64 (m:Int))) (p1:w.cell? ⟨pb,o*5+1,none⟩=some (.int .i64 (f:Int))) (u2 u4:Value) (p2:w.cell? ⟨pb,o*5+2,none⟩=some u2) (p4:w.cell? ⟨pb,o*5+4,none⟩=some u4) (g2:w.frozen? ⟨pb,o*5+2,none⟩=false) (g4:w.frozen? ⟨pb,o*5+4,none⟩=false) (npf:pb≠fb)
  (hQ:Hid (∀W,Frm (fun _=>False) w W→Q ((((W.setCell ⟨pb,o*5+2,none⟩ (.int .i64 ((if m=12 then t else to:Nat):Int))).setCell ⟨pb,o*5+4,none⟩ (.bool (if m=12 then false else op))).setCell ⟨fb,2,none⟩ (.slice (some ⟨ob,0,none⟩) k ocap)).drew))):
  Calls Tryz.prog 226 #[.pointer (some ⟨fb,0,none⟩),.int .i64 (to:Int),.bool op] w fun e w'=>(∃v,e=.returned v)∧Q w':=by
 have hz0:=hz.out
 have e1:IntKind.i64.wrap ((z:Int) - 1)=(k:Int):=by rw [IntWalk.i64_in _ (by omega)];omega
 have q1:(k:Int)≤(z:Int):=by omega
 have q2:(k:Int)≤(ocap:Int):=by omega
 have q0:(0:Int)≤(k:Int):=by omega
 have hLA:=Lib.hid (fun(W:World) c1 c2 c3=>last_any W fb pb n pcap ob z k ocap o hz (by omega) c1 c2 c3 ho)
 have c0:=hB.cell 0
 have c1:=hB.cell 1
 have c2:=hB.cell 2
 have f2:=hB.frozen 2
 simp at c0 c1 c2
 clear hz0
 have hV:∀(W:World) (t:Nat) (op:Bool),Blk W fb #[.string s,.slice (some ⟨pb,0,none⟩) n pcap,.slice (some ⟨ob,0,none⟩) z ocap] 204→∃V,V=(W.setCell ⟨pb,o*5+2,none⟩ (.int .i64 (t:Int))).setCell ⟨pb,o*5+4,none⟩ (.bool op)∧V.cell? ⟨fb,2,none⟩=some (.slice (some ⟨ob,0,none⟩) z ocap)∧V.frozen? ⟨fb,2,none⟩=false:=by
  intro W t op h
  have h2:=(h.other (b':=pb) (o*5+2) (.int .i64 (t:Int)) (Ne.symm npf)).other (b':=pb) (o*5+4) (.bool op) (Ne.symm npf)
  exact⟨_,rfl,h2.cell 2,h2.frozen 2⟩
 have HV:=Lib.hid hV
 clear hV
 by_cases h12:m=12
 ·subst h12
  have a1:IntKind.i64.wrap ((f:Int)+1)=((f+1:Nat):Int):=by rw [IntWalk.i64_in _ (by omega)];omega
  have a2:IntKind.i64.wrap (((f+1:Nat):Int)+(N:Int))=(t:Int):=by have:=ht.out;rw [IntWalk.i64_in _ (by omega)];omega
  obtain⟨f1,hf1⟩:∃f1,f+1=f1:=⟨_,rfl⟩
  rw [hf1]at a1 a2 hN
  clear hf1
  have hPA:=Lib.hid (fun W=>param_at s f1 (f1:Int) rfl N hN W (by omega))
  go_enter Tryz.func226,Tryz.ntmps226
  go_wp2_with fail
  refine(hLA.out _ c1 c2 h3).mono ?_
  rintro e w1 ⟨rfl,q,rfl⟩
  obtain⟨W,hW⟩:∃W,W=w.drewN q:=⟨_,rfl⟩
  have hFW:Frm (fun _=>False) w W:=by rw [hW];exact(Frm.refl _ _).drewN q
  rw [←hW]
  replace c0:W.cell? ⟨fb,0,none⟩=some (.string s):=hW▸c0
  replace p0:W.cell? ⟨pb,o*5,none⟩=some (.int .i64 ((12:Nat):Int)):=hW▸p0
  replace p1:W.cell? ⟨pb,o*5+1,none⟩=some (.int .i64 (f:Int)):=hW▸p1
  replace p2:W.cell? ⟨pb,o*5+2,none⟩=some u2:=hW▸p2
  replace p4:W.cell? ⟨pb,o*5+4,none⟩=some u4:=hW▸p4
  replace g2:W.frozen? ⟨pb,o*5+2,none⟩=false:=hW▸g2
  replace g4:W.frozen? ⟨pb,o*5+4,none⟩=false:=hW▸g4
  clear hW c1 c2 h3 f2
  go_wp2
  go_quiet ((go_at_call 248;exact Calls.quiet_of_same (hPA.out _)))
  go_wp2
  obtain⟨V,hV,v2,vf⟩:=HV.out (W.drewN nq) t false (hB.frm (hFW.drewN nq) (fun h=>h))
  have HVE:=Lib.hid hV
  rw [←hV]
  clear hV
  go_region
  all_goals
   go_wp2
   refine bodyPost_end (results_none rfl _ _ _) rfl ?_
   refine⟨⟨_,rfl⟩,?_⟩
   rw [HVE.out]
   exact hQ.out (W.drewN nq) (hFW.drewN nq)
 ·have t12:((m:Int)==12)=false:=beq_eq_false_iff_ne.2 (by omega)
  simp only [if_neg h12]at hQ
  go_enter Tryz.func226,Tryz.ntmps226
  go_wp2_with fail
  refine(hLA.out _ c1 c2 h3).mono ?_
  rintro e w1 ⟨rfl,q,rfl⟩
  obtain⟨W,hW⟩:∃W,W=w.drewN q:=⟨_,rfl⟩
  have hFW:Frm (fun _=>False) w W:=by rw [hW];exact(Frm.refl _ _).drewN q
  rw [←hW]
  replace c0:W.cell? ⟨fb,0,none⟩=some (.string s):=hW▸c0
  replace p0:W.cell? ⟨pb,o*5,none⟩=some (.int .i64 (m:Int)):=hW▸p0
  replace p2:W.cell? ⟨pb,o*5+2,none⟩=some u2:=hW▸p2
  replace p4:W.cell? ⟨pb,o*5+4,none⟩=some u4:=hW▸p4
  replace g2:W.frozen? ⟨pb,o*5+2,none⟩=false:=hW▸g2
  replace g4:W.frozen? ⟨pb,o*5+4,none⟩=false:=hW▸g4
  clear hW c1 c2 h3 p1 f2
  go_wp2
  obtain⟨V,hV,v2,vf⟩:=HV.out W to op (hB.frm hFW (fun h=>h))
  have HVE:=Lib.hid hV
  rw [←hV]
  clear hV
  go_region
  all_goals
   go_wp2
   refine bodyPost_end (results_none rfl _ _ _) rfl ?_
   refine⟨⟨_,rfl⟩,?_⟩
   rw [HVE.out]
   exact hQ.out W hFW
theorem FdTo.drew {w w':World} {fb:Nat} {s:ByteArray} {pv ov:Value} {L:List Prt} {O:List Nat} (h:FdTo w fb s pv ov L O w'):FdTo w fb s pv ov L O w'.drew:=by
 obtain⟨pv',ov',h1,h2,h3⟩:=h
 exact⟨pv',ov',h1.still ((Frm.refl _ _).drew),h2.drew,h3⟩
theorem end_any (fb:Nat) (s:ByteArray) (pv ov:Value) (L:List Prt) (O:List Nat) (o:Nat) (p:Prt) (to:Nat) (op:Bool) (hF:Fd w fb s pv L ov (O++ [o])) (hp:L[o]?=some p) (hs:s.size≤100000) (hpf:p.frm<s.size) (hO:O.length≤1000000):
  Calls Tryz.prog 226 #[.pointer (some ⟨fb,0,none⟩),.int .i64 (to:Int),.bool op] w fun e w'=>(∃v,e=.returned v)∧FdTo w fb s pv ov (L.set o (closeP s to op p)) O w':=by
 obtain⟨pb,pcap,ob,ocap,rfl,rfl,hc,h3,hfz,hoc,hol,hpc,npf,nof,npo⟩:=hF.last hp
 have hNl:paramN s (p.frm+1)≤100000:=by have:=paramN_le s (p.frm+1) (by omega);omega
 refine end_core w _ fb pb L.length pcap ob (O.length+1) O.length ocap o p.mode p.frm (paramN s (p.frm+1)) (p.frm+1+paramN s (p.frm+1)) to op s (Lib.hid rfl) hO (by omega) hol (by omega) hNl (Lib.hid rfl) (Lib.hid rfl) hs (by simpa using hF.obj) h3 (hc 0 _ rfl) (hc 1 _ rfl) _ _ (hc 2 _ rfl) (hc 4 _ rfl) (hfz _) (hfz _) npf (Lib.hid fun W hW=>?_)
 have:=ended hF rfl hp hW (if p.mode=12 then p.frm+1+paramN s (p.frm+1)else to) (if p.mode=12 then false else op)
 have e:({ p with to:=if p.mode=12 then p.frm+1+paramN s (p.frm+1)else to,op:=if p.mode=12 then false else op }:Prt)=closeP s to op p:=by
  unfold closeP
  split<;>simp [*]
 rw [e]at this
 exact this.drew
def standsB (fl:List Fr) (n f:Nat):Bool:=decide (n≤fl.length∧(fl[n - 1]?.map Prod.snd)=some f)
set_option maxHeartbeats 2000000 in
theorem stands_core (fb pb n pcap ob z k ocap o f b off len fcap:Nat) (hz:Hid (z=k+1)) (hzl:k≤1000000) (ho:o<n) (hlen:len≤1000000)
  (c1:w.cell? ⟨fb,1,none⟩=some (.slice (some ⟨pb,0,none⟩) n pcap)) (c2:w.cell? ⟨fb,2,none⟩=some (.slice (some ⟨ob,0,none⟩) z ocap))
  (h3:w.cell? ⟨ob,k,none⟩=some (.int .i64 (o:Int))) (p1:w.cell? ⟨pb,o*5+1,none⟩=some (.int .i64 (f:Int))) (ao:Option Addr) (x:Bool)
  (hx:(len<z∧x=false)∨(z≤len∧∃g:Nat,ao=some ⟨b,off,none⟩∧w.cell? ⟨b,off+k*2+1,none⟩=some (.int .i64 (g:Int))∧x=decide (g=f))):
  Calls Tryz.prog 244 #[.pointer (some ⟨fb,0,none⟩),.slice ao len fcap] w fun e w'=>e=.returned (.bool x)∧∃q,w'=w.drewN q:=by
 have hz0:=hz.out
 have e1:IntKind.i64.wrap ((z:Int) - 1)=(k:Int):=by rw [IntWalk.i64_in _ (by omega)];omega
 have q0:(0:Int)≤(k:Int):=by omega
 have hLA:=Lib.hid (fun(W:World) c1 c2 c3=>last_any W fb pb n pcap ob z k ocap o hz (by omega) c1 c2 c3 ho)
 rcases hx with⟨hlt,rfl⟩|⟨hle,g,rfl,hg,rfl⟩
 ·have t1:¬(z:Int)≤(len:Int):=by omega
  have t2:decide (z≤len)=false:=by simp;omega
  clear hz0
  go_enter Tryz.func244,Tryz.ntmps244
  go_wp2
  go_quiet (fail)
  go_wp2
  go_ret
  exact⟨rfl,_,rfl⟩
 ·have t1:(z:Int)≤(len:Int):=by omega
  have t2:decide (z≤len)=true:=by simp;omega
  have q1:(k:Int)<(len:Int):=by omega
  clear hz0
  go_enter Tryz.func244,Tryz.ntmps244
  go_wp2
  go_quiet ((go_at_call 246;exact Calls.quiet_of (hLA.out _ c1 c2 h3)))
  go_wp2
  go_ret
  refine⟨ret_bool ?_,_,rfl⟩
  rw [Bool.eq_iff_iff,decide_eq_true_iff]
  simp
  omega
end
end Go.Proofs.YtkolpaonccmgiaaGreatDoor

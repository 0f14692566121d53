/- Rows of nodes and of whole numbers in memory, as t -/
import Derived.RangeFuncNested
import Derived.Shelf.Abstract
import Derived.WalkSpells
import Derived.WalkLawsBesides
import Derived.OwnWalkIn
import Derived.TacticsInMore
import Derived.LoopNIn
import Derived.LoopIn
import Derived.Deep.DeepCutAuto
import Derived.Test.YtkolpaonccmgiaaGreatDoorSb
import Derived.Test.YtkolpaonccmgiaaGreatDoorAp
import Derived.Lib.Bytealg
set_option linter.unusedVariables false
namespace Go.Proofs.YtkolpaonccmgiaaGreatDoor.Q
set_option linter.unusedVariables false
open Go.RowKit
theorem ret_int {k:IntKind} {a b:Int} (h:a=b):Ending.returned (.int k a)=.returned (.int k b):=by rw [h]
theorem ret_bool {a b:Bool} (h:a=b):Ending.returned (.bool a)=.returned (.bool b):=by rw [h]
def RetB (e:Ending) (P:Prop):Prop:=∃b,e=.returned (.bool b)∧(b=true↔P)
theorem RetB.yes {P:Prop} (h:P):RetB (.returned (.bool true)) P:=⟨true,rfl,fun _=>h,fun _=>rfl⟩
theorem RetB.no {P:Prop} (h:¬P):RetB (.returned (.bool false)) P:=⟨false,rfl,fun g=>(by cases g),fun g=>absurd g h⟩
theorem belN {n:Nat} {w w':World} (h:Below n w w') (k:Nat):Below n w (w'.drewN k):=⟨h.os,h.tape,h.output,h.size,h.block⟩
theorem owns_nil {w:World} {base:Nat} {e:TypeId} {size n:Nat} {v:Value} {xs:List Value} (h:w.ownsRow base e size v n xs) (hn:0<n):∃g cap,v=.slice (some ⟨g,0,none⟩) n cap∧base≤g∧n≤cap∧cap≤maxLen∧g<w.heap.size:=by
 rcases h.2 with⟨_,h1⟩|⟨g,cap,cur,hv,h2,h3,h4,h5,_⟩
 ·omega
 ·exact⟨g,cap,hv,h2,h4,h5,(Array.getElem?_eq_some_iff.1 h3).1⟩
theorem owns_base {w:World} {b c:Nat} {e:TypeId} {size n:Nat} {v:Value} {xs:List Value} (h:w.ownsRow b e size v n xs) (hc:∀k,v.ownBlock=some k→c≤k):w.ownsRow c e size v n xs:=by
 refine⟨h.1,?_⟩
 rcases h.2 with h0|⟨g,cap,cur,hv,hb,h5⟩
 ·exact .inl h0
 ·exact .inr ⟨g,cap,cur,hv,hc g (by rw [hv];rfl),h5⟩
theorem owns_pop {w:World} {base:Nat} {e:TypeId} {n m g cap:Nat} {xs ys:List Value} (h:w.ownsRow base e 1 (.slice (some ⟨g,0,none⟩) n cap) n xs) (hm:m≤n) (hy:ys=xs.take m):
  w.ownsRow base e 1 (.slice (some ⟨g,0,none⟩) m cap) m ys:=by
 subst hy
 have h1:=h.1
 refine⟨by rw [List.length_take];omega,.inr ?_⟩
 rcases h.2 with⟨h0,_⟩|⟨g',cap',cur,hv,h2,h3,h4,h5,h6,h7⟩
 ·cases h0
 ·cases hv
  refine⟨g,cap,cur,rfl,h2,h3,by omega,h5,h6,?_⟩
  rw [←h7,List.take_take]
  congr 1
  omega
theorem owns_frozen {w:World} {base:Nat} {e:TypeId} {size n g cap:Nat} {xs:List Value} (h:w.ownsRow base e size (.slice (some ⟨g,0,none⟩) n cap) n xs) (o:Nat):w.frozen? ⟨g,o,none⟩=false:=by
 rcases h.2 with⟨h0,_⟩|⟨g',cap',cur,hv,h2,h3,_⟩
 ·cases h0
 ·cases hv
  exact Blk.frozen (t:=e) h3 o
theorem infoI:(Tryz.prog.info? 3).map (fun i=>(i.zero,i.size,i.bytes))=some (some (.int .i64 0),1,8):=by kernel_rfl
theorem infoN:(Tryz.prog.info? 32).map (fun i=>(i.zero,i.size,i.bytes))=some (some (.agg #[.int .i64 0,.int .i64 0,.int .i64 0,.int .i64 0]),4,32):=by kernel_rfl
def cellsO (l:List Nat):List Value:=l.map fun x:Nat=> .int .i64 (x:Int)
theorem cellsO_append (l k:List Nat):cellsO (l++k)=cellsO l++cellsO k:=by unfold cellsO;rw [List.map_append]
def cellN (p:Nd):List Value:=[.int .i64 p.k,.int .i64 p.f,.int .i64 p.t,.int .i64 p.u]
def cellsN (l:List Nd):List Value:=l.flatMap cellN
theorem cellsN_cons (a:Nd) (l:List Nd):cellsN (a::l)=.int .i64 a.k::.int .i64 a.f::.int .i64 a.t::.int .i64 a.u::cellsN l:=by
 unfold cellsN;rw [List.flatMap_cons];rfl
theorem cellsN_length (l:List Nd):(cellsN l).length=l.length*4:=by
 induction l with
 |nil=>rfl
 |cons a l ih=>rw [cellsN_cons];simp only [List.length_cons,ih];omega
theorem cellsN_append (l k:List Nd):cellsN (l++k)=cellsN l++cellsN k:=by unfold cellsN;rw [List.flatMap_append]
theorem cellsN_at:∀{l:List Nd} {j:Nat} {p:Nd},l[j]?=some p→∀c v,(cellN p)[c]?=some v→(cellsN l)[j*4+c]?=some v
 | [],j,p,h,c,v,hv=>by simp at h
 |a::l,0,p,h,c,v,hv=>by
  simp at h
  subst h
  have hc:c<(cellN a).length:=(List.getElem?_eq_some_iff.1 hv).1
  show(cellsN (a::l))[0*4+c]?=_
  rw [Nat.zero_mul,Nat.zero_add]
  unfold cellsN
  rw [List.flatMap_cons,List.getElem?_append_left hc]
  exact hv
 |a::l,j+1,p,h,c,v,hv=>by
  have h':l[j]?=some p:=by simpa using h
  have ih:=cellsN_at h' c v hv
  rw [cellsN_cons,show(j+1)*4+c=j*4+c+1+1+1+1 by omega]
  simpa using ih
theorem cellsN_set:∀{l:List Nd} {j c:Nat} {p q:Nd} {v:Value},l[j]?=some p→cellN q=(cellN p).set c v→c<4→cellsN (l.set j q)=(cellsN l).set (j*4+c) v
 | [],j,c,p,q,v,h,_,_=>by simp at h
 |a::l,0,c,p,q,v,h,hs,hc=>by
  simp at h
  subst h
  rw [List.set_cons_zero,Nat.zero_mul,Nat.zero_add]
  unfold cellsN
  rw [List.flatMap_cons,List.flatMap_cons,hs,List.set_append_left _ _ (by simpa [cellN]using hc)]
 |a::l,j+1,c,p,q,v,h,hs,hc=>by
  have h':l[j]?=some p:=by simpa using h
  have ih:=cellsN_set h' hs hc
  rw [List.set_cons_succ,cellsN_cons,cellsN_cons,ih,show(j+1)*4+c=j*4+c+1+1+1+1 by omega]
  rfl
def NRow (w:World) (ao:Option Addr) (len:Nat) (nv:Nat→Nd):Prop:=
 ∀i,i<len→∃b off,ao=some ⟨b,off,none⟩∧b<w.heap.size∧w.cell? ⟨b,off+i*4,none⟩=some (.int .i64 (nv i).k)∧w.cell? ⟨b,off+i*4+1,none⟩=some (.int .i64 (nv i).f)∧w.cell? ⟨b,off+i*4+2,none⟩=some (.int .i64 (nv i).t)∧w.cell? ⟨b,off+i*4+3,none⟩=some (.int .i64 (nv i).u)
theorem NRow.kept {w w':World} {ao:Option Addr} {len:Nat} {nv:Nat→Nd} (h:NRow w ao len nv) (hs:w.heap.size≤w'.heap.size) (hc:∀b off,ao=some ⟨b,off,none⟩→b<w.heap.size→w'.heap[b]?=w.heap[b]?):NRow w' ao len nv:=fun i hi=>by
 obtain⟨b,off,h1,h2,c0,c1,c2,c3⟩:=h i hi
 have hcc:∀o,w'.cell? ⟨b,o,none⟩=w.cell? ⟨b,o,none⟩:=fun o=>World.cell?_of_block (hc b off h1 h2)
 exact⟨b,off,h1,Nat.lt_of_lt_of_le h2 hs,(hcc _).trans c0,(hcc _).trans c1,(hcc _).trans c2,(hcc _).trans c3⟩
theorem NRow.below {w w':World} {ao:Option Addr} {len:Nat} {nv:Nat→Nd} (h:NRow w ao len nv) (hb:Below w.heap.size w w'):NRow w' ao len nv:=h.kept hb.size (fun b off _ h2=>hb.block b h2)
theorem NRow.frm {w w':World} {p:Nat→Prop} {ao:Option Addr} {len:Nat} {nv:Nat→Nd} (h:NRow w ao len nv) (hb:Frm p w w') (hp:∀b off,ao=some ⟨b,off,none⟩→¬p b):NRow w' ao len nv:=h.kept hb.size (fun b off h1 h2=>hb.block b h2 (hp b off h1))
theorem NRow.congr {w:World} {ao:Option Addr} {len:Nat} {nv mv:Nat→Nd} (h:NRow w ao len nv) (he:∀i,i<len→nv i=mv i):NRow w ao len mv:=fun i hi=>by rw [←he i hi];exact h i hi
def nl (L:List Nd) (i:Nat):Nd:=L[i]?.getD ⟨0,0,0,0⟩
theorem nl_at {L:List Nd} {i:Nat} {x:Nd} (h:L[i]?=some x):nl L i=x:=by unfold nl;rw [h];rfl
theorem owns_slice' {w:World} {base:Nat} {e:TypeId} {size n:Nat} {v:Value} {xs:List Value} (h:w.ownsRow base e size v n xs):∃a c,v=.slice a n c:=own_slice h
theorem owns_nrow {w:World} {base n:Nat} {oa:Option Addr} {oc:Nat} {L:List Nd} (h:w.ownsRow base 32 4 (.slice oa n oc) n (cellsN L)):n=L.length∧NRow w oa n (nl L):=by
 have hn:n=L.length:=by have:=h.1;rw [cellsN_length]at this;omega
 refine⟨hn,fun i hi=>?_⟩
 obtain⟨ob,ocap,hov,_,_,_,hlt⟩:=owns_nil h (by omega)
 obtain⟨rfl,rfl⟩:oa=some ⟨ob,0,none⟩∧oc=ocap:=by simpa using hov
 obtain⟨x,hx⟩:∃x,L[i]?=some x:=⟨L[i]'(by omega),List.getElem?_eq_getElem (by omega)⟩
 have hc:∀c v,(cellN x)[c]?=some v→w.cell? ⟨ob,i*4+c,none⟩=some v:=fun c v hv=>by
  have:=h.cells (g:=ob) rfl (i*4+c) v (cellsN_at hx c v hv)
  rwa [Addr.add_lit,Nat.zero_add]at this
 rw [nl_at hx]
 refine⟨ob,0,rfl,hlt,?_,?_,?_,?_⟩
 ·simpa using hc 0 _ rfl
 ·simpa using hc 1 _ rfl
 ·simpa using hc 2 _ rfl
 ·simpa using hc 3 _ rfl
structure RdO (w:World) (oa:Option Addr) (n:Nat) (L:List Nat):Prop where
 len:n=L.length
 cells:∀(i x:Nat),L[i]?=some x→∃ob,oa=some ⟨ob,0,none⟩∧ob<w.heap.size∧w.cell? ⟨ob,i,none⟩=some (.int .i64 (x:Int))
theorem RdO.below {w w':World} {oa:Option Addr} {n:Nat} {L:List Nat} (h:RdO w oa n L) (hb:Below w.heap.size w w'):RdO w' oa n L:=
 ⟨h.len,fun i p hp=>by
  obtain⟨ob,h1,h2,h3⟩:=h.cells i p hp
  exact⟨ob,h1,Nat.lt_of_lt_of_le h2 hb.size,(hb.cell (p:=⟨ob,i,none⟩) h2).trans h3⟩⟩
set_option maxRecDepth 100000 in
theorem sindex_any (s:ByteArray) (c:Int) (w:World):
  Calls Tryz.prog 107 #[.string s,.int .u8 c] w fun e w'=>e=.returned (.int .i64 (Lib.indexByte s.data.toList c.toNat.toUInt8))∧w'=w:=by
 go_enter Tryz.func107,Tryz.ntmps107
 go_wp2
 rw [run_callFunc_extern Tryz.func129 (by kernel_rfl) (by kernel_rfl) (by kernel_rfl) (e:=Extern.BytealgIndexByte.indexByte) (by kernel_rfl),Lib.run_indexByteString]
 simp only [Result.andThen]
 rw [Oper.upon_value]
 go_wp2
 go_ret
 exact⟨rfl,rfl⟩
theorem index_any (s:ByteArray) (c:Int) (w:World):
  Calls Tryz.prog 78 #[.string s,.int .u8 c] w fun e w'=>e=.returned (.int .i64 (Lib.indexByte s.data.toList c.toNat.toUInt8))∧w'=w:=by
 go_enter Tryz.func78,Tryz.ntmps78
 go_wp2_with (go_at_call 107;refine(sindex_any _ _ _).mono ?_;rintro e w' ⟨rfl,rfl⟩)
 go_ret
 exact⟨rfl,rfl⟩
end Go.Proofs.YtkolpaonccmgiaaGreatDoor.Q

/- A row of pieces in memory; what the document's own -/
import Derived.Test.YtkolpaonccmgiaaGreatDoorQh
import Derived.Test.YtkolpaonccmgiaaGreatDoorAp
set_option linter.unusedVariables false
namespace Go.Proofs.YtkolpaonccmgiaaGreatDoor
set_option linter.unusedVariables false
open Go.RowKit
def cellsC (L:List Pc):List Value:=L.flatMap cellC
theorem cellsC_cons (a:Pc) (l:List Pc):cellsC (a::l)=.bool a.ex::.bool a.q::.string a.t::cellsC l:=by
 unfold cellsC;rw [List.flatMap_cons];rfl
theorem cellsC_at:∀{l:List Pc} {j:Nat} {p:Pc},l[j]?=some p→∀c v,(cellC p)[c]?=some v→(cellsC l)[j*3+c]?=some v
 | [],j,p,h,c,v,hv=>by simp at h
 |a::l,0,p,h,c,v,hv=>by
  simp at h
  subst h
  have hc:c<(cellC a).length:=(List.getElem?_eq_some_iff.1 hv).1
  show(cellsC (a::l))[0*3+c]?=_
  rw [Nat.zero_mul,Nat.zero_add]
  unfold cellsC
  rw [List.flatMap_cons,List.getElem?_append_left hc]
  exact hv
 |a::l,j+1,p,h,c,v,hv=>by
  have h':l[j]?=some p:=by simpa using h
  have ih:=cellsC_at h' c v hv
  have e:(j+1)*3+c=j*3+c+3:=by omega
  rw [e,cellsC_cons]
  simpa using ih
def PcS (w:World) (base:Nat) (v:Value) (L:List Pc):Prop:=w.ownsRow base 119 3 v L.length (cellsC L)
theorem PcS.below {w w':World} {base:Nat} {v:Value} {L:List Pc} (h:PcS w base v L) (hb:Below w.heap.size w w'):PcS w' base v L:=own_below h hb
structure RdC (w:World) (oa:Option Addr) (n:Nat) (L:List Pc):Prop where
 len:n=L.length
 cells:∀i p,L[i]?=some p→∃ob,oa=some ⟨ob,0,none⟩∧ob<w.heap.size∧w.cell? ⟨ob,i*3,none⟩=some (.bool p.ex)∧w.cell? ⟨ob,i*3+1,none⟩=some (.bool p.q)∧w.cell? ⟨ob,i*3+2,none⟩=some (.string p.t)
theorem RdC.below {w w':World} {oa:Option Addr} {n:Nat} {L:List Pc} (h:RdC w oa n L) (hb:Below w.heap.size w w'):RdC w' oa n L:=
 ⟨h.len,fun i p hp=>by
  obtain⟨ob,h1,h2,h3,h4,h5⟩:=h.cells i p hp
  exact⟨ob,h1,Nat.lt_of_lt_of_le h2 hb.size,(hb.cell (p:=⟨ob,_,none⟩) h2).trans h3,(hb.cell (p:=⟨ob,_,none⟩) h2).trans h4,(hb.cell (p:=⟨ob,_,none⟩) h2).trans h5⟩⟩
theorem PcS.read {w:World} {base:Nat} {v:Value} {L:List Pc} (h:PcS w base v L):∃oa n oc,v=.slice oa n oc∧RdC w oa n L:=by
 have h':w.ownsRow base 119 3 v L.length (cellsC L):=h
 obtain⟨oa,oc,rfl⟩:=owns_slice h'
 refine⟨oa,_,oc,rfl,rfl,fun i p hp=>?_⟩
 have hl:i<L.length:=(List.getElem?_eq_some_iff.1 hp).1
 obtain⟨ob,ocap,hov,_,_,_,hlt⟩:=owns_nil h' (by omega)
 obtain⟨rfl,rfl⟩:oa=some ⟨ob,0,none⟩∧oc=ocap:=by simpa using hov
 have hc:=fun c u (hu:(cellC p)[c]?=some u)=>by
  have:=h'.cells (g:=ob) rfl (i*3+c) u (cellsC_at hp c u hu)
  rw [Addr.add_lit,Nat.zero_add]at this
  exact this
 exact⟨ob,rfl,hlt,hc 0 _ rfl,hc 1 _ rfl,hc 2 _ rfl⟩
theorem own_drew {w:World} {base:Nat} {e:TypeId} {k n:Nat} {v:Value} {xs:List Value} (h:w.ownsRow base e k v n xs):w.drew.ownsRow base e k v n xs:=own_below h ((Below.refl _ w).drew)
theorem own_lower {w:World} {base b:Nat} {e:TypeId} {k n:Nat} {v:Value} {xs:List Value} (h:w.ownsRow base e k v n xs) (hb:b≤base):w.ownsRow b e k v n xs:=by
 refine⟨h.1,?_⟩
 rcases h.2 with h|⟨g,cap,cur,h1,h2,h3⟩
 ·exact .inl h
 ·exact .inr ⟨g,cap,cur,h1,by omega,h3⟩
end Go.Proofs.YtkolpaonccmgiaaGreatDoor

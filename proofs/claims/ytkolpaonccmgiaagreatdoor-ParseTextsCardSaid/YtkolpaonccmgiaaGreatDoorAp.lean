/- A row appended to a row of the call's own, whateve -/
import Derived.Test.YtkolpaonccmgiaaGreatDoorQa
import Derived.Maps.AppendAt
import Derived.Deep.RegionLaw
namespace Go.Proofs.YtkolpaonccmgiaaGreatDoor
set_option linter.unusedVariables false
open Go.Proofs.Tryz
open Go.RowKit
def Src(w:World)(v:Value)(m:Nat)(news:List Value):Prop:=
 (v=.slice none 0 0/\m=0/\news=[])\/∃b off c,v=.slice (some ⟨b,off,none⟩) m c/\b<w.heap.size/\∀j u,news[j]?=some u->w.cell? ⟨b,off+j,none⟩=some u
theorem Src.Y2{w:World}{base:Nat}{e:TypeId}{k n:Nat}{v:Value}{xs:List Value}(h:w.ownsRow base e k v n xs):Src w v n xs:=by
 rcases h.2 with⟨h1,h2⟩|⟨g,cap,cur,h1,h2,h3,h4,h5,h6,h7⟩
 ·subst h2
  have:=h.1;exact .inl ⟨h1,rfl,List.eq_nil_of_length_eq_zero (by omega)⟩
 ·refine .inr ⟨g,0,cap,h1,(Array.getElem?_eq_some_iff.1 h3).1,λj u hj=>?_⟩
  have:=h.cells (g:=g) (by rw[h1];rfl) j u hj
  rwa [Addr.add_lit]at this
theorem Src.zh{p:Nat->Prop}{w w':World}{v:Value}{m:Nat}{xs:List Value}(h:Src w v m xs)(hf:zg p w w')(hp:∀k,v.ownBlock=some k->¬p k):Src w' v m xs:=by
 rcases h with h|⟨b,off,c,h1,h2,h3⟩
 ·exact .inl h
 ·exact .inr ⟨b,off,c,h1,Nat.lt_of_lt_of_le h2 hf.size,λj u hj=>(hf.cell h2 (hp b (by rw[h1];rfl))).trans (h3 j u hj)⟩
theorem Src.below{w w':World}{v:Value}{m:Nat}{xs:List Value}(h:Src w v m xs)(hb:Below w.heap.size w w'):Src w' v m xs:=h.zh (zg.of_below (p:=λ_=>False) hb) (λ_ _ h=>h)
theorem Src.take{w:World}{oa:Option Addr}{m c k m':Nat}{xs:List Value}(h:Src w (.slice oa m c) m xs)(hk:m'<=m)(h0:0<m):Src w (.slice oa m' c) m' (xs.take (m'*k)):=by
 rcases h with⟨h,h2,_⟩|⟨b,off,c',h1,h2,h3⟩
 ·omega
 ·cases h1
  refine .inr ⟨b,off,c,rfl,h2,λj u hj=>h3 j u ?_⟩;rw[List.getElem?_take]at hj;split at hj
  ·exact hj
  ·cases hj
theorem KX{w:World}{base:Nat}{e:TypeId}{k n:Nat}{v:Value}{xs:List Value}(h:w.ownsRow base e k v n xs):∃oa oc,v=.slice oa n oc:=by
 rcases h.2 with⟨h1,h2⟩|⟨g,cap,cur,h1,_⟩
 ·subst h2;exact⟨none,0,h1⟩
 ·exact⟨_,_,h1⟩
theorem zdI(w:World)(t e ty:TypeId)(i:TypeInfo)(hu:prog.underlying t=some (.slice e))(hi:prog.info? e=some i){base k n:Nat}{v:Value}{xs:List Value}(h:w.ownsRow base e k v n xs):
  (Builtin.append_ #[t,t] ty #[v,.slice none 0 0]).run prog w=.ok v w:=by
 rcases h.2 with⟨h1,h2⟩|⟨g,cap,cur,h1,h2,h3,h4,h5,h6,h7⟩
 ·subst h1
  simp[Builtin.append_,run_underlying hu,sizeOf,typeInfo,hi,Builtin.lenOf,Builtin.firstCells]
 ·subst h1
  simp[Builtin.append_,run_underlying hu,sizeOf,typeInfo,hi,Builtin.lenOf,h4,Builtin.firstCells,loadCells,storeCells]
theorem OA(w:World)(t e ty:TypeId)(k bytes:Nat)(z:Value)(hu:prog.underlying t=some (.slice e))(hinfo:(prog.info? e).map (λi=>(i.zero,i.size,i.bytes))=some (some z,k,bytes))(X9:z.cells.size=k)(hk:0<k)(hby:bytes<=1000)
 (base:Nat)(v0:Value)(n0:Nat)(yI:List Value)(hown:w.ownsRow base e k v0 n0 yI)(v1:Value)(m:Nat)(news:List Value)(hsrc:Src w v1 m news)(hlen:news.length=m*k)(h1:∀u∈news,u.oneCell'=true)(hl:n0+m<=1000000)(hbase:base<=w.heap.size)(nn:Nat)(hnn:n0+m=nn):
  ∃oa c w',(Builtin.append_ #[t,t] ty #[v0,v1]).run prog w=.ok (.slice oa nn c) w'/\w'.ownsRow base e k (.slice oa nn c) nn (yI++news)/\w.grownBy w' v0.ownBlock/\((Value.slice oa nn c).ownBlock=v0.ownBlock\/(Value.slice oa nn c).ownBlock=some w.heap.size):=by
 obtain⟨i,hi,hz,hsize,zdJ⟩:=info_parts hinfo;subst hnn;rcases hsrc with⟨rfl,rfl,rfl⟩|⟨b,off,c,rfl,hb,hc⟩
 ·obtain⟨oa,oc,rfl⟩:=KX hown
  exact⟨oa,oc,w,zdI w t e ty i hu hi hown,by simpa using hown,⟨rfl,rfl,rfl,Nat.le_refl _,λ_ _ _=>rfl⟩,.inl rfl⟩
 ·have hmb:(n0+m)*bytes<=1000000*1000:=Nat.mul_le_mul hl hby
  obtain⟨v',w',hr',h2,h3,_,h5⟩:=run_append_own_at (P:=prog) w base t ty e i z k bytes hu hi hz hsize zdJ X9 hk v0 n0 yI hown ⟨b,off,none⟩ m c news hlen (λj u hj=>by rw[Addr.add_lit];exact hc j u hj) h1 (by unfold maxLen;omega) (by omega) hbase;obtain⟨oa,oc,rfl⟩:=KX h2;exact⟨oa,oc,w',hr',h2,h3,h5⟩
theorem IQ{o:Oper}{a:Act}{w:World}{K:Act->World->Prop}{Q:Exit->Act->World->Prop}(s x:Operand)(t e:TypeId)(k bytes:Nat)(z:Value)
 (ho:o.op=.call {callee:=.builtin .append,args:=#[s,x],argTypes:=#[t,t]})
 (hu:prog.underlying t=some (.slice e))(hinfo:(prog.info? e).map (λi=>(i.zero,i.size,i.bytes))=some (some z,k,bytes))(X9:z.cells.size=k)(hk:0<k)(hby:bytes<=1000)
 (base:Nat)(v0:Value)(n0:Nat)(yI:List Value)(hs:a.eval s=v0)(hown:w.ownsRow base e k v0 n0 yI)(v1:Value)(m:Nat)(news:List Value)(hx:a.eval x=v1)(hsrc:Src w v1 m news)(hlen:news.length=m*k)(h1:∀u∈news,u.oneCell'=true)(hl:n0+m<=1000000)(hbase:base<=w.heap.size)(nn:Nat)(hnn:n0+m=nn)
 (h:∀oa c w',w'.ownsRow base e k (.slice oa nn c) nn (yI++news)->w.grownBy w' v0.ownBlock->((Value.slice oa nn c).ownBlock=v0.ownBlock\/(Value.slice oa nn c).ownBlock=some w.heap.size)->K (a.put o.dst (.slice oa nn c)) w'):o.wp prog a w K Q:=by
 obtain⟨oa,c,w',hr',h2,h3,h4⟩:=OA w t e o.type k bytes z hu hinfo X9 hk hby base v0 n0 yI hown v1 m news hsrc hlen h1 hl hbase nn hnn;unfold Oper.wp execOp;simp only[ho,resolve,invoke,builtin,Sem.run_bind,Sem.run_pure,Result.andThen_ok,List.map_toArray,List.map_cons,List.map_nil,hs,hx,hr'];exact h oa c w' h2 h3 h4
theorem QE{ops:Array Oper}{o:Oper}{a:Act}{w:World}{K:Act->World->Prop}{Q:Exit->Act->World->Prop}{E:Prop}(hgd:o.guard=none)(s x:Operand)(t e:TypeId)(k bytes:Nat)(z:Value)
 (ho:o.op=.call {callee:=.builtin .append,args:=#[s,x],argTypes:=#[t,t]})
 (hu:prog.underlying t=some (.slice e))(hinfo:(prog.info? e).map (λi=>(i.zero,i.size,i.bytes))=some (some z,k,bytes))(X9:z.cells.size=k)(hk:0<k)(hby:bytes<=1000)
 (base:Nat)(v0:Value)(n0:Nat)(yI:List Value)(hs:a.eval s=v0)(hown:w.ownsRow base e k v0 n0 yI)(v1:Value)(m:Nat)(news:List Value)(hx:a.eval x=v1)(hsrc:Src w v1 m news)(hlen:news.length=m*k)(h1:∀u∈news,u.oneCell'=true)(hl:n0+m<=1000000)(hbase:base<=w.heap.size)(nn:Nat)(hnn:n0+m=nn)
 (h:∀oa c w',w'.ownsRow base e k (.slice oa nn c) nn (yI++news)->w.grownBy w' v0.ownBlock->((Value.slice oa nn c).ownBlock=v0.ownBlock\/(Value.slice oa nn c).ownBlock=some w.heap.size)->K (a.put o.dst (.slice oa nn c)) w'):
  if Region.wanted o (yielded ops a.tmps)=true then Oper.wp prog o a w K Q else E:=by
 have hw:Region.wanted o (yielded ops a.tmps)=true:=by simp[Region.wanted,hgd]
 rw[if_pos hw];exact IQ s x t e k bytes z ho hu hinfo X9 hk hby base v0 n0 yI hs hown v1 m news hx hsrc hlen h1 hl hbase nn hnn h
theorem Zq{ops:Array Oper}{rest:List Oper}{o:Oper}{a:Act}{w:World}{Q:Exit->Act->World->Prop}(hgd:o.guard=none)(s x:Operand)(t e:TypeId)(k bytes:Nat)(z:Value)
 (ho:o.op=.call {callee:=.builtin .append,args:=#[s,x],argTypes:=#[t,t]})
 (hu:prog.underlying t=some (.slice e))(hinfo:(prog.info? e).map (λi=>(i.zero,i.size,i.bytes))=some (some z,k,bytes))(X9:z.cells.size=k)(hk:0<k)(hby:bytes<=1000)
 (base:Nat)(v0:Value)(n0:Nat)(yI:List Value)(hs:a.eval s=v0)(hown:w.ownsRow base e k v0 n0 yI)(v1:Value)(m:Nat)(news:List Value)(hx:a.eval x=v1)(hsrc:Src w v1 m news)(hlen:news.length=m*k)(h1:∀u∈news,u.oneCell'=true)(hl:n0+m<=1000000)(hbase:base<=w.heap.size)(nn:Nat)(hnn:n0+m=nn)
 (h:∀oa c w',w'.ownsRow base e k (.slice oa nn c) nn (yI++news)->w.grownBy w' v0.ownBlock->((Value.slice oa nn c).ownBlock=v0.ownBlock\/(Value.slice oa nn c).ownBlock=some w.heap.size)->wpList prog ops Q rest (a.put o.dst (.slice oa nn c)) w'):wpList prog ops Q (o::rest) a w:=
 wpList_plain hgd λ_ hK=>IQ s x t e k bytes z ho hu hinfo X9 hk hby base v0 n0 yI hs hown v1 m news hx hsrc hlen h1 hl hbase nn hnn λoa c w' h2 h3 h4=>hK _ _ (h oa c w' h2 h3 h4)
end Go.Proofs.YtkolpaonccmgiaaGreatDoor

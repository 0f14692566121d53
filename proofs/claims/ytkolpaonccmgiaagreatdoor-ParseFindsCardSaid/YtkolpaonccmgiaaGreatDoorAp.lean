/- A row appended to a row of the call's own, whateve -/
import Derived.Test.YtkolpaonccmgiaaGreatDoorQa
import Derived.Maps.AppendAt
import Derived.Deep.RegionLaw
set_option linter.unusedVariables false
namespace Go.Proofs.YtkolpaonccmgiaaGreatDoor
set_option linter.unusedVariables false
open Go.RowKit
def Src (w:World) (v:Value) (m:Nat) (news:List Value):Prop:=
 (v=.slice none 0 0∧m=0∧news=[])∨∃b off c,v=.slice (some ⟨b,off,none⟩) m c∧b<w.heap.size∧∀j u,news[j]?=some u→w.cell? ⟨b,off+j,none⟩=some u
theorem Src.of_own {w:World} {base:Nat} {e:TypeId} {k n:Nat} {v:Value} {xs:List Value} (h:w.ownsRow base e k v n xs):Src w v n xs:=by
 rcases h.2 with⟨h1,h2⟩|⟨g,cap,cur,h1,h2,h3,h4,h5,h6,h7⟩
 ·subst h2
  have:=h.1
  exact .inl ⟨h1,rfl,List.eq_nil_of_length_eq_zero (by omega)⟩
 ·refine .inr ⟨g,0,cap,h1,(Array.getElem?_eq_some_iff.1 h3).1,fun j u hj=>?_⟩
  have:=h.cells (g:=g) (by rw [h1];rfl) j u hj
  rwa [Addr.add_lit]at this
theorem Src.frm {p:Nat→Prop} {w w':World} {v:Value} {m:Nat} {xs:List Value} (h:Src w v m xs) (hf:Frm p w w') (hp:∀k,v.ownBlock=some k→¬p k):Src w' v m xs:=by
 rcases h with h|⟨b,off,c,h1,h2,h3⟩
 ·exact .inl h
 ·exact .inr ⟨b,off,c,h1,Nat.lt_of_lt_of_le h2 hf.size,fun j u hj=>(hf.cell h2 (hp b (by rw [h1];rfl))).trans (h3 j u hj)⟩
theorem Src.below {w w':World} {v:Value} {m:Nat} {xs:List Value} (h:Src w v m xs) (hb:Below w.heap.size w w'):Src w' v m xs:=h.frm (Frm.of_below (p:=fun _=>False) hb) (fun _ _ h=>h)
theorem Src.take {w:World} {oa:Option Addr} {m c k m':Nat} {xs:List Value} (h:Src w (.slice oa m c) m xs) (hk:m'≤m) (h0:0<m):Src w (.slice oa m' c) m' (xs.take (m'*k)):=by
 rcases h with⟨h,h2,_⟩|⟨b,off,c',h1,h2,h3⟩
 ·omega
 ·cases h1
  refine .inr ⟨b,off,c,rfl,h2,fun j u hj=>h3 j u ?_⟩
  rw [List.getElem?_take]at hj
  split at hj
  ·exact hj
  ·cases hj
theorem own_slice {w:World} {base:Nat} {e:TypeId} {k n:Nat} {v:Value} {xs:List Value} (h:w.ownsRow base e k v n xs):∃oa oc,v=.slice oa n oc:=by
 rcases h.2 with⟨h1,h2⟩|⟨g,cap,cur,h1,_⟩
 ·subst h2;exact⟨none,0,h1⟩
 ·exact⟨_,_,h1⟩
theorem run_append_nilsrc (w:World) (t e ty:TypeId) (i:TypeInfo) (hu:Tryz.prog.underlying t=some (.slice e)) (hi:Tryz.prog.info? e=some i) {base k n:Nat} {v:Value} {xs:List Value} (h:w.ownsRow base e k v n xs):
  (Builtin.append_ #[t,t] ty #[v,.slice none 0 0]).run Tryz.prog w=.ok v w:=by
 rcases h.2 with⟨h1,h2⟩|⟨g,cap,cur,h1,h2,h3,h4,h5,h6,h7⟩
 ·subst h1
  simp [Builtin.append_,run_underlying hu,sizeOf,typeInfo,hi,Builtin.lenOf,Builtin.firstCells]
 ·subst h1
  simp [Builtin.append_,run_underlying hu,sizeOf,typeInfo,hi,Builtin.lenOf,h4,Builtin.firstCells,loadCells,storeCells]
theorem run_app_gen (w:World) (t e ty:TypeId) (k bytes:Nat) (z:Value) (hu:Tryz.prog.underlying t=some (.slice e)) (hinfo:(Tryz.prog.info? e).map (fun i=>(i.zero,i.size,i.bytes))=some (some z,k,bytes)) (hzk:z.cells.size=k) (hk:0<k) (hby:bytes≤1000)
  (base:Nat) (v0:Value) (n0:Nat) (xs0:List Value) (hown:w.ownsRow base e k v0 n0 xs0) (v1:Value) (m:Nat) (news:List Value) (hsrc:Src w v1 m news) (hlen:news.length=m*k) (h1:∀u∈news,u.oneCell'=true) (hl:n0+m≤1000000) (hbase:base≤w.heap.size) (nn:Nat) (hnn:n0+m=nn):
  ∃oa c w',(Builtin.append_ #[t,t] ty #[v0,v1]).run Tryz.prog w=.ok (.slice oa nn c) w'∧w'.ownsRow base e k (.slice oa nn c) nn (xs0++news)∧w.grownBy w' v0.ownBlock∧((Value.slice oa nn c).ownBlock=v0.ownBlock∨(Value.slice oa nn c).ownBlock=some w.heap.size):=by
 obtain⟨i,hi,hz,hsize,hbyt⟩:=info_parts hinfo
 subst hnn
 rcases hsrc with⟨rfl,rfl,rfl⟩|⟨b,off,c,rfl,hb,hc⟩
 ·obtain⟨oa,oc,rfl⟩:=own_slice hown
  exact⟨oa,oc,w,run_append_nilsrc w t e ty i hu hi hown,by simpa using hown,⟨rfl,rfl,rfl,Nat.le_refl _,fun _ _ _=>rfl⟩,.inl rfl⟩
 ·have hmb:(n0+m)*bytes≤1000000*1000:=Nat.mul_le_mul hl hby
  obtain⟨v',w',hr',h2,h3,_,h5⟩:=run_append_own_at (P:=Tryz.prog) w base t ty e i z k bytes hu hi hz hsize hbyt hzk hk v0 n0 xs0 hown ⟨b,off,none⟩ m c news hlen (fun j u hj=>by rw [Addr.add_lit];exact hc j u hj) h1 (by unfold maxLen;omega) (by omega) hbase
  obtain⟨oa,oc,rfl⟩:=own_slice h2
  exact⟨oa,oc,w',hr',h2,h3,h5⟩
theorem wp_app_gen {o:Oper} {a:Act} {w:World} {K:Act→World→Prop} {Q:Exit→Act→World→Prop} (s x:Operand) (t e:TypeId) (k bytes:Nat) (z:Value)
  (ho:o.op=.call { callee:=.builtin .append,args:=#[s,x],argTypes:=#[t,t] })
  (hu:Tryz.prog.underlying t=some (.slice e)) (hinfo:(Tryz.prog.info? e).map (fun i=>(i.zero,i.size,i.bytes))=some (some z,k,bytes)) (hzk:z.cells.size=k) (hk:0<k) (hby:bytes≤1000)
  (base:Nat) (v0:Value) (n0:Nat) (xs0:List Value) (hs:a.eval s=v0) (hown:w.ownsRow base e k v0 n0 xs0) (v1:Value) (m:Nat) (news:List Value) (hx:a.eval x=v1) (hsrc:Src w v1 m news) (hlen:news.length=m*k) (h1:∀u∈news,u.oneCell'=true) (hl:n0+m≤1000000) (hbase:base≤w.heap.size) (nn:Nat) (hnn:n0+m=nn)
  (h:∀oa c w',w'.ownsRow base e k (.slice oa nn c) nn (xs0++news)→w.grownBy w' v0.ownBlock→((Value.slice oa nn c).ownBlock=v0.ownBlock∨(Value.slice oa nn c).ownBlock=some w.heap.size)→K (a.put o.dst (.slice oa nn c)) w'):o.wp Tryz.prog a w K Q:=by
 obtain⟨oa,c,w',hr',h2,h3,h4⟩:=run_app_gen w t e o.type k bytes z hu hinfo hzk hk hby base v0 n0 xs0 hown v1 m news hsrc hlen h1 hl hbase nn hnn
 unfold Oper.wp execOp
 simp only [ho,resolve,invoke,builtin,Sem.run_bind,Sem.run_pure,Result.andThen_ok,List.map_toArray,List.map_cons,List.map_nil,hs,hx,hr']
 exact h oa c w' h2 h3 h4
theorem step_app_gen {ops:Array Oper} {o:Oper} {a:Act} {w:World} {K:Act→World→Prop} {Q:Exit→Act→World→Prop} {E:Prop} (hgd:o.guard=none) (s x:Operand) (t e:TypeId) (k bytes:Nat) (z:Value)
  (ho:o.op=.call { callee:=.builtin .append,args:=#[s,x],argTypes:=#[t,t] })
  (hu:Tryz.prog.underlying t=some (.slice e)) (hinfo:(Tryz.prog.info? e).map (fun i=>(i.zero,i.size,i.bytes))=some (some z,k,bytes)) (hzk:z.cells.size=k) (hk:0<k) (hby:bytes≤1000)
  (base:Nat) (v0:Value) (n0:Nat) (xs0:List Value) (hs:a.eval s=v0) (hown:w.ownsRow base e k v0 n0 xs0) (v1:Value) (m:Nat) (news:List Value) (hx:a.eval x=v1) (hsrc:Src w v1 m news) (hlen:news.length=m*k) (h1:∀u∈news,u.oneCell'=true) (hl:n0+m≤1000000) (hbase:base≤w.heap.size) (nn:Nat) (hnn:n0+m=nn)
  (h:∀oa c w',w'.ownsRow base e k (.slice oa nn c) nn (xs0++news)→w.grownBy w' v0.ownBlock→((Value.slice oa nn c).ownBlock=v0.ownBlock∨(Value.slice oa nn c).ownBlock=some w.heap.size)→K (a.put o.dst (.slice oa nn c)) w'):
  if Region.wanted o (yielded ops a.tmps)=true then Oper.wp Tryz.prog o a w K Q else E:=by
 have hw:Region.wanted o (yielded ops a.tmps)=true:=by simp [Region.wanted,hgd]
 rw [if_pos hw]
 exact wp_app_gen s x t e k bytes z ho hu hinfo hzk hk hby base v0 n0 xs0 hs hown v1 m news hx hsrc hlen h1 hl hbase nn hnn h
end Go.Proofs.YtkolpaonccmgiaaGreatDoor

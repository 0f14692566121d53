/- Rows of nodes and of leaves read as data: their ce -/
import Derived.Test.YtkolpaonccmgiaaGreatDoorSv
import Derived.Deep.Slices
import Derived.ShutString
set_option linter.unusedVariables false
namespace Go.Proofs.YtkolpaonccmgiaaGreatDoor.Q
set_option linter.unusedSectionVars false
set_option linter.unusedVariables false
open Go Go.RowKit
set_option maxRecDepth 100000
section
variable {H:Type} {enc:TypeId×Value→H} {w:World} {base:Nat} {spare:Nat→Bool} {held:Bool}
theorem node_cells {n:Nat} {cs:List Value} {x:DataW H×List MemPlace} (h:DataW.trod enc Tryz.prog w base spare held n 32 cs=some x):
  ∃p:Nd,cs=[.int .i64 p.k,.int .i64 p.f,.int .i64 p.t,.int .i64 p.u]∧(Lit.int .i64 p.f).wf=true∧(Lit.int .i64 p.t).wf=true:=by
 obtain⟨xs,k,_,hx,hlen,hxl,hg⟩:=DataW.trod_struct Tryz.underlying32 h
 rw [show Tryz.prog.cellsOf 32=4 from by kernel_rfl]at hlen
 match cs,hlen with
 | [c0,c1,c2,c3],_=>
  match xs,hxl with
  | [y0,y1,y2,y3],_=>
   have e0:DataW.trod enc Tryz.prog w base spare held k 3 (([c0,c1,c2,c3].drop 0).take (Tryz.prog.cellsOf 3))=some y0:=hg 0 _ rfl
   have e1:DataW.trod enc Tryz.prog w base spare held k 3 (([c0,c1,c2,c3].drop 1).take (Tryz.prog.cellsOf 3))=some y1:=hg 1 _ rfl
   have e2:DataW.trod enc Tryz.prog w base spare held k 3 (([c0,c1,c2,c3].drop 2).take (Tryz.prog.cellsOf 3))=some y2:=hg 2 _ rfl
   have e3:DataW.trod enc Tryz.prog w base spare held k 3 (([c0,c1,c2,c3].drop 3).take (Tryz.prog.cellsOf 3))=some y3:=hg 3 _ rfl
   rw [show Tryz.prog.cellsOf 3=1 from by kernel_rfl]at e0 e1 e2 e3
   simp at e0 e1 e2 e3
   obtain⟨a,x0,z0,_⟩:=DataW.trod_int Tryz.underlying3 e0
   obtain⟨d,x1,z1,m1⟩:=DataW.trod_int Tryz.underlying3 e1
   obtain⟨t,x2,z2,m2⟩:=DataW.trod_int Tryz.underlying3 e2
   obtain⟨u,x3,z3,_⟩:=DataW.trod_int Tryz.underlying3 e3
   simp at x0 x1 x2 x3
   subst x0 x1 x2 x3
   exact⟨⟨a,d,t,u⟩,rfl,m1,m2⟩
theorem open_nodes {fuel:Nat} {a0:Option Addr} {len cap:Nat} {x:DataW H×List MemPlace}
  (h:DataW.trod enc Tryz.prog w 0 (fun _=>true) true fuel 26 [.slice a0 len cap]=some x):∃nv,NRow w a0 len nv∧len≤cap∧cap≤maxLen∧(len=0→a0=none∧cap=0∨∃b off,a0=some ⟨b,off,none⟩∧b<w.heap.size∨cap=0)∧∀i,i<len→(Lit.int .i64 (nv i).f).wf=true∧(Lit.int .i64 (nv i).t).wf=true:=by
 rcases Go.Deep.open_slice Tryz.underlying26 h with⟨hcs,_⟩|⟨a,l,c,m,n,D,Pl,hcs,hb,hl,hm,hmm,hx,hi⟩
 ·simp only [List.cons.injEq,Value.slice.injEq,and_true]at hcs
  obtain⟨rfl,rfl,rfl⟩:=hcs
  exact⟨fun _=>⟨0,0,0,0⟩,fun i hi=>by omega,Nat.le_refl _,by unfold maxLen;omega,fun _=> .inl ⟨rfl,rfl⟩,fun i hi=>by omega⟩
 ·simp only [List.cons.injEq,Value.slice.injEq,and_true]at hcs
  obtain⟨rfl,rfl,rfl⟩:=hcs
  rw [if_pos rfl]at hmm
  subst hmm
  rw [show Tryz.prog.cellsOf 32=4 from by kernel_rfl]at hi hx
  rcases Nat.eq_zero_or_pos m with h0|hpos
  ·exact⟨fun _=>⟨0,0,0,0⟩,fun i hi=>by omega,hl,hm,fun _=> .inr ⟨0,0,.inr h0⟩,fun i hi=>by omega⟩
  obtain⟨ab,aoff,spot⟩:=a
  have hspot:spot=none:=by
   obtain⟨cs',hc0,ht0⟩:=hi 0 (by omega)
   obtain⟨p,rfl,_⟩:=node_cells ht0
   obtain⟨_,_,hcell⟩:=World.cells?_some hc0
   have g:=hcell 0 (by omega)
   simpa [Addr.add]using World.cell?_spot (v:=.int .i64 p.k) (by simpa [Addr.add]using g)
  subst hspot
  have hblk:ab<w.heap.size:=by
   obtain⟨cs',hc0,_⟩:=hi 0 (by omega)
   exact World.cells?_block hc0 (by omega)
  have hex:∀i,∃p:Nd,i<m→(w.cell? ⟨ab,aoff+i*4,none⟩=some (.int .i64 p.k)∧w.cell? ⟨ab,aoff+i*4+1,none⟩=some (.int .i64 p.f)∧w.cell? ⟨ab,aoff+i*4+2,none⟩=some (.int .i64 p.t)∧w.cell? ⟨ab,aoff+i*4+3,none⟩=some (.int .i64 p.u))∧(Lit.int .i64 p.f).wf=true∧(Lit.int .i64 p.t).wf=true:=by
   intro i
   by_cases hlt:i<m
   ·obtain⟨cs',hc0,ht0⟩:=hi i (by omega)
    obtain⟨p,rfl,w1,w2⟩:=node_cells ht0
    obtain⟨_,_,hcell⟩:=World.cells?_some hc0
    have g0:=hcell 0 (by omega)
    have g1:=hcell 1 (by omega)
    have g2:=hcell 2 (by omega)
    have g3:=hcell 3 (by omega)
    rw [Go.Deep.add_add]at g0 g1 g2 g3
    have hadd:∀k,(⟨ab,aoff,none⟩:Addr).add k=⟨ab,aoff+k,none⟩:=by
     intro k
     unfold Addr.add
     split
     ·rename_i hk;subst hk;rfl
     ·rfl
    rw [hadd]at g0 g1 g2 g3
    exact⟨p,fun _=>⟨⟨by simpa using g0,by rw [Nat.add_assoc];simpa using g1,by rw [Nat.add_assoc];simpa using g2,by rw [Nat.add_assoc];simpa using g3⟩,w1,w2⟩⟩
   ·exact⟨⟨0,0,0,0⟩,fun h=>absurd h hlt⟩
  obtain⟨F,hF⟩:=Classical.axiomOfChoice hex
  exact⟨F,fun i hi2=>⟨ab,aoff,rfl,hblk,(hF i (by omega)).1⟩,hl,hm,fun _=> .inr ⟨ab,aoff,.inl ⟨rfl,hblk⟩⟩,fun i hi2=>(hF i (by omega)).2⟩
end
section
variable {H:Type} {enc:TypeId×Value→H} {w:World} {base:Nat} {spare:Nat→Bool} {held:Bool}
theorem leaf_cells {n:Nat} {cs:List Value} {x:DataW H×List MemPlace} (h:DataW.trod enc Tryz.prog w base spare held n 37 cs=some x):
  ∃p:Lf,cs=[.int .i64 p.k,.string p.s,.int .i64 p.f,.int .i64 p.t]:=by
 obtain⟨xs,k,_,hx,hlen,hxl,hg⟩:=DataW.trod_struct Tryz.underlying37 h
 rw [show Tryz.prog.cellsOf 37=4 from by kernel_rfl]at hlen
 match cs,hlen with
 | [c0,c1,c2,c3],_=>
  match xs,hxl with
  | [y0,y1,y2,y3],_=>
   have e0:DataW.trod enc Tryz.prog w base spare held k 3 (([c0,c1,c2,c3].drop 0).take (Tryz.prog.cellsOf 3))=some y0:=hg 0 _ rfl
   have e1:DataW.trod enc Tryz.prog w base spare held k 9 (([c0,c1,c2,c3].drop 1).take (Tryz.prog.cellsOf 9))=some y1:=hg 1 _ rfl
   have e2:DataW.trod enc Tryz.prog w base spare held k 3 (([c0,c1,c2,c3].drop 2).take (Tryz.prog.cellsOf 3))=some y2:=hg 2 _ rfl
   have e3:DataW.trod enc Tryz.prog w base spare held k 3 (([c0,c1,c2,c3].drop 3).take (Tryz.prog.cellsOf 3))=some y3:=hg 3 _ rfl
   rw [show Tryz.prog.cellsOf 3=1 from by kernel_rfl]at e0 e2 e3
   rw [show Tryz.prog.cellsOf 9=1 from by kernel_rfl]at e1
   simp at e0 e1 e2 e3
   obtain⟨a,x0,z0,_⟩:=DataW.trod_int Tryz.underlying3 e0
   obtain⟨d,x1,z1,m1⟩:=DataW.trod_string Tryz.underlying9 e1
   obtain⟨t,x2,z2,m2⟩:=DataW.trod_int Tryz.underlying3 e2
   obtain⟨u,x3,z3,_⟩:=DataW.trod_int Tryz.underlying3 e3
   simp at x0 x1 x2 x3
   subst x0 x1 x2 x3
   exact⟨⟨a,d,t,u⟩,rfl⟩
theorem open_leaves {fuel:Nat} {a0:Option Addr} {len cap:Nat} {x:DataW H×List MemPlace}
  (h:DataW.trod enc Tryz.prog w 0 (fun _=>true) true fuel 22 [.slice a0 len cap]=some x):∃nv,LfRow w a0 len nv∧len≤cap∧cap≤maxLen∧(len=0→a0=none∧cap=0∨∃b off,a0=some ⟨b,off,none⟩∧b<w.heap.size∨cap=0):=by
 rcases Go.Deep.open_slice Tryz.underlying22 h with⟨hcs,_⟩|⟨a,l,c,m,n,D,Pl,hcs,hb,hl,hm,hmm,hx,hi⟩
 ·simp only [List.cons.injEq,Value.slice.injEq,and_true]at hcs
  obtain⟨rfl,rfl,rfl⟩:=hcs
  exact⟨fun _=>lf0,fun i hi=>by omega,Nat.le_refl _,by unfold maxLen;omega,fun _=> .inl ⟨rfl,rfl⟩⟩
 ·simp only [List.cons.injEq,Value.slice.injEq,and_true]at hcs
  obtain⟨rfl,rfl,rfl⟩:=hcs
  rw [if_pos rfl]at hmm
  subst hmm
  rw [show Tryz.prog.cellsOf 37=4 from by kernel_rfl]at hi hx
  rcases Nat.eq_zero_or_pos m with h0|hpos
  ·exact⟨fun _=>lf0,fun i hi=>by omega,hl,hm,fun _=> .inr ⟨0,0,.inr h0⟩⟩
  obtain⟨ab,aoff,spot⟩:=a
  have hspot:spot=none:=by
   obtain⟨cs',hc0,ht0⟩:=hi 0 (by omega)
   obtain⟨p,rfl⟩:=leaf_cells ht0
   obtain⟨_,_,hcell⟩:=World.cells?_some hc0
   have g:=hcell 0 (by omega)
   simpa [Addr.add]using World.cell?_spot (v:=.int .i64 p.k) (by simpa [Addr.add]using g)
  subst hspot
  have hblk:ab<w.heap.size:=by
   obtain⟨cs',hc0,_⟩:=hi 0 (by omega)
   exact World.cells?_block hc0 (by omega)
  have hex:∀i,∃p:Lf,i<m→(w.cell? ⟨ab,aoff+i*4,none⟩=some (.int .i64 p.k)∧w.cell? ⟨ab,aoff+i*4+1,none⟩=some (.string p.s)∧w.cell? ⟨ab,aoff+i*4+2,none⟩=some (.int .i64 p.f)∧w.cell? ⟨ab,aoff+i*4+3,none⟩=some (.int .i64 p.t)):=by
   intro i
   by_cases hlt:i<m
   ·obtain⟨cs',hc0,ht0⟩:=hi i (by omega)
    obtain⟨p,rfl⟩:=leaf_cells ht0
    obtain⟨_,_,hcell⟩:=World.cells?_some hc0
    have g0:=hcell 0 (by omega)
    have g1:=hcell 1 (by omega)
    have g2:=hcell 2 (by omega)
    have g3:=hcell 3 (by omega)
    rw [Go.Deep.add_add]at g0 g1 g2 g3
    have hadd:∀k,(⟨ab,aoff,none⟩:Addr).add k=⟨ab,aoff+k,none⟩:=by
     intro k
     unfold Addr.add
     split
     ·rename_i hk;subst hk;rfl
     ·rfl
    rw [hadd]at g0 g1 g2 g3
    exact⟨p,fun _=>⟨by simpa using g0,by rw [Nat.add_assoc];simpa using g1,by rw [Nat.add_assoc];simpa using g2,by rw [Nat.add_assoc];simpa using g3⟩⟩
   ·exact⟨lf0,fun h=>absurd h hlt⟩
  obtain⟨F,hF⟩:=Classical.axiomOfChoice hex
  exact⟨F,fun i hi2=>⟨ab,aoff,rfl,hblk,hF i (by omega)⟩,hl,hm,fun _=> .inr ⟨ab,aoff,.inl ⟨rfl,hblk⟩⟩⟩
end
end Go.Proofs.YtkolpaonccmgiaaGreatDoor.Q

/- A maker of layer 13 (parse) in memory, and what it -/
import Derived.Test.YtkolpaonccmgiaaGreatDoorSu
import Derived.Test.YtkolpaonccmgiaaGreatDoorRuSz
set_option linter.unusedVariables false
namespace Go.Proofs.YtkolpaonccmgiaaGreatDoor.Q
set_option linter.unusedSectionVars false
set_option linter.unusedVariables false
open Go.RowKit
def LfRow (w:World) (ao:Option Addr) (n:Nat) (lv:Nat→Lf):Prop:=
 ∀i,i<n→∃b off,ao=some ⟨b,off,none⟩∧b<w.heap.size∧w.cell? ⟨b,off+i*4,none⟩=some (.int .i64 (lv i).k)∧w.cell? ⟨b,off+i*4+1,none⟩=some (.string (lv i).s)∧w.cell? ⟨b,off+i*4+2,none⟩=some (.int .i64 (lv i).f)∧w.cell? ⟨b,off+i*4+3,none⟩=some (.int .i64 (lv i).t)
theorem LfRow.kept {w w':World} {ao:Option Addr} {n:Nat} {lv:Nat→Lf} (h:LfRow w ao n lv) (hs:w.heap.size≤w'.heap.size) (hc:∀b off,ao=some ⟨b,off,none⟩→b<w.heap.size→w'.heap[b]?=w.heap[b]?):LfRow w' ao n lv:=fun i hi=>by
 obtain⟨b,off,h1,h2,c0,c1,c2,c3⟩:=h i hi
 have hcc:∀o,w'.cell? ⟨b,o,none⟩=w.cell? ⟨b,o,none⟩:=fun o=>World.cell?_of_block (hc b off h1 h2)
 exact⟨b,off,h1,Nat.lt_of_lt_of_le h2 hs,(hcc _).trans c0,(hcc _).trans c1,(hcc _).trans c2,(hcc _).trans c3⟩
theorem LfRow.below {w w':World} {ao:Option Addr} {n:Nat} {lv:Nat→Lf} (h:LfRow w ao n lv) (hb:Below w.heap.size w w'):LfRow w' ao n lv:=h.kept hb.size (fun b off _ h2=>hb.block b h2)
structure MSt (n:Nat) (lv:Nat→Lf) (la:Option Addr) (w0:World) (P:Nat→Prop):Prop where
 lt:∀k,P k→k<w0.heap.size
 row:LfRow w0 la n lv
 rowP:∀b off,0<n→la=some ⟨b,off,none⟩→P b
 tx:Tx w0
 txP:P 0
 sml:∀i,i<n→(lv i).s.size≤100
 nle:n≤10000
structure Kd where
 n:Nat
 lv:Nat→Lf
 la:Option Addr
 g:Nat
 C:PS→Value→Array Value
 T:TypeId
structure Mk (K:Kd) (w0:World) (P:Nat→Prop) (s:PS) (w:World):Prop where
 st:MSt K.n K.lv K.la w0 P
 frm:Frm (fun k=>¬P k) w0 w
 ale:s.a≤K.n
 npg:¬P K.g
 own:∃nv,Blk w K.g (K.C s nv) K.T∧w.ownsRow 0 32 4 nv s.L.length (cellsN s.L)∧nv.ownBlock≠some K.g∧∀k,nv.ownBlock=some k→¬P k
theorem Tx.frm {p:Nat→Prop} {w w':World} (h:Tx w) (hf:Frm p w w') (hp:¬p 0):Tx w':=
 ⟨Nat.lt_of_lt_of_le h.1 hf.size,fun i hi=>(hf.cell (a:=⟨0,i,none⟩) h.1 hp).trans (h.2 i hi)⟩
theorem MSt.rowAt {n:Nat} {lv:Nat→Lf} {la:Option Addr} {w0:World} {P:Nat→Prop} (h:MSt n lv la w0 P) {w:World} (hf:Frm (fun k=>¬P k) w0 w):LfRow w la n lv:=fun i hi=>by
 obtain⟨b,off,h1,h2,c0,c1,c2,c3⟩:=h.row i hi
 have hb:P b:=h.rowP b off (by omega) h1
 have hcc:∀o,w.cell? ⟨b,o,none⟩=w0.cell? ⟨b,o,none⟩:=fun o=>World.cell?_of_block (hf.block b h2 (fun h=>h hb))
 exact⟨b,off,h1,Nat.lt_of_lt_of_le h2 hf.size,(hcc _).trans c0,(hcc _).trans c1,(hcc _).trans c2,(hcc _).trans c3⟩
theorem lf_small {n:Nat} {lv:Nat→Lf} (h:∀i,i<n→(lv i).s.size≤100) (i:Nat):(lfA n lv i).s.size≤100:=by
 unfold lfA
 split
 ·exact h i (by assumption)
 ·exact Nat.zero_le _
section
variable {K:Kd} {w0:World} {P:Nat→Prop} {s:PS} {w:World}
theorem Mk.tx (h:Mk K w0 P s w):Tx w:=h.st.tx.frm h.frm (fun k=>k h.st.txP)
theorem Mk.row (h:Mk K w0 P s w):LfRow w K.la K.n K.lv:=h.st.rowAt h.frm
theorem Mk.glt (h:Mk K w0 P s w):K.g<w.heap.size:=by obtain⟨nv,hb,_⟩:=h.own;exact hb.lt
theorem Mk.below (h:Mk K w0 P s w) {w':World} (hb:Below w.heap.size w w'):Mk K w0 P s w':=by
 obtain⟨nv,h1,h2,h3,h4⟩:=h.own
 exact⟨h.st,h.frm.trans (Frm.of_below (p:=fun _=>False) hb) (fun _ _ h=>h.elim),h.ale,h.npg,nv,h1.below hb,own_below h2 hb,h3,h4⟩
def Oth (g:Nat) (nv:Value) (w:World) (k:Nat):Prop:=k<w.heap.size∧k≠g∧nv.ownBlock≠some k
theorem Mk.base (h:Mk K w0 P s w) {w1:World} (hb:Below w.heap.size w w1):∃P',Mk K w1 P' s w1∧(∀k,P k→P' k)∧(∀k,w.heap.size≤k→k<w1.heap.size→P' k)∧∀W s',Mk K w1 P' s' W→Mk K w0 P s' W:=by
 have hg:=h.glt
 have h1:=h.below hb
 obtain⟨nv,k1,k2,k3,k4⟩:=h.own
 have j1:=k1.below hb
 have j2:=own_below k2 hb
 have hP:∀k,P k→Oth K.g nv w1 k:=fun k hk=>⟨Nat.lt_of_lt_of_le (h.st.lt k hk) h1.frm.size,fun e=>h.npg (e▸hk),fun e=>k4 k e hk⟩
 refine⟨Oth K.g nv w1,⟨⟨fun k hk=>hk.1,h1.row,fun b off h0 hl=>hP b (h.st.rowP b off h0 hl),h1.tx,hP 0 h.st.txP,h.st.sml,h.st.nle⟩,Frm.refl _ _,h.ale,fun hh=>hh.2.1 rfl,nv,j1,j2,k3,fun k e hk=>hk.2.2 e⟩,hP,?_,?_⟩
 ·intro k h2 h3
  refine⟨h3,by omega,fun e=>?_⟩
  have:=own_lt k2 k e
  omega
 ·intro W s' hW
  obtain⟨nv',g1,g2,g3,g4⟩:=hW.own
  exact⟨h.st,h1.frm.trans hW.frm (fun i _ hi hp=>hi (hP i hp)),hW.ale,h.npg,nv',g1,g2,g3,fun k e hk=>g4 k e (hP k hk)⟩
theorem Mk.blk (h:Mk K w0 P s w) {b:Nat} {cs:Array Value} {t:TypeId} (hb:Blk w0 b cs t) (hp:P b):Blk w b cs t:=hb.frm h.frm (fun k=>k hp)
theorem Mk.turn (h:Mk K w0 P s w) {w':World} {s':PS} (hL:s'.L=s.L) (ha:s'.a≤K.n) (hf:Frm (fun k=>k=K.g) w w') (hb:∀nv,Blk w K.g (K.C s nv) K.T→Blk w' K.g (K.C s' nv) K.T):Mk K w0 P s' w':=by
 obtain⟨nv,h1,h2,h3,h4⟩:=h.own
 refine⟨h.st,h.frm.trans hf (fun i _ hi hp=>h.npg (hi▸hp)),ha,h.npg,nv,hb nv h1,?_,h3,h4⟩
 rw [hL]
 exact own_frm hf h2 (fun k hk e=>h3 (e▸hk))
end
def Does (K:Kd) (w0:World) (P:Nat→Prop) (F:Nat) (args:Array Value) (p:PP) (pre:PS→Prop):Prop:=
 ∀(w:World) (s:PS),Mk K w0 P s w→pre s→Calls Tryz.prog F args w fun e w'=>e=.returned (.tuple #[])∧∃s',Ev K.n K.lv p s s'∧Mk K w0 P s' w'
def Tells (K:Kd) (g:Nat) (F:Nat) (b:PS→Bool):Prop:=
 ∀(w0:World) (P:Nat→Prop) (w:World) (s:PS),Mk K w0 P s w→Calls Tryz.prog F #[.pointer (some ⟨g,0,none⟩)] w fun e w'=>e=.returned (.bool (b s))∧Below w.heap.size w w'
def mkC (lo:Value) (a:Int) (x:Lf) (sg:Nat) (nv:Value) (u d:Int):Array Value:=#[lo,.int .i64 a,.int .i64 x.k,.string x.s,.int .i64 x.f,.int .i64 x.t,.int .u8 (sg:Int),nv,.int .i64 u,.int .i64 d]
def lfI (n:Nat) (lv:Nat→Lf) (i:Int):Lf:=if 0≤i∧i<(n:Int)then lv i.toNat else lf0
theorem lfI_nat (n:Nat) (lv:Nat→Lf) (i:Nat):lfI n lv (i:Int)=lfA n lv i:=by
 unfold lfI lfA
 by_cases h:i<n
 ·rw [if_pos (by omega),if_pos h];rfl
 ·rw [if_neg (by omega),if_neg h]
section
variable (w:World)
set_option maxRecDepth 100000 in
set_option maxHeartbeats 2000000 in
theorem pleaf_in (g n:Nat) (la:Option Addr) (lc:Nat) (lv:Nat→Lf) (h0:w.cell? ⟨g,0,none⟩=some (.slice la n lc)) (hg:g<w.heap.size) (hL:LfRow w la n lv) (at':Nat) (h:at'<n):
  Calls Tryz.prog 76 #[.pointer (some ⟨g,0,none⟩),.int .i64 (at':Int)] w fun r w'=>r=.returned (aggF (lv at'))∧Below w.heap.size w w':=by
 obtain⟨lb,lo,hla,hlw,l0,l1,l2,l3⟩:=hL at' h
 obtain⟨P,hP⟩:∃P,lv at'=P:=⟨_,rfl⟩
 rw [hP]at l0 l1 l2 l3 ⊢
 obtain⟨pk,ps,pf,pt⟩:=P
 simp only at l0 l1 l2 l3
 have hB:=((Below.refl w.heap.size w).alloc (Nat.le_refl _) (.cells #[.int .i64 0,.string ⟨#[]⟩,.int .i64 0,.int .i64 0] 37))
 have q0:(0:Int)≤(at':Int):=by omega
 have q1:(at':Int)<(n:Int):=by omega
 have d0:decide ((at':Int)<0)=false:=by simp
 have d1:decide ((n:Int)≤(at':Int))=false:=by simp;omega
 have d1':decide (n≤at')=false:=by simp;omega
 have m0:=(hB.cell (p:=⟨lb,lo+at'*4,none⟩) hlw).trans l0
 have m1:=(hB.cell (p:=⟨lb,lo+at'*4+1,none⟩) hlw).trans l1
 have m2:=(hB.cell (p:=⟨lb,lo+at'*4+2,none⟩) hlw).trans l2
 have m3:=(hB.cell (p:=⟨lb,lo+at'*4+3,none⟩) hlw).trans l3
 have v0:=(hB.cell (p:=⟨g,0,none⟩) hg).trans h0
 rw [hla]at v0
 have kR:=Blk.new w #[.int .i64 0,.string ⟨#[]⟩,.int .i64 0,.int .i64 0] 37
 have HB:=Lib.hid hB
 obtain⟨W2,hW2⟩:∃X,w.alloc (.cells #[.int .i64 0,.string ⟨#[]⟩,.int .i64 0,.int .i64 0] 37)=X:=⟨_,rfl⟩
 rw [hW2]at HB kR m0 m1 m2 m3 v0
 have r0:=kR.cell 0
 have r1:=kR.cell 1
 have r2:=kR.cell 2
 have r3:=kR.cell 3
 have f0:=kR.frozen 0
 have f1:=kR.frozen 1
 have f2:=kR.frozen 2
 have f3:=kR.frozen 3
 simp only [List.getElem?_toArray,List.getElem?_cons_zero,List.getElem?_cons_succ]at r0 r1 r2 r3
 have HKR:=Lib.hid kR
 have HW2:=Lib.hid hW2
 clear kR hB l0 l1 l2 l3 hL hP h0 hla
 go_enter Tryz.func76,Tryz.ntmps76
 go_upto_region 1 with fail
 clear HW2 hW2
 go_wp2
 have k4:=(((HKR.out.set 0 (.int .i64 pk)).set 1 (.string ps)).set 2 (.int .i64 pf)).set 3 (.int .i64 pt)
 have u0:=k4.cell 0
 have u1:=k4.cell 1
 have u2:=k4.cell 2
 have u3:=k4.cell 3
 simp at u0 u1 u2 u3
 refine bodyPost_ret (v:=aggF ⟨pk,ps,pf,pt⟩) (by simp [results,Tryz.results76,go_sem,u0,u1,u2,u3,aggF]) rfl ?_
 exact⟨rfl,HB.out.trans (Frm.below ((((Frm.setCell (p:=fun b=>b=w.heap.size) (Frm.refl _ W2) 0 (.inl rfl) _).setCell 1 (.inl rfl) _).setCell 2 (.inl rfl) _).setCell 3 (.inl rfl) _) HB.out.size (fun b hb=>by omega))⟩
set_option maxRecDepth 100000 in
set_option maxHeartbeats 2000000 in
theorem pleaf_out (g n:Nat) (la:Option Addr) (lc:Nat) (h0:w.cell? ⟨g,0,none⟩=some (.slice la n lc)) (hg:g<w.heap.size) (at':Int) (h:at'<0∨(n:Int)≤at'):
  Calls Tryz.prog 76 #[.pointer (some ⟨g,0,none⟩),.int .i64 at'] w fun r w'=>r=.returned (aggF lf0)∧Below w.heap.size w w':=by
 have hB:=((Below.refl w.heap.size w).alloc (Nat.le_refl _) (.cells #[.int .i64 0,.string ⟨#[]⟩,.int .i64 0,.int .i64 0] 37))
 have v0:=(hB.cell (p:=⟨g,0,none⟩) hg).trans h0
 have kR:=Blk.new w #[.int .i64 0,.string ⟨#[]⟩,.int .i64 0,.int .i64 0] 37
 have HB:=Lib.hid hB
 obtain⟨W2,hW2⟩:∃X,w.alloc (.cells #[.int .i64 0,.string ⟨#[]⟩,.int .i64 0,.int .i64 0] 37)=X:=⟨_,rfl⟩
 rw [hW2]at HB kR v0
 have r0:=kR.cell 0
 have r1:=kR.cell 1
 have r2:=kR.cell 2
 have r3:=kR.cell 3
 have f0:=kR.frozen 0
 have f1:=kR.frozen 1
 have f2:=kR.frozen 2
 have f3:=kR.frozen 3
 simp only [List.getElem?_toArray,List.getElem?_cons_zero,List.getElem?_cons_succ]at r0 r1 r2 r3
 have HKR:=Lib.hid kR
 have HW2:=Lib.hid hW2
 clear kR hB h0
 have k4:=(((HKR.out.set 0 (.int .i64 0)).set 1 (.string ⟨#[]⟩)).set 2 (.int .i64 0)).set 3 (.int .i64 0)
 have u0:=k4.cell 0
 have u1:=k4.cell 1
 have u2:=k4.cell 2
 have u3:=k4.cell 3
 simp at u0 u1 u2 u3
 have HF:=Lib.hid (HB.out.trans (Frm.below ((((Frm.setCell (p:=fun b=>b=w.heap.size) (Frm.refl _ W2) 0 (.inl rfl) (.int .i64 0)).setCell 1 (.inl rfl) (.string ⟨#[]⟩)).setCell 2 (.inl rfl) (.int .i64 0)).setCell 3 (.inl rfl) (.int .i64 0)) HB.out.size (fun b hb=>by omega)))
 have U:=Lib.hid (And.intro u0 (And.intro u1 (And.intro u2 u3)))
 clear k4 u0 u1 u2 u3
 rcases(Int.lt_or_le at' 0)with d0|d0
 ·have d0':decide (at'<0)=true:=by simpa using d0
  go_enter Tryz.func76,Tryz.ntmps76
  go_upto_region 1 with fail
  clear HW2 hW2
  go_wp2
  obtain⟨u0,u1,u2,u3⟩:=U.out
  refine bodyPost_ret (v:=aggF lf0) (by simp [results,Tryz.results76,go_sem,u0,u1,u2,u3,aggF,lf0]) rfl ?_
  exact⟨rfl,HF.out⟩
 ·have d0':decide (at'<0)=false:=by simpa using d0
  have d1:(n:Int)≤at':=by omega
  have d1':decide ((n:Int)≤at')=true:=by simpa using d1
  go_enter Tryz.func76,Tryz.ntmps76
  go_upto_region 1 with fail
  clear HW2 hW2
  go_wp2
  obtain⟨u0,u1,u2,u3⟩:=U.out
  refine bodyPost_ret (v:=aggF lf0) (by simp [results,Tryz.results76,go_sem,u0,u1,u2,u3,aggF,lf0]) rfl ?_
  exact⟨rfl,HF.out⟩
theorem pleaf_any (g n:Nat) (la:Option Addr) (lc:Nat) (lv:Nat→Lf) (h0:w.cell? ⟨g,0,none⟩=some (.slice la n lc)) (hg:g<w.heap.size) (hL:LfRow w la n lv) (i:Int):
  Calls Tryz.prog 76 #[.pointer (some ⟨g,0,none⟩),.int .i64 i] w fun r w'=>r=.returned (aggF (lfI n lv i))∧Below w.heap.size w w':=by
 by_cases h:0≤i∧i<(n:Int)
 ·obtain⟨k,rfl⟩:=Int.eq_ofNat_of_zero_le h.1
  have:=pleaf_in w g n la lc lv h0 hg hL k (by omega)
  unfold lfI
  rw [if_pos h]
  exact this
 ·unfold lfI
  rw [if_neg h]
  exact pleaf_out w g n la lc h0 hg i (by omega)
set_option maxRecDepth 100000 in
set_option maxHeartbeats 2000000 in
theorem move_raw (g n:Nat) (la:Option Addr) (lc:Nat) (lv:Nat→Lf) (a:Int) (x:Lf) (sg:Nat) (nv:Value) (u d:Int) (hB:Blk w g (mkC (.slice la n lc) a x sg nv u d) 50) (hL:LfRow w la n lv) (hgl:∀b off,0<n→la=some ⟨b,off,none⟩→b≠g) (hT:Tx w) (hg1:g≠0) (i:Int) (hs:(lfI n lv i).s.size≤1000000):
  Calls Tryz.prog 47 #[.pointer (some ⟨g,0,none⟩),.int .i64 i] w fun r w'=>r=.returned (.tuple #[])∧Blk w' g (mkC (.slice la n lc) i (lfI n lv i) (sgn (lfI n lv i).k (lfI n lv i).s) nv u d) 50∧Frm (fun k=>k=g) w w':=by
 have hF1:=(Frm.refl (fun k=>k=g) w).put 1 (.int .i64 i)
 have hB1:Blk (w.setCell ⟨g,1,none⟩ (.int .i64 i)) g (mkC (.slice la n lc) i x sg nv u d) 50:=hB.set 1 _
 have hL1:LfRow (w.setCell ⟨g,1,none⟩ (.int .i64 i)) la n lv:=fun j hj=>hL.kept hF1.size (fun b off h1 h2=>hF1.block b h2 (hgl b off (by omega) h1)) j hj
 have HCL:=Lib.hid (pleaf_any _ g n la lc lv (hB1.cell 0) hB1.lt hL1 i)
 obtain⟨y,hy⟩:∃y,lfI n lv i=y:=⟨_,rfl⟩
 rw [hy]at HCL hs ⊢
 have c1:w.cell? ⟨g,1,none⟩=some (.int .i64 a):=hB.cell 1
 have f1:=hB.frozen 1
 have HB:=Lib.hid hB
 have HB1:=Lib.hid hB1
 have HF1:=Lib.hid hF1
 have HT:=Lib.hid hT
 have HTL:=Lib.hid (hT.1)
 clear hB hB1 hF1 hL hL1 hT hy
 go_enter Tryz.func47,Tryz.ntmps47
 go_wp2_with fail
 refine HCL.out.mono ?_
 rintro e w2 ⟨rfl,hb2⟩
 have hB2:=HB1.out.below hb2
 have hF2:=HF1.out.trans (Frm.of_below (p:=fun _=>False) hb2) (fun _ _ h=>h.elim)
 obtain⟨yk,ys,yf,yt⟩:=y
 unfold aggF
 simp only at hs ⊢
 have a2:w2.cell? ⟨g,2,none⟩=some (.int .i64 x.k):=hB2.cell 2
 have a3:w2.cell? ⟨g,3,none⟩=some (.string x.s):=hB2.cell 3
 have a4:w2.cell? ⟨g,4,none⟩=some (.int .i64 x.f):=hB2.cell 4
 have a5:w2.cell? ⟨g,5,none⟩=some (.int .i64 x.t):=hB2.cell 5
 have f2:=hB2.frozen 2
 have f3:=hB2.frozen 3
 have f4:=hB2.frozen 4
 have f5:=hB2.frozen 5
 have hB3:Blk ((((w2.setCell ⟨g,2,none⟩ (.int .i64 yk)).setCell ⟨g,3,none⟩ (.string ys)).setCell ⟨g,4,none⟩ (.int .i64 yf)).setCell ⟨g,5,none⟩ (.int .i64 yt)) g (mkC (.slice la n lc) i ⟨yk,ys,yf,yt⟩ sg nv u d) 50:=(((hB2.set 2 _).set 3 _).set 4 _).set 5 _
 have hF3:Frm (fun k=>k=g) w ((((w2.setCell ⟨g,2,none⟩ (.int .i64 yk)).setCell ⟨g,3,none⟩ (.string ys)).setCell ⟨g,4,none⟩ (.int .i64 yf)).setCell ⟨g,5,none⟩ (.int .i64 yt)):=(((hF2.put 2 _).put 3 _).put 4 _).put 5 _
 have hT3:=HT.out.frm hF3 (fun h=>hg1 h.symm)
 have HSG:=Lib.hid (sign_any _ ⟨yk,ys,yf,yt⟩ hs hT3)
 have HB3:=Lib.hid hB3
 have HF3:=Lib.hid hF3
 clear hb2 hB2 hF2 hB3 hF3 hT3
 go_wp2_with fail
 refine HSG.out.mono ?_
 rintro e w3 ⟨rfl,hb3⟩
 have hB4:=HB3.out.below hb3
 have hF4:=HF3.out.trans (Frm.of_below (p:=fun _=>False) hb3) (fun _ _ h=>h.elim)
 obtain⟨sg2,hsg2⟩:∃sg2,sgn yk ys=sg2:=⟨_,rfl⟩
 rw [hsg2]
 have a6:w3.cell? ⟨g,6,none⟩=some (.int .u8 (sg:Int)):=hB4.cell 6
 have f6:=hB4.frozen 6
 have HB5:=Lib.hid (show Blk (w3.setCell ⟨g,6,none⟩ (.int .u8 (sg2:Int))) g (mkC (.slice la n lc) i ⟨yk,ys,yf,yt⟩ sg2 nv u d) 50 from hB4.set 6 _)
 have HF5:=Lib.hid (hF4.put 6 (.int .u8 (sg2:Int)))
 have HSE:=Lib.hid hsg2
 clear hb3 hB4 hF4 hsg2
 go_wp2
 go_end0
 rw [HSE.out]
 exact⟨rfl,HB5.out,HF5.out⟩
end
end Go.Proofs.YtkolpaonccmgiaaGreatDoor.Q

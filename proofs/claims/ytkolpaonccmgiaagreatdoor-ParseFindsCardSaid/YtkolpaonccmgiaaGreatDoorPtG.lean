/- What at, mode and Expands of the document's own pa -/
import Derived.Test.YtkolpaonccmgiaaGreatDoorMdB
import Derived.Deep.DeepCutAuto
import Derived.Test.YtkolpaonccmgiaaGreatDoorMdW
import Derived.Test.YtkolpaonccmgiaaGreatDoorPtB
set_option linter.unusedVariables false
namespace Go.Proofs.YtkolpaonccmgiaaGreatDoor
set_option linter.unusedSectionVars false
set_option linter.unusedVariables false
open Go.RowKit
def AtR (l:List Fr) (f r:Nat):Prop:=
 (∃m,1≤r∧l[r]?=some (m,f)∧∀i x,1≤i→i<r→l[i]?=some x→x.2≠f)∨(r=0∧∀i x,1≤i→l[i]?=some x→x.2≠f)
def AtRel (l:List Fr) (f:Nat) (w:World) (v:Value) (wr:World):Prop:=∃k:Nat,1≤k∧(k≤l.length∨k=1)∧v=.int .i64 (k:Int)∧(∀i x,1≤i→i<k→l[i]?=some x→x.2≠f)∧wr=w
section
variable (w:World)
set_option maxHeartbeats 2000000 in
theorem at_any (st:List Fr) (S:ByteArray) (g n cap:Nat) (fr:Bool) (f r:Nat) (hR:Rv w st S g n cap) (hl:st.length≤100000) (hA:Hid (AtR st.reverse f r)):
  Calls Tryz.prog 172 #[.agg #[.string S,.slice (some ⟨g,0,none⟩) n cap,.bool fr],.int .i64 (f:Int)] w fun e w'=>e=.returned (.int .i64 (r:Int))∧Below w.heap.size w w':=by
 have hlt:=hR.lt
 have hcell:∀X,Below w.heap.size w X→∀j x,st.reverse[j]?=some x→X.cell? ⟨g,j,none⟩=some (.int .i64 (x.2:Int)):=fun X hX j x hx=>(hR.below hX).p.cell hx
 have hn:=hR.n
 have hnl:n≤100000:=by omega
 have hrl:st.reverse.length=n:=by rw [List.length_reverse,hn]
 have HC:=Lib.hid hcell
 have HRL:=Lib.hid hrl
 clear hR hcell hn hrl
 go_enter Tryz.func172,Tryz.ntmps172
 go_wp2
 obtain⟨W,hW⟩:∃W,W=w.alloc (.cells #[.string S,.slice (some ⟨g,0,none⟩) n cap,.bool fr] 112):=⟨_,rfl⟩
 have hB:Below w.heap.size w W:=by rw [hW];exact(Below.refl _ _).alloc (Nat.le_refl _) _
 have hb:Blk W w.heap.size #[.string S,.slice (some ⟨g,0,none⟩) n cap,.bool fr] 112:=by rw [hW];exact Blk.new _ _ _
 have b1:W.cell? ⟨w.heap.size,1,none⟩=some (.slice (some ⟨g,0,none⟩) n cap):=hb.cell 1
 rw [←hW]
 clear hW hb
 obtain⟨bx,hbx⟩:∃bx,w.heap.size=bx:=⟨_,rfl⟩
 rw [hbx]at b1 ⊢
 have HBX:=Lib.hid hbx
 clear hbx
 go_loopw [5] (fun v wr=>AtRel st.reverse f W v wr) (fun v _=>n+1 - (intOf v).toNat)
 case atStart=>exact⟨1,Nat.le_refl _,.inr rfl,rfl,fun i x h1 h2=>by omega,rfl⟩
 case round=>
  obtain⟨k,hk1,hk,rfl,hno,rfl⟩:=hrel
  have HN:=Lib.hid hno
  clear hno
  by_cases hlt2:(k:Int)<(n:Int)
  ·have hkn:k<n:=by omega
   have hkr:k<st.reverse.length:=by have:=HRL.out;omega
   obtain⟨x,hx⟩:∃x,st.reverse[k]?=some x:=⟨_,List.getElem?_eq_getElem hkr⟩
   have q:=HC.out _ hB k x hx
   have q0:(0:Int)≤(k:Int):=by omega
   obtain⟨p,hp⟩:∃p,x.2=p:=⟨_,rfl⟩
   rw [hp]at q
   have HX:=Lib.hid hx
   have HP:=Lib.hid hp
   clear hx hp hkr
   by_cases e:p=f
   ·subst e
    go_wp2
    go_ret
    refine⟨ret_int ?_,by rw [HBX.out];rw [HBX.out]at hB;exact hB⟩
    have:k=r:=by
     rcases hA.out with⟨m,h1,h2,h3⟩|⟨h1,h2⟩
     ·rcases Nat.lt_trichotomy k r with g|g|g
      ·exact absurd HP.out (h3 k x hk1 g HX.out)
      ·exact g
      ·exact absurd rfl (HN.out r _ h1 g h2)
     ·exact absurd HP.out (h2 k x hk1 HX.out)
    rw [this]
   ·have t1:((p:Int)==(f:Int))=false:=beq_eq_false_iff_ne.2 (by omega)
    have HE:=Lib.hid e
    clear e
    go_wp2
    go_roundw
    case rel=>
     refine⟨k+1,by omega,.inl (by have:=HRL.out;omega),by go_num,fun i y h1 h2 hy=>?_,rfl⟩
     by_cases g:i=k
     ·subst g
      have:=HX.out.symm.trans hy
      simp at this
      subst this
      rw [HP.out]
      exact HE.out
     ·exact HN.out i y h1 (by omega) hy
    case measure=>simp [intOf];omega
  ·go_wp2
   go_ret
   refine⟨ret_int ?_,by rw [HBX.out];rw [HBX.out]at hB;exact hB⟩
   have:r=0:=by
    rcases hA.out with⟨m,h1,h2,h3⟩|⟨h1,h2⟩
    ·have hl:=(List.getElem?_eq_some_iff.1 h2).1
     have:=HRL.out
     exact absurd rfl (HN.out r _ h1 (by omega) h2)
    ·exact h1
   rw [this]
   rfl
end
end Go.Proofs.YtkolpaonccmgiaaGreatDoor

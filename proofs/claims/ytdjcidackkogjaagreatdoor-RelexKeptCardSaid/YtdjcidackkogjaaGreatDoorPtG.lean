/- What at, mode and Expands of the document's own pa -/
import Derived.Test.YtdjcidackkogjaaGreatDoorMdI
import Derived.Test.YtdjcidackkogjaaGreatDoorPtB
namespace Go.Proofs.YtdjcidackkogjaaGreatDoor
set_option linter.unusedSectionVars false
set_option linter.unusedVariables false
open Lib(hid)
set_option maxHeartbeats 8000000
open Go.RowKit
def AtR(l:List Fr)(f r:Nat):Prop:=
 (∃m,1≤r∧l[r]?=some (m,f)∧∀i x,1≤i→i<r→l[i]?=some x→x.2≠f)∨(r=0∧∀i x,1≤i→l[i]?=some x→x.2≠f)
def Yk(s:ByteArray)(k f:Nat):Nat:=if zI s k f=true then(xg s f).length+1 else 0
theorem IC{s:ByteArray}{k f:Nat}:Yk s k f=0↔zI s k f=false:=by
 unfold Yk;split<;>simp[*]
theorem PQ(s:ByteArray)(k:Nat):(zL s k).st.reverse=(0,0)::(nt s k).reverse:=by rw[jy,List.reverse_append];rfl
theorem IE{s:ByteArray}{k f:Nat}(h:zI s k f=true):(zL s k).st.reverse[(xg s f).length+1]?=some (md s k f,f):=by
 obtain⟨⟨A,hA⟩,_⟩:=VS h;rw[PQ,hA];simp
theorem zgL(s:ByteArray)(k f:Nat):AtR (zL s k).st.reverse f (Yk s k f):=by
 unfold Yk;have hrev:=PQ s k;split
 ·rename_i h
  obtain⟨⟨A,hA⟩,_⟩:=VS h;refine .inl ⟨_,by omega,IE h,λi x h1 h2 hx=>?_⟩;rw[hrev,hA]at hx;obtain⟨c,rfl⟩:∃c,i=c+1:=⟨i-1,by omega⟩;have hc:c<(xg s f).reverse.length:=by rw[List.length_reverse];omega
  rw[List.getElem?_cons_succ,List.reverse_append,List.reverse_cons,List.append_assoc,List.getElem?_append_left hc]at hx;have hm:x∈xg s f:=by have:=List.mem_of_getElem? hx;simpa using this
  have hp:=Zr s k;rw[hA]at hp;have:=(List.pairwise_cons.1 (List.pairwise_append.1 hp).2.1).1 x hm;simp at this;omega
 ·rename_i h
  refine .inr ⟨rfl,λi x h1 hx=>?_⟩;rw[hrev]at hx;obtain⟨c,rfl⟩:∃c,i=c+1:=⟨i-1,by omega⟩;rw[List.getElem?_cons_succ]at hx;have hm:x∈nt s k:=by have:=List.mem_of_getElem? hx;simpa using this
  intro e;exact h (jR.2 ⟨x.1,by rw[←e];exact hm⟩)
def zgM(l:List Fr)(f:Nat)(w:World)(v:Value)(wr:World):Prop:=∃k:Nat,1≤k∧(k≤l.length∨k=1)∧v=.int .i64 (k:Int)∧(∀i x,1≤i→i<k→l[i]?=some x→x.2≠f)∧wr=w
section
variable(w:World)
theorem IG(st:List Fr)(S:ByteArray)(g n cap:Nat)(fr:Bool)(f r:Nat)(hR:Rv w st S g n cap)(hl:st.length≤100000)(hA:Hid (AtR st.reverse f r)):
  Calls Tryz.prog 90 #[.agg #[.string S,.slice (some ⟨g,0,none⟩) n cap,.bool fr],.int .i64 (f:Int)] w λe w'=>e=.returned (.int .i64 (r:Int))∧Below w.heap.size w w':=by
 have hlt:=hR.lt;have hcell:∀X,Below w.heap.size w X→∀j x,st.reverse[j]?=some x→X.cell? ⟨g,j,none⟩=some (.int .i64 (x.2:Int)):=λX hX j x hx=>(hR.below hX).p.cell hx;have hn:=hR.n;have hnl:n≤100000:=by omega
 have hrl:st.reverse.length=n:=by rw[List.length_reverse,hn]
 have HC:=hid hcell;have Vm:=hid hrl;clear hR hcell hn hrl;go_enter Tryz.func90,Tryz.ntmps90;go_wp2;obtain⟨W,hW⟩:∃W,W=w.alloc (.cells #[.string S,.slice (some ⟨g,0,none⟩) n cap,.bool fr] 126):=⟨_,rfl⟩;have hB:Below w.heap.size w W:=by rw[hW];exact(Below.refl _ _).alloc (Nat.le_refl _) _
 have hb:zh W w.heap.size #[.string S,.slice (some ⟨g,0,none⟩) n cap,.bool fr] 126:=by rw[hW];exact zh.new _ _ _
 have b1:W.cell? ⟨w.heap.size,1,none⟩=some (.slice (some ⟨g,0,none⟩) n cap):=hb.cell 1;rw[←hW];clear hW hb;obtain⟨bx,hbx⟩:∃bx,w.heap.size=bx:=⟨_,rfl⟩;rw[hbx]at b1 ⊢;have yt:=hid hbx;clear hbx
 go_loopw [5] (λv wr=>zgM st.reverse f W v wr) (λv _=>n+1-(intOf v).toNat)
 case atStart=>exact⟨1,Nat.le_refl _,.inr rfl,rfl,λi x h1 h2=>by omega,rfl⟩
 case round=>
  obtain⟨k,hk1,hk,rfl,hno,rfl⟩:=hrel;have HN:=hid hno;clear hno;by_cases hlt2:(k:Int)<(n:Int)
  ·have hkn:k<n:=by omega
   have hkr:k<st.reverse.length:=by have:=Vm.out;omega
   obtain⟨x,hx⟩:∃x,st.reverse[k]?=some x:=⟨_,List.getElem?_eq_getElem hkr⟩;have q:=HC.out _ hB k x hx;have q0:(0:Int)≤(k:Int):=by omega
   obtain⟨p,hp⟩:∃p,x.2=p:=⟨_,rfl⟩;rw[hp]at q;have HX:=hid hx;have HP:=hid hp;clear hx hp hkr;by_cases e:p=f
   ·subst e
    go_wp2;go_ret;refine⟨uf ?_,by rw[yt.out];rw[yt.out]at hB;exact hB⟩;have:k=r:=by
     rcases hA.out with⟨m,h1,h2,h3⟩|⟨h1,h2⟩
     ·rcases Nat.lt_trichotomy k r with g|g|g
      ·exact absurd HP.out (h3 k x hk1 g HX.out)
      ·exact g
      ·exact absurd rfl (HN.out r _ h1 g h2)
     ·exact absurd HP.out (h2 k x hk1 HX.out)
    rw[this]
   ·have t1:((p:Int)==(f:Int))=false:=beq_eq_false_iff_ne.2 (by omega)
    have HE:=hid e;clear e;go_wp2
    go_roundw
    case rel=>
     refine⟨k+1,by omega,.inl (by have:=Vm.out;omega),by go_num,λi y h1 h2 hy=>?_,rfl⟩;by_cases g:i=k
     ·subst g
      have:=HX.out.symm.trans hy;simp at this;subst this;rw[HP.out];exact HE.out
     ·exact HN.out i y h1 (by omega) hy
    case measure=>simp[intOf];omega
  ·go_wp2
   go_ret;refine⟨uf ?_,by rw[yt.out];rw[yt.out]at hB;exact hB⟩;have:r=0:=by
    rcases hA.out with⟨m,h1,h2,h3⟩|⟨h1,h2⟩
    ·have hl:=(List.getElem?_eq_some_iff.1 h2).1
     have:=Vm.out;exact absurd rfl (HN.out r _ h1 (by omega) h2)
    ·exact h1
   rw[this];rfl
theorem zgN:∀i,i<15→∀j,j<15→yI i=yI j→i=j:=by decide+kernel
theorem zgO:∀i,i<15→((yI i).toNat=79↔i=3):=by decide+kernel
theorem zgP:∀i,i<15→((yI i).toNat=69↔i=11):=by decide+kernel
def zgQ(m:Nat)(w:World)(v:Value)(wr:World):Prop:=∃k:Nat,k≤m∧v=.int .i64 (k:Int)∧wr=w
theorem zgR(m c:Nat)(hm:m≤14)(hc:Hid (c=(yI m).toNat)):Calls Tryz.prog 91 #[.int .u8 (c:Int)] w λe w'=>e=.returned (.int .i64 (cnt m:Nat))∧w'=w:=by
 have wG:=zgO m (by omega);have wH:=zgP m (by omega);rw[←hc.out]at wG wH;by_cases h3:m=3
 ·have e:c=79:=wG.2 h3
  subst e;subst h3;clear wG wH;go_enter Tryz.func91,Tryz.ntmps91;go_wp2;go_ret;exact⟨rfl,rfl⟩
 by_cases h11:m=11
 ·have e:c=69:=wH.2 h11
  subst e;subst h11;clear wG wH;go_enter Tryz.func91,Tryz.ntmps91;go_wp2;go_ret;exact⟨rfl,rfl⟩
 have t3:((c:Int)==79)=false:=beq_eq_false_iff_ne.2 (λh=>h3 (wG.1 (by omega)));have t11:((c:Int)==69)=false:=beq_eq_false_iff_ne.2 (λh=>h11 (wH.1 (by omega)));have hcn:cnt m=m:=by unfold cnt;rw[if_neg h3,if_neg h11]
 rw[hcn];clear wG wH hcn;go_enter Tryz.func91,Tryz.ntmps91;go_wp2
 go_loopw [3] (λv wr=>zgQ m w v wr) (λv _=>15-(intOf v).toNat)
 case atStart=>exact⟨0,Nat.zero_le _,rfl,rfl⟩
 case round=>
  obtain⟨k,hk,rfl,rfl⟩:=hrel;have hlt:(k:Int)<15:=by omega
  have PR:k<Q8.size:=by show k<15;omega
  have q0:(0:Int)≤(k:Int):=by omega
  have hel:(Q8[k].toNat:Int)=((yI k).toNat:Int):=by unfold yI;rw[yx PR]
  by_cases e:k=m
  ·subst e
   have t1:((Q8[k].toNat:Int)==(c:Int))=true:=by rw[hel,hc.out];simp
   unfold Q8 at t1 PR;go_wp2;go_ret;exact⟨rfl,rfl⟩
  ·have t1:((Q8[k].toNat:Int)==(c:Int))=false:=by
    rw[hel,hc.out,beq_eq_false_iff_ne];intro h;exact e (zgN k (by omega) m (by omega) (UInt8.toNat_inj.1 (by omega)))
   unfold Q8 at t1 PR;go_wp2
   go_roundw
   case rel=>exact⟨k+1,by omega,by go_num,rfl⟩
   case measure=>simp[intOf];omega
end
end Go.Proofs.YtdjcidackkogjaaGreatDoor

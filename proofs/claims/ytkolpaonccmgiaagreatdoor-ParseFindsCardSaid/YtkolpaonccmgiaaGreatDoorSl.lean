/- What the document's own Nests, Deep, first and Row -/
import Derived.Test.YtkolpaonccmgiaaGreatDoorPdI
import Derived.Test.YtkolpaonccmgiaaGreatDoorSd
import Derived.Test.YtkolpaonccmgiaaGreatDoorRuAic
set_option linter.unusedVariables false
namespace Go.Proofs.YtkolpaonccmgiaaGreatDoor.Q
set_option linter.unusedSectionVars false
set_option linter.unusedVariables false
open Go.RowKit
section
variable (w:World)
set_option maxRecDepth 100000 in
set_option maxHeartbeats 2000000 in
theorem nests12_any (k:Int):Calls Tryz.prog 53 #[.int .i64 k] w fun e w'=>e=.returned (.bool (nsF k))∧w'=w:=by
 by_cases h1:9≤k
 ·have d1:decide ((9:Int)≤k)=true:=decide_eq_true h1
  by_cases h2:k≤14
  ·have d2:decide (k≤(14:Int))=true:=decide_eq_true h2
   rw [show nsF k=true from decide_eq_true (.inl ⟨h1,h2⟩)]
   go_enter Tryz.func53,Tryz.ntmps53
   go_wp2
   go_ret
   exact⟨rfl,rfl⟩
  ·have d2:decide (k≤(14:Int))=false:=decide_eq_false h2
   by_cases h3:k=16
   ·subst h3
    go_enter Tryz.func53,Tryz.ntmps53
    go_wp2
    go_ret
    exact⟨rfl,rfl⟩
   ·have d3:(k==16)=false:=by simpa using h3
    rw [show nsF k=false from decide_eq_false (by omega)]
    clear h3
    go_enter Tryz.func53,Tryz.ntmps53
    go_wp2
    go_ret
    exact⟨rfl,rfl⟩
 ·have d1:decide ((9:Int)≤k)=false:=decide_eq_false h1
  have d3:(k==16)=false:=by simp;omega
  rw [show nsF k=false from decide_eq_false (by omega)]
  go_enter Tryz.func53,Tryz.ntmps53
  go_wp2
  go_ret
  exact⟨rfl,rfl⟩
theorem dcF_le (nv:Nat→Nd) (i:Nat):∀k,dcF nv i k≤k
 |0=>Nat.le_refl _
 |k+1=>by
  have:=dcF_le nv i k
  unfold dcF
  have h2:∀b:Bool,b.toNat≤1:=by decide
  have:=h2 (nsF (nv k).k && abB nv k i i)
  omega
set_option maxRecDepth 100000 in
set_option maxHeartbeats 2000000 in
theorem deep12_any (oa:Option Addr) (N oc:Nat) (nv:Nat→Nd) (hl:NRow w oa N nv) (hs:Sp nv N) (i:Nat) (hi:i<N) (hN:N≤1000):
  Calls Tryz.prog 60 #[.slice oa N oc,.int .i64 (i:Int)] w fun e w'=>e=.returned (.int .i64 (depF nv i:Int))∧w'=w:=by
 have HL:=Lib.hid hl
 have HAB:=Lib.hid (fun k (hk:k<i)=>above_any w oa N oc N nv hl hs (Nat.le_refl _) (k:Int) i hi (abB nv k i i) (by
  rw [abB_iff i i (Nat.le_refl _)]
  constructor
  ·intro h;exact⟨k,rfl,h⟩
  ·rintro⟨y,hy,h⟩
   obtain rfl:y=k:=by omega
   exact h) (by omega))
 have HNE:=Lib.hid (fun k=>nests12_any w k)
 clear hl
 go_enter Tryz.func60,Tryz.ntmps60
 go_wp2
 go_loopw [5,6] (fun v5 v6 wr=>∃k:Nat,k≤i∧v5=.int .i64 (dcF nv i k:Int)∧v6=.int .i64 (k:Int)∧wr=w) (fun _ v6 _=>i - (intOf v6).toNat)
 case atStart=>exact⟨0,Nat.zero_le _,rfl,rfl,rfl⟩
 case round=>
  obtain⟨k,hk,rfl,rfl,rfl⟩:=hrel
  by_cases hlt:k<i
  ·have hp:(k:Int)<(i:Int):=by omega
   have q0:(0:Int)≤(k:Int):=by omega
   have q1:(k:Int)<(N:Int):=by omega
   obtain⟨b,off,hao,hbl,k0,k1,k2,k3⟩:=HL.out k (by omega)
   subst hao
   have hcs:dcF nv i (k+1)=dcF nv i k+(nsF (nv k).k && abB nv k i i).toNat:=rfl
   have hle:=dcF_le nv i k
   have H1:=Lib.hid (HNE.out (nv k).k)
   have H2:=Lib.hid (HAB.out k hlt)
   obtain⟨x,hx⟩:∃x,(nv k).k=x:=⟨_,rfl⟩
   obtain⟨c,hc⟩:∃c,dcF nv i k=c:=⟨_,rfl⟩
   obtain⟨b1,hb1⟩:∃b,nsF x=b:=⟨_,rfl⟩
   obtain⟨b2,hb2⟩:∃b,abB nv k i i=b:=⟨_,rfl⟩
   rw [hx]at k0 hcs H1
   rw [hb1,hb2]at hcs
   rw [hb1]at H1
   rw [hb2]at H2
   rw [hc]at hcs hle ⊢
   have e1:IntKind.i64.wrap ((k:Int)+1)=((k+1:Nat):Int):=by rw [IntWalk.i64_in _ (by omega)];rfl
   have e2:IntKind.i64.wrap ((c:Int)+1)=((c+1:Nat):Int):=by rw [IntWalk.i64_in _ (by omega)];rfl
   have HCS:=Lib.hid hcs
   clear hx hc hb1 hb2 hcs k1 k2 k3
   go_wp2_with fail
   refine H1.out.mono ?_
   rintro e w2 ⟨rfl,rfl⟩
   cases b1
   ·go_wp2
    refine⟨⟨k+1,by omega,by rw [HCS.out];simp,by go_num,by first|rfl|trivial⟩,by simp [intOf];omega⟩
   ·go_wp2_with fail
    refine H2.out.mono ?_
    rintro e w3 ⟨rfl,rfl⟩
    cases b2
    ·go_wp2
     refine⟨⟨k+1,by omega,by rw [HCS.out];simp,by go_num,by first|rfl|trivial⟩,by simp [intOf];omega⟩
    ·go_wp2
     refine⟨⟨k+1,by omega,by rw [HCS.out];simp,by go_num,by first|rfl|trivial⟩,by simp [intOf];omega⟩
  ·obtain rfl:k=i:=by omega
   go_wp2
   go_ret
   exact⟨rfl,rfl⟩
end
def ofO (lv:Nat→Lf) (nv:Nat→Nd):Option Nat→Lf
 |some k=>lv (nv k).f.toNat
 |none=>lf0
def fsLf (lv:Nat→Lf) (nv:Nat→Nd) (N i:Nat):Lf:=ofO lv nv (fsF nv i (N - (i+1)) (i+1))
theorem fsLf_s (lv:Nat→Lf) (nv:Nat→Nd) (N i:Nat):(fsLf lv nv N i).s=wtx lv nv N i:=by
 unfold fsLf wtx
 cases fsF nv i (N - (i+1)) (i+1)<;>rfl
def FsRl (w:World) (nv:Nat→Nd) (N i:Nat) (F:Option Nat) (v7:Value) (wr:World):Prop:=
 ∃j:Nat,i<j∧j≤N∧v7=.int .i64 (j:Int)∧fsF nv i (N - j) j=F∧Blk wr w.heap.size #[.int .i64 0,.string ⟨#[]⟩,.int .i64 0,.int .i64 0] 37∧Below w.heap.size w wr
section
variable (w:World)
set_option maxRecDepth 100000 in
set_option maxHeartbeats 4000000 in
theorem first12_any (la:Option Addr) (n lc:Nat) (lv:Nat→Lf) (hrow:LfRow w la n lv) (oa:Option Addr) (N oc:Nat) (nv:Nat→Nd) (hl:NRow w oa N nv) (hR:Rt nv N (n:Int)) (i:Nat) (hi:i<N) (hN:N≤1000) (hn:n≤1000):
  Calls Tryz.prog 61 #[.slice la n lc,.slice oa N oc,.int .i64 (i:Int)] w fun e w'=>e=.returned (aggF (fsLf lv nv N i))∧Below w.heap.size w w':=by
 have HROW:=Lib.hid hrow
 have HL:=Lib.hid hl
 have hf0:∀x,x<N→0≤(nv x).f∧(nv x).f≤(nv x).t∧(nv x).t≤(n:Int):=fun x hx=>by
  have:=nest hR.ok x hx 0 (abv0 hR.sp x hx)
  rw [hR.f0,hR.t0]at this
  exact⟨this.1,(hR.ok x hx).ft,this.2⟩
 have HF0:=Lib.hid hf0
 obtain⟨F,hF⟩:∃F,fsF nv i (N - (i+1)) (i+1)=F:=⟨_,rfl⟩
 have hfl:fsLf lv nv N i=ofO lv nv F:=by unfold fsLf;rw [hF]
 have HFL:=Lib.hid hfl
 have HF:=Lib.hid hF
 have e0:IntKind.i64.wrap ((i:Int)+1)=((i+1:Nat):Int):=by rw [IntWalk.i64_in _ (by omega)];rfl
 clear hrow hl hR hf0 hfl hF
 go_enter Tryz.func61,Tryz.ntmps61
 go_wp2
 go_loopw [7] (fun v7 wr=>FsRl w nv N i F v7 wr) (fun v7 _=>N - (intOf v7).toNat)
 case atStart=>exact⟨i+1,by omega,by omega,by go_num,HF.out,Blk.new w _ _,(Below.refl _ _).alloc (Nat.le_refl _) _⟩
 case round=>
  obtain⟨j,hij,hj,rfl,hFj,hB,hbl⟩:=hrel
  have HBK:=Lib.hid hB
  have HBL:=Lib.hid hbl
  by_cases hlt:j<N
  ·have q0:(0:Int)≤(j:Int):=by omega
   have q1:(j:Int)<(N:Int):=by omega
   have e1:IntKind.i64.wrap ((j:Int)+1)=((j+1:Nat):Int):=by rw [IntWalk.i64_in _ (by omega)];rfl
   obtain⟨b,off,hao,hbb,c0,c1,c2,c3⟩:=(HL.out.below hbl) j hlt
   subst hao
   obtain⟨g0,g1,g2⟩:=HF0.out j hlt
   have hfs:fsF nv i (N - j) j=if(nv j).u=(i:Int)∧(nv j).k=7∧(nv j).f<(nv j).t then some j else fsF nv i (N - (j+1)) (j+1):=by
    rw [show N - j=(N - (j+1))+1 by omega]
    rfl
   have hlf:=HROW.out.below hbl
   obtain⟨X,hX⟩:∃X,nv j=X:=⟨_,rfl⟩
   have HX:=Lib.hid hX
   rw [hX]at c0 c1 c2 c3 g0 g1 g2 hfs
   obtain⟨pk,pf,pt,pu⟩:=X
   simp only at c0 c1 c2 c3 g0 g1 g2 hfs
   rw [hFj]at hfs
   have HLF:=Lib.hid hlf
   clear hX hB hbl hlf
   by_cases hu:pu=(i:Int)
   ·subst hu
    by_cases h7:pk=7
    ·subst h7
     by_cases hft:pf<pt
     ·rw [if_pos ⟨rfl,rfl,hft⟩]at hfs
      obtain⟨f,rfl⟩:∃f:Nat,pf=(f:Int):=⟨pf.toNat,by omega⟩
      have hfn:f<n:=by omega
      have r0:(0:Int)≤(f:Int):=by omega
      have r1:(f:Int)<(n:Int):=by omega
      have d1:decide ((f:Int)<pt)=true:=decide_eq_true hft
      obtain⟨lb,lo,hla,hlb,l0,l1,l2,l3⟩:=HLF.out f hfn
      subst hla
      have hout:fsLf lv nv N i=lv f:=by
       rw [HFL.out,hfs]
       show lv (nv j).f.toNat=_
       rw [HX.out]
       rfl
      have HOUT:=Lib.hid hout
      clear hout hfs g0 g1 g2
      have z0:=HBK.out.cell 0
      have z1:=HBK.out.cell 1
      have z2:=HBK.out.cell 2
      have z3:=HBK.out.cell 3
      have y0:=HBK.out.frozen 0
      have y1:=HBK.out.frozen 1
      have y2:=HBK.out.frozen 2
      have y3:=HBK.out.frozen 3
      simp only [List.getElem?_toArray,List.getElem?_cons_zero,List.getElem?_cons_succ]at z0 z1 z2 z3
      obtain⟨Q,hQ⟩:∃Q,lv f=Q:=⟨_,rfl⟩
      have HQ:=Lib.hid hQ
      rw [hQ]at l0 l1 l2 l3
      obtain⟨lk,ls,lf,lt⟩:=Q
      simp only at l0 l1 l2 l3
      clear hQ
      go_wp2
      go_quiet (fail)
      go_wp2
      have k4:=((((HBK.out.drewN nq).set 0 (.int .i64 lk)).set 1 (.string ls)).set 2 (.int .i64 lf)).set 3 (.int .i64 lt)
      have u0:=k4.cell 0
      have u1:=k4.cell 1
      have u2:=k4.cell 2
      have u3:=k4.cell 3
      simp at u0 u1 u2 u3
      refine bodyPost_ret (v:=aggF ⟨lk,ls,lf,lt⟩) (by simp [results,Tryz.results61,go_sem,u0,u1,u2,u3,aggF]) rfl ?_
      refine⟨by rw [HOUT.out,HQ.out],?_⟩
      exact(((((belN HBL.out _).setCell (p:=⟨w.heap.size,0,none⟩) (Nat.le_refl _) _).setCell (p:=⟨w.heap.size,1,none⟩) (Nat.le_refl _) _).setCell (p:=⟨w.heap.size,2,none⟩) (Nat.le_refl _) _).setCell (p:=⟨w.heap.size,3,none⟩) (Nat.le_refl _) _)
     ·rw [if_neg (by rintro⟨_,_,h⟩;exact hft h)]at hfs
      have HFS:=Lib.hid hfs.symm
      have d1:decide (pf<pt)=false:=decide_eq_false hft
      clear hfs
      go_wp2
      go_quiet (fail)
      go_wp2
      refine⟨⟨j+1,by omega,by omega,by go_num,HFS.out,HBK.out.drewN _,belN HBL.out _⟩,by simp [intOf];omega⟩
    ·rw [if_neg (by rintro⟨_,h,_⟩;exact h7 h)]at hfs
     have HFS:=Lib.hid hfs.symm
     have d1:(pk==7)=false:=by simpa using h7
     clear hfs h7
     go_wp2
     go_quiet (fail)
     go_wp2
     refine⟨⟨j+1,by omega,by omega,by go_num,HFS.out,HBK.out.drewN _,belN HBL.out _⟩,by simp [intOf];omega⟩
   ·rw [if_neg (by rintro⟨h,_⟩;exact hu h)]at hfs
    have HFS:=Lib.hid hfs.symm
    have d1:(pu==(i:Int))=false:=by simpa using hu
    clear hfs hu
    go_wp2
    go_quiet (fail)
    go_wp2
    refine⟨⟨j+1,by omega,by omega,by go_num,HFS.out,HBK.out.drewN _,belN HBL.out _⟩,by simp [intOf];omega⟩
  ·obtain rfl:j=N:=by omega
   have z0:=HBK.out.cell 0
   have z1:=HBK.out.cell 1
   have z2:=HBK.out.cell 2
   have z3:=HBK.out.cell 3
   have y0:=HBK.out.frozen 0
   have y1:=HBK.out.frozen 1
   have y2:=HBK.out.frozen 2
   have y3:=HBK.out.frozen 3
   simp only [List.getElem?_toArray,List.getElem?_cons_zero,List.getElem?_cons_succ]at z0 z1 z2 z3
   have HFN:=Lib.hid (show fsLf lv nv j i=lf0 by rw [HFL.out,←hFj,Nat.sub_self];rfl)
   clear hFj hB hbl
   go_wp2
   have k4:=(((HBK.out.set 0 (.int .i64 0)).set 1 (.string ⟨#[]⟩)).set 2 (.int .i64 0)).set 3 (.int .i64 0)
   have u0:=k4.cell 0
   have u1:=k4.cell 1
   have u2:=k4.cell 2
   have u3:=k4.cell 3
   simp at u0 u1 u2 u3
   refine bodyPost_ret (v:=aggF lf0) (by simp [results,Tryz.results61,go_sem,u0,u1,u2,u3,aggF,lf0]) rfl ?_
   refine⟨by rw [HFN.out],?_⟩
   exact((((HBL.out.setCell (p:=⟨w.heap.size,0,none⟩) (Nat.le_refl _) _).setCell (p:=⟨w.heap.size,1,none⟩) (Nat.le_refl _) _).setCell (p:=⟨w.heap.size,2,none⟩) (Nat.le_refl _) _).setCell (p:=⟨w.heap.size,3,none⟩) (Nat.le_refl _) _)
end
def bOf (l:List Nat):ByteArray:=⟨(l.map Nat.toUInt8).toArray⟩
theorem bOf_app (a b:List Nat):bOf (a++b)=bOf a++bOf b:=by
 unfold bOf
 apply ByteArray.ext
 simp
theorem bOf_size (l:List Nat):(bOf l).size=l.length:=by
 show(bOf l).data.size=_
 simp [bOf]
theorem rlB_bOf {l:List Nat} (h:∀x∈l,x<256):rlB (bOf l)=l:=by
 unfold rlB bOf
 simp only [List.map_map]
 conv=>rhs;rw [←List.map_id l]
 apply List.map_congr_left
 intro x hx
 have:=h x hx
 simp [Nat.mod_eq_of_lt this]
theorem seg_len (sg:Nat→Nat):∀d a,(segP sg a d).length=d
 |0,_=>rfl
 |d+1,a=>by simp [segP,seg_len sg d]
theorem seg_mem {sg:Nat→Nat} {P:Nat→Prop} (h:∀a,P (sg a)):∀d a x,x∈segP sg a d→P x
 |0,_,x,hx=>by simp [segP]at hx
 |d+1,a,x,hx=>by
  simp only [segP,List.mem_cons]at hx
  rcases hx with rfl|hx
  ·exact h a
  ·exact seg_mem h d _ x hx
theorem letN_lt (k:Int):letN k<256:=by
 unfold letN
 by_cases h:(k - 1).toNat<18
 ·have:∀m,m<18→ [80,76,65,73,83,88,87,82,66,85,70,72,79,67,84,78,69,77].getD m 63<256:=by decide
  exact this _ h
 ·rw [List.getD_eq_getElem?_getD,List.getElem?_eq_none (by simpa using h)]
  decide
theorem rowG_mem {sg:Nat→Nat} (h:∀a,sg a<256) (nv:Nat→Nd) (i:Nat):∀d k a x,x∈rowG sg nv i d k a→x<256
 |0,k,a,x,hx=>seg_mem (P:=fun x=>x<256) h _ _ x hx
 |d+1,k,a,x,hx=>by
  unfold rowG at hx
  split at hx
  ·rcases List.mem_append.1 hx with hx|hx
   ·exact seg_mem (P:=fun x=>x<256) h _ _ x hx
   ·rcases List.mem_cons.1 hx with rfl|hx
    ·exact letN_lt _
    ·exact rowG_mem h nv i d _ _ x hx
  ·exact rowG_mem h nv i d _ _ x hx
theorem rowG_len {sg:Nat→Nat} {nv:Nat→Nd} {i n N:Nat} (hi:i<N) (h:∀x,x<N→(nv x).f.toNat≤n∧(nv x).t.toNat≤n):∀d k a,k+d≤N→(rowG sg nv i d k a).length≤(d+1)*(n+1)
 |0,k,a,hk=>by
  unfold rowG
  rw [seg_len]
  have:=(h i hi).2
  omega
 |d+1,k,a,hk=>by
  unfold rowG
  have e:(d+1+1)*(n+1)=(d+1)*(n+1)+(n+1):=by rw [Nat.add_mul (d+1) 1 (n+1),Nat.one_mul]
  split
  ·rw [List.length_append,List.length_cons,seg_len]
   have h1:=rowG_len (sg:=sg) hi h d (k+1) (nv k).t.toNat (by omega)
   have h2:=(h k (by omega)).1
   omega
  ·have h1:=rowG_len (sg:=sg) hi h d (k+1) a (by omega)
   omega
theorem cutL:∀q,q<19→1≤q→(⟨#[63,80,76,65,73,83,88,87,82,66,85,70,72,79,67,84,78,69,77]⟩:ByteArray).extract q (q+1)=bOf [letN (q:Int)]:=by decide+kernel
def RoRl (w:World) (R:List Nat) (sg:Nat→Nat) (nv:Nat→Nd) (n N i:Nat) (v7 v8 v9:Value) (wr:World):Prop:=
 ∃(acc:List Nat) (a k:Nat),v7=.string (bOf acc)∧v8=.int .i64 (a:Int)∧v9=.int .i64 (k:Int)∧i<k∧k≤N∧a≤n∧acc++rowG sg nv i (N - k) k a=R∧Below w.heap.size w wr
def RiRl (w:World) (M:List Nat) (sg:Nat→Nat) (n f:Nat) (v7 v8:Value) (wr:World):Prop:=
 ∃(acc:List Nat) (a:Nat),v7=.string (bOf acc)∧v8=.int .i64 (a:Int)∧a≤n∧acc++segP sg a (f - a)=M∧Below w.heap.size w wr
section
variable (w:World)
set_option maxRecDepth 100000 in
set_option maxHeartbeats 8000000 in
theorem row12_any (la:Option Addr) (n lc:Nat) (lv:Nat→Lf) (hrow:LfRow w la n lv) (hsm:∀i,i<n→(lv i).s.size≤100) (oa:Option Addr) (N oc:Nat) (nv:Nat→Nd) (hl:NRow w oa N nv) (hR:Rt nv N (n:Int)) (i:Nat) (hi:i<N) (hN:N≤1000) (hn:n≤1000):
  Calls Tryz.prog 59 #[.slice la n lc,.slice oa N oc,.int .i64 (i:Int)] w fun e w'=>e=.returned (.string (bOf (rowF (sgA n lv) nv N i)))∧Below w.heap.size w w':=by
 have HROW:=Lib.hid hrow
 have HL:=Lib.hid hl
 have hf0:∀x,x<N→0≤(nv x).f∧(nv x).f≤(nv x).t∧(nv x).t≤(n:Int):=fun x hx=>by
  have:=nest hR.ok x hx 0 (abv0 hR.sp x hx)
  rw [hR.f0,hR.t0]at this
  exact⟨this.1,(hR.ok x hx).ft,this.2⟩
 have HF0:=Lib.hid hf0
 have HKK:=Lib.hid (fun x (hx:x<N)=>And.intro (hR.ok x hx).k1 (hR.ok x hx).k2)
 have HSG:=Lib.hid (fun(a:Nat) (ha:a<n) W=>(show Calls Tryz.prog 30 #[aggF (lv a)] W fun e w'=>e=.returned (.string (bOf [sgA n lv a]))∧Below W.heap.size W w' by
  have:=refsign_any W (lv a) (hsm a ha)
  have e:sgB (lv a).k (lv a).s=bOf [sgA n lv a]:=by unfold sgB sgA lfA;rw [if_pos ha];rfl
  rwa [e]at this))
 obtain⟨sg,hsg⟩:∃sg,sgA n lv=sg:=⟨_,rfl⟩
 rw [hsg]at HSG ⊢
 obtain⟨R,hRR⟩:∃R,rowF sg nv N i=R:=⟨_,rfl⟩
 have hlen:R.length≤(N - (i+1)+1)*(n+1):=by
  rw [←hRR]
  exact rowG_len hi (fun x hx=>by have:=hf0 x hx;omega) _ _ _ (by omega)
 have hlen2:R.length≤2000000:=Nat.le_trans hlen (Nat.le_trans (Nat.mul_le_mul (show N - (i+1)+1≤1001 by omega) (show n+1≤1001 by omega)) (by decide))
 have HLEN:=Lib.hid hlen2
 have HRR:=Lib.hid (show rowG sg nv i (N - (i+1)) (i+1) (nv i).f.toNat=R from hRR)
 rw [hRR]
 have e0:IntKind.i64.wrap ((i:Int)+1)=((i+1:Nat):Int):=by rw [IntWalk.i64_in _ (by omega)];rfl
 obtain⟨ob,oo,hoa,hob,c0,c1,c2,c3⟩:=hl i hi
 subst hoa
 obtain⟨ti,hti⟩:∃t:Nat,(nv i).t=(t:Int):=⟨(nv i).t.toNat,by have:=hf0 i hi;omega⟩
 obtain⟨fi,hfi⟩:∃f:Nat,(nv i).f=(f:Int):=⟨(nv i).f.toNat,by have:=hf0 i hi;omega⟩
 have htn:ti≤n∧fi≤n:=by have:=hf0 i hi;omega
 have HTI:=Lib.hid hti
 have HFI:=Lib.hid hfi
 rw [hfi]at c1
 rw [hti]at c2
 have C2:=Lib.hid c2
 have q0:(0:Int)≤(i:Int):=by omega
 have q1:(i:Int)<(N:Int):=by omega
 clear hrow hl hR hf0 hsm hsg hRR hlen hlen2 c0 c2 c3 hti hfi
 go_enter Tryz.func59,Tryz.ntmps59
 go_wp2
 go_loopw [7,8,9] (fun v7 v8 v9 wr=>RoRl w R sg nv n N i v7 v8 v9 wr) (fun _ _ v9 _=>N - (intOf v9).toNat)
 case atStart=>exact⟨[],fi,i+1,rfl,rfl,by go_num,by omega,by omega,htn.2,by rw [List.nil_append,←HRR.out,HFI.out];rfl,Below.refl _ _⟩
 case round=>
  obtain⟨acc,a,k,rfl,rfl,rfl,hik,hkN,han,hacc,hbl⟩:=hrel
  have HBL:=Lib.hid hbl
  by_cases hlt:k<N
  ·have r0:(0:Int)≤(k:Int):=by omega
   have r1:(k:Int)<(N:Int):=by omega
   have e1:IntKind.i64.wrap ((k:Int)+1)=((k+1:Nat):Int):=by rw [IntWalk.i64_in _ (by omega)];rfl
   obtain⟨b,off,hao,hbb,d0,d1,d2,d3⟩:=(HL.out.below hbl) k hlt
   cases hao
   obtain⟨g0,g1,g2⟩:=HF0.out k hlt
   obtain⟨kk1,kk2⟩:=HKK.out k hlt
   rw [show N - k=(N - (k+1))+1 by omega,rowG]at hacc
   obtain⟨X,hX⟩:∃X,nv k=X:=⟨_,rfl⟩
   rw [hX]at d0 d1 d2 d3 g0 g1 g2 hacc kk1 kk2
   obtain⟨pk,pf,pt,pu⟩:=X
   simp only at d0 d1 d2 d3 g0 g1 g2 hacc kk1 kk2
   have HX:=Lib.hid hX
   clear hX hbl
   by_cases hu:pu=(i:Int)
   ·subst hu
    rw [if_pos rfl]at hacc
    obtain⟨f,rfl⟩:∃f:Nat,pf=(f:Int):=⟨pf.toNat,by omega⟩
    obtain⟨t,rfl⟩:∃t:Nat,pt=(t:Int):=⟨pt.toNat,by omega⟩
    obtain⟨q,rfl⟩:∃q:Nat,pk=(q:Int):=⟨pk.toNat,by omega⟩
    rw [Int.toNat_natCast,Int.toNat_natCast]at hacc
    have hfn:f≤n:=by omega
    have htn2:t≤n:=by omega
    have hq1:1≤q:=by omega
    have hq2:q<19:=by omega
    have hcut:=cutL q hq2 hq1
    have D0:=Lib.hid d0
    have D1:=Lib.hid d1
    have D2:=Lib.hid d2
    have D3:=Lib.hid d3
    obtain⟨M,hM⟩:∃M,acc++segP sg a (f - a)=M:=⟨_,rfl⟩
    rw [←List.append_assoc,hM]at hacc
    have HACC:=Lib.hid hacc
    have HM:=Lib.hid hM
    have hMl:M.length≤R.length:=by rw [←hacc,List.length_append];omega
    have HML:=Lib.hid hMl
    have HBB:=Lib.hid hbb
    clear hacc hM hMl d0 d1 d2
    go_wp2
    go_loopw [7,8] (fun v7 v8 ws=>RiRl wr M sg n f v7 v8 ws) (fun _ v8 _=>n+1 - (intOf v8).toNat)
    case atStart=>exact⟨acc,a,rfl,rfl,han,HM.out,Below.refl _ _⟩
    case round=>
     obtain⟨acc2,a2,rfl,rfl,ha2n,hac2,hb2⟩:=hrel
     have HB2:=Lib.hid hb2
     have d1:=(hb2.cell (p:=⟨ob,oo+k*4+1,none⟩) HBB.out).trans D1.out
     by_cases hlt2:a2<f
     ·have s0:(0:Int)≤(a2:Int):=by omega
      have s1:(a2:Int)<(f:Int):=by omega
      have s2:(a2:Int)<(n:Int):=by omega
      have e2:IntKind.i64.wrap ((a2:Int)+1)=((a2+1:Nat):Int):=by rw [IntWalk.i64_in _ (by omega)];rfl
      obtain⟨lb,lo,hla,hlb,l0,l1,l2,l3⟩:=(HROW.out.below (HBL.out.trans (hb2.mono HBL.out.size))) a2 (by omega)
      subst hla
      have HS:=Lib.hid (HSG.out a2 (by omega))
      rw [show f - a2=(f - (a2+1))+1 by omega,segP]at hac2
      have hl2:acc2.length≤2000000:=by
       have h1:=HML.out
       have h2:=HLEN.out
       rw [←hac2,List.length_append]at h1
       omega
      have z1:¬(bOf acc2).size+(bOf [sg a2]).size>9223372036854775807:=by rw [bOf_size,bOf_size,List.length_singleton];omega
      have HAC2:=Lib.hid hac2
      obtain⟨Q,hQ⟩:∃Q,lv a2=Q:=⟨_,rfl⟩
      rw [hQ]at l0 l1 l2 l3 HS
      obtain⟨lk,ls,lf,lt⟩:=Q
      simp only at l0 l1 l2 l3
      have hss:=HS.out
      unfold aggF at hss
      simp only at hss
      have HSS:=Lib.hid hss
      clear hQ hac2 hb2 hl2 hss HS
      go_wp2_with fail
      refine(HSS.out _).mono ?_
      rintro e w3 ⟨rfl,hb3⟩
      have HB3:=Lib.hid (HB2.out.trans (hb3.mono HB2.out.size))
      clear hb3
      go_wp2
      refine⟨⟨acc2++ [sg a2],a2+1,by rw [bOf_app],by go_num,by omega,?_,HB3.out⟩,by simp [intOf];omega⟩
      rw [List.append_assoc]
      exact HAC2.out
     ·have hz:f - a2=0:=by omega
      rw [hz,segP,List.append_nil]at hac2
      subst hac2
      have d0:=(hb2.cell (p:=⟨ob,oo+k*4,none⟩) HBB.out).trans D0.out
      have d2:=(hb2.cell (p:=⟨ob,oo+k*4+2,none⟩) HBB.out).trans D2.out
      have t0:(0:Int)≤(q:Int):=by omega
      have t1:(q:Int)+1≤19:=by omega
      have t2:(q:Int)≤(q:Int)+1:=by omega
      have e3:IntKind.i64.wrap ((q:Int)+1)=((q+1:Nat):Int):=by rw [IntWalk.i64_in _ (by omega)];rfl
      have hl2:acc2.length≤2000000:=Nat.le_trans HML.out HLEN.out
      have z1:¬(bOf acc2).size+(bOf [letN (q:Int)]).size>9223372036854775807:=by rw [bOf_size,bOf_size,List.length_singleton];omega
      have hlt3:¬(a2:Int)<(f:Int):=by omega
      clear hb2 hl2 hz
      go_wp2
      go_quiet (fail)
      go_wp2
      refine⟨⟨acc2++ [letN (q:Int)],t,k+1,by rw [bOf_app],by go_num,by go_num,by omega,by omega,htn2,?_,belN (HBL.out.trans (HB2.out.mono HBL.out.size)) _⟩,by simp [intOf];omega⟩
      rw [List.append_assoc]
      exact HACC.out
   ·rw [if_neg hu]at hacc
    have HACC:=Lib.hid hacc
    have f1:(pu==(i:Int))=false:=by simpa using hu
    clear hacc hu
    go_wp2
    refine⟨⟨acc,a,k+1,rfl,rfl,by go_num,by omega,by omega,han,HACC.out,HBL.out⟩,by simp [intOf];omega⟩
  ·obtain rfl:k=N:=by omega
   rw [Nat.sub_self,rowG,HTI.out,Int.toNat_natCast]at hacc
   have HACC:=Lib.hid hacc
   clear hacc
   go_wp2
   go_loopw [7,8] (fun v7 v8 ws=>RiRl wr R sg n ti v7 v8 ws) (fun _ v8 _=>n+1 - (intOf v8).toNat)
   case atStart=>exact⟨acc,a,rfl,rfl,han,HACC.out,Below.refl _ _⟩
   case round=>
    obtain⟨acc2,a2,rfl,rfl,ha2n,hac2,hb2⟩:=hrel
    have HB2:=Lib.hid hb2
    have d2:=((HBL.out.trans (hb2.mono HBL.out.size)).cell (p:=⟨ob,oo+i*4+2,none⟩) hob).trans C2.out
    by_cases hlt2:a2<ti
    ·have s0:(0:Int)≤(a2:Int):=by omega
     have s1:(a2:Int)<(ti:Int):=by omega
     have s2:(a2:Int)<(n:Int):=by omega
     have e2:IntKind.i64.wrap ((a2:Int)+1)=((a2+1:Nat):Int):=by rw [IntWalk.i64_in _ (by omega)];rfl
     obtain⟨lb,lo,hla,hlb,l0,l1,l2,l3⟩:=(HROW.out.below (HBL.out.trans (hb2.mono HBL.out.size))) a2 (by omega)
     subst hla
     have HS:=Lib.hid (HSG.out a2 (by omega))
     rw [show ti - a2=(ti - (a2+1))+1 by omega,segP]at hac2
     have hl2:acc2.length≤2000000:=by
      have h2:=HLEN.out
      rw [←hac2,List.length_append]at h2
      omega
     have z1:¬(bOf acc2).size+(bOf [sg a2]).size>9223372036854775807:=by rw [bOf_size,bOf_size,List.length_singleton];omega
     have HAC2:=Lib.hid hac2
     obtain⟨Q,hQ⟩:∃Q,lv a2=Q:=⟨_,rfl⟩
     rw [hQ]at l0 l1 l2 l3 HS
     obtain⟨lk,ls,lf,lt⟩:=Q
     simp only at l0 l1 l2 l3
     have hss:=HS.out
     unfold aggF at hss
     simp only at hss
     have HSS:=Lib.hid hss
     clear hQ hac2 hb2 hl2 hss HS
     go_wp2_with fail
     refine(HSS.out _).mono ?_
     rintro e w3 ⟨rfl,hb3⟩
     have HB3:=Lib.hid (HB2.out.trans (hb3.mono HB2.out.size))
     clear hb3
     go_wp2
     refine⟨⟨acc2++ [sg a2],a2+1,by rw [bOf_app],by go_num,by omega,?_,HB3.out⟩,by simp [intOf];omega⟩
     rw [List.append_assoc]
     exact HAC2.out
    ·have hz:ti - a2=0:=by omega
     rw [hz,segP,List.append_nil]at hac2
     have HAC2:=Lib.hid hac2
     have hlt3:¬(a2:Int)<(ti:Int):=by omega
     clear hb2 hz hac2
     go_wp2
     go_ret
     exact⟨by rw [HAC2.out];rfl,HBL.out.trans (HB2.out.mono HBL.out.size)⟩
end
end Go.Proofs.YtkolpaonccmgiaaGreatDoor.Q

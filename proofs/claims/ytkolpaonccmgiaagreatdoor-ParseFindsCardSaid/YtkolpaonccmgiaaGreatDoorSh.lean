/- A node's row, walked along the tree: leaf by leaf, -/
import Derived.Test.YtkolpaonccmgiaaGreatDoorSu
set_option linter.unusedVariables false
namespace Go.Proofs.YtkolpaonccmgiaaGreatDoor.Q
set_option linter.unusedSectionVars false
set_option linter.unusedVariables false
open Go.RowKit
section
variable {nv:Nat→Nd} {N:Nat}
theorem contigF (hs:Sp nv N):∀b,b<N→∀a,Abv nv a b→∀j,a≤j→j≤b→Abv nv a j:=by
 intro b
 induction b using Nat.strongRecOn with
 |_ b ih=>
  intro hb a h j h1 h2
  rcases Nat.lt_or_ge j b with hj|hj
  ·rcases h.inv with rfl|⟨c,e,l,g⟩
   ·omega
   ·obtain⟨u,e',l',g'⟩:=hs.2 b (by omega) hb
    obtain rfl:c=u:=by omega
    exact ih (b - 1) (by omega) (by omega) a (g.trans g') j h1 (by omega)
  ·obtain rfl:j=b:=by omega
   exact h
theorem isEnd_ex (hs:Sp nv N) {i:Nat} (hi:i<N):∃e,IsEnd nv N i e:=by
 suffices h:∀d j,N - j=d→i<j→j≤N→(∀k,i<k→k<j→(i:Int)≤(nv k).u)→∃e,IsEnd nv N i e by
  exact h _ (i+1) rfl (by omega) (by omega) (fun k h1 h2=>by omega)
 intro d
 induction d with
 |zero=>
  intro j hd h1 h2 h3
  exact⟨N,by omega,Nat.le_refl _,fun k hk hk2=>h3 k hk (by omega),fun h=>by omega⟩
 |succ d ih=>
  intro j hd h1 h2 h3
  by_cases hj:(nv j).u<(i:Int)
  ·exact⟨j,h1,h2,h3,fun _=>hj⟩
  ·refine ih (j+1) (by omega) (by omega) (by omega) (fun k hk hk2=>?_)
   rcases Nat.lt_or_ge k j with g|g
   ·exact h3 k hk g
   ·obtain rfl:k=j:=by omega
    omega
theorem endBelow {i e:Nat} (hs:Sp nv N) (he:IsEnd nv N i e):∀k,k<e→i≤k→Abv nv i k:=by
 intro k
 induction k using Nat.strongRecOn with
 |_ k ih=>
  intro hk hi
  rcases Nat.eq_or_lt_of_le hi with rfl|h
  ·exact .self
  ·have hle:=he.le
   obtain⟨u,e1,l,_⟩:=hs.2 k (by omega) (by omega)
   have:=he.below k h hk
   exact .up e1 l (ih u l (by omega) (by omega))
theorem end_next (hs:Sp nv N) {i j e:Nat} (hu:(nv j).u=(i:Int)) (hij:i<j) (he:IsEnd nv N j e) (hlt:e<N) (hn:(nv e).u≠(i:Int)):(nv e).u<(i:Int):=by
 have hl:=he.lt
 obtain⟨u,e1,l,g⟩:=hs.2 e (by omega) hlt
 have h1:=he.stop hlt
 have h2:Abv nv j (e - 1):=endBelow hs he (e - 1) (by omega) (by omega)
 have h3:Abv nv u j:=g.tot h2 (by omega)
 rcases h3.inv with rfl|⟨c,e2,l2,g2⟩
 ·omega
 ·obtain rfl:c=i:=by omega
  have:=g2.le
  omega
theorem end_after (hs:Sp nv N) {i e:Nat} (he:IsEnd nv N i e):∀k,e≤k→k<N→(nv k).u≠(i:Int):=by
 intro k h1 h2 hu
 have hl:=he.lt
 have h3:Abv nv i k:=.up hu (by omega) .self
 have h4:=contigF hs k h2 i h3 e (by omega) h1
 rcases h4.inv with rfl|⟨c,e1,l,g⟩
 ·omega
 ·have:=he.stop (by omega)
  have:=g.le
  omega
def rowG (sg:Nat→Nat) (nv:Nat→Nd) (i:Nat):Nat→Nat→Nat→List Nat
 |0,k,a=>segP sg a ((nv i).t.toNat - a)
 |d+1,k,a=>if(nv k).u=(i:Int)then segP sg a ((nv k).f.toNat - a)++letN (nv k).k::rowG sg nv i d (k+1) (nv k).t.toNat else rowG sg nv i d (k+1) a
inductive Rw (sg:Nat→Nat) (nv:Nat→Nd) (N i:Nat):Nat→Nat→List Nat→Prop
 |fin {a j:Nat}:(a:Int)=(nv i).t→IsEnd nv N i j→Rw sg nv N i a j []
 |leaf {a j:Nat} {r:List Nat}:Rw sg nv N i (a+1) j r→Rw sg nv N i a j (sg a::r)
 |kid {a b j e:Nat} {r:List Nat}:j<N→i<j→(nv j).u=(i:Int)→(a:Int)=(nv j).f→(b:Int)=(nv j).t→IsEnd nv N j e→Rw sg nv N i b e r→Rw sg nv N i a j (letN (nv j).k::r)
variable {sg:Nat→Nat}
theorem rw_seg {i j:Nat}:∀{d a:Nat} {r:List Nat},Rw sg nv N i (a+d) j r→Rw sg nv N i a j (segP sg a d++r)
 |0,a,r,h=>h
 |d+1,a,r,h=> .leaf (rw_seg (by rw [Nat.add_assoc,Nat.add_comm 1 d];exact h))
theorem rowG_skip {i:Nat}:∀(d k e a:Nat),k≤e→e≤k+d→(∀x,k≤x→x<e→(nv x).u≠(i:Int))→rowG sg nv i d k a=rowG sg nv i (k+d - e) e a
 |0,k,e,a,h1,h2,_=>by
  obtain rfl:e=k:=by omega
  simp
 |d+1,k,e,a,h1,h2,h3=>by
  rcases Nat.eq_or_lt_of_le h1 with rfl|h
  ·rw [Nat.add_sub_cancel_left]
  ·rw [rowG,if_neg (h3 k (Nat.le_refl _) h),rowG_skip d (k+1) e a h (by omega) (fun x hx hx2=>h3 x (by omega) hx2),show k+1+d - e=k+(d+1) - e by omega]
theorem rw_rowG {leaves:Int} (hR:Rt nv N leaves) {i:Nat} (hi:i<N):∀(d j a:Nat),N - j=d→i<j→j≤N→(∀k,i<k→k<j→(i:Int)≤(nv k).u)→(j<N→(nv j).u≤(i:Int))→(a:Int)≤(nv i).t→(∀k,0<k→j≤k→k<N→(nv k).u=(i:Int)→(a:Int)≤(nv k).f)→
  Rw sg nv N i a j (rowG sg nv i d j a):=by
 have hs:=hR.sp
 have hf0:∀x,x<N→0≤(nv x).f:=fun x hx=>by
  have:=nest hR.ok x hx 0 (abv0 hs x hx)
  rw [hR.f0]at this
  exact this.1
 intro d
 induction d using Nat.strongRecOn with
 |_ d ih=>
  intro j a hd h1 h2 h3 h4 ha hk
  have hend:∀e,IsEnd nv N i e→Rw sg nv N i a e (segP sg a ((nv i).t.toNat - a)):=by
   intro e he
   have:=rw_seg (sg:=sg) (d:=(nv i).t.toNat - a) (a:=a) (.fin (by have:=hf0 i hi;omega) he)
   rwa [List.append_nil]at this
  rcases Nat.eq_or_lt_of_le h2 with rfl|hj
  ·obtain rfl:d=0:=by omega
   exact hend _ ⟨h1,Nat.le_refl _,h3,fun h=>by omega⟩
  ·obtain⟨d',rfl⟩:∃d',d=d'+1:=⟨d - 1,by omega⟩
   by_cases hu:(nv j).u=(i:Int)
   ·rw [rowG,if_pos hu]
    have hfj:=hf0 j hj
    have haj:=hk j (by omega) (Nat.le_refl _) hj hu
    have hok:=hR.ok j hj
    have hft:=hok.ft
    obtain⟨u,e1,l,_,_,htu,_⟩:=hok.hang (by omega)
    obtain rfl:u=i:=by omega
    obtain⟨e,he⟩:=isEnd_ex hs hj
    have hel:=he.lt
    have hele:=he.le
    refine rw_seg (.kid hj h1 hu (by omega) (b:=(nv j).t.toNat) (by omega) he ?_)
    have hskip:rowG sg nv u d' (j+1) (nv j).t.toNat=rowG sg nv u (N - e) e (nv j).t.toNat:=by
     rw [rowG_skip (nv:=nv) (sg:=sg) d' (j+1) e _ (by omega) (by omega) (fun x hx hx2=>by have:=he.below x (by omega) hx2;omega),show j+1+d' - e=N - e by omega]
    rw [hskip]
    refine ih (N - e) (by omega) e _ rfl (by omega) hele (fun k g1 g2=>?_) (fun g=>?_) (by omega) (fun k g0 g1 g2 g3=>?_)
    ·rcases Nat.lt_trichotomy k j with g|g|g
     ·exact h3 k g1 g
     ·rw [g,hu];exact Int.le_refl _
     ·have:=he.below k g g2;omega
    ·by_cases hne:(nv e).u=(u:Int)
     ·omega
     ·have:=end_next hs hu h1 he g hne;omega
    ·have hokk:=hR.ok k g2
     obtain⟨u',e1',_,_,_,_,hel'⟩:=hokk.hang g0
     have:=hel' j (by omega) (by omega) (by omega)
     omega
   ·have hlt:(nv j).u<(i:Int):=by have:=h4 hj;omega
    have he:IsEnd nv N i j:=⟨h1,h2,h3,fun _=>hlt⟩
    have hskip:rowG sg nv i (d'+1) j a=rowG sg nv i (j+(d'+1) - N) N a:=rowG_skip (d'+1) j N a h2 (by omega) (fun x hx hx2=>end_after hs he x hx hx2)
    rw [hskip,show j+(d'+1) - N=0 by omega]
    exact hend j he
def rowF (sg:Nat→Nat) (nv:Nat→Nd) (N i:Nat):List Nat:=rowG sg nv i (N - (i+1)) (i+1) (nv i).f.toNat
theorem rw_row {leaves:Int} (hR:Rt nv N leaves) {i:Nat} (hi:i<N):Rw sg nv N i (nv i).f.toNat (i+1) (rowF sg nv N i):=by
 have hs:=hR.sp
 have hf0:0≤(nv i).f:=by
  have:=nest hR.ok i hi 0 (abv0 hs i hi)
  rw [hR.f0]at this
  exact this.1
 have hft:=(hR.ok i hi).ft
 refine rw_rowG hR hi _ (i+1) _ rfl (by omega) (by omega) (fun k h1 h2=>by omega) (fun h=>?_) (by omega) (fun k h0 h1 h2 h3=>?_)
 ·obtain⟨u,e,l,_⟩:=hs.2 (i+1) (by omega) h
  omega
 ·obtain⟨u,e1,_,_,g,_⟩:=(hR.ok k h2).hang h0
  obtain rfl:u=i:=by omega
  omega
end
def upL:List Nat:=[80,76,65,73,83,88,87,82,66,85,70,72,79,67,84,78,69,77]
theorem letN_up {k:Int} (h1:1≤k) (h2:k≤18):letN k∈upL:=by
 obtain⟨m,rfl⟩:∃m:Nat,k=((m+1:Nat):Int):=⟨(k - 1).toNat,by omega⟩
 have hm:m<18:=by omega
 have:∀m,m<18→letN ((m+1:Nat):Int)∈upL:=by decide
 exact this m hm
theorem letN_inj {k k':Int} (h1:1≤k) (h2:k≤18) (h1':1≤k') (h2':k'≤18) (h:letN k=letN k'):k=k':=by
 obtain⟨m,rfl⟩:∃m:Nat,k=((m+1:Nat):Int):=⟨(k - 1).toNat,by omega⟩
 obtain⟨m',rfl⟩:∃m:Nat,k'=((m+1:Nat):Int):=⟨(k' - 1).toNat,by omega⟩
 have:∀m,m<18→∀m',m'<18→letN ((m+1:Nat):Int)=letN ((m'+1:Nat):Int)→m=m':=by decide
 rw [this m (by omega) m' (by omega) h]
theorem opS_low (o:Nat):opS o∉upL:=by
 by_cases h:o<18
 ·have:∀k,k<18→opS k∉upL:=by decide
  exact this o h
 ·unfold opS
  rw [List.getD_eq_getElem?_getD,List.getElem?_eq_none (by simpa using h)]
  decide
theorem wdS_low (s:ByteArray):wdS s∉upL:=by
 unfold wdS
 cases h:wdL.find? (fun p=>s.data.toList==p.1)with
 |none=>decide
 |some p=>
  have hm:=List.mem_of_find?_eq_some h
  have:∀p∈wdL,p.2∉upL:=by decide
  exact this p hm
theorem sgn_low (k:Int) (s:ByteArray):sgn k s∉upL:=by
 unfold sgn
 split
 ·decide
 ·split
  ·exact opS_low _
  ·split
   ·decide
   ·split
    ·exact wdS_low s
    ·decide
section
variable {nv:Nat→Nd} {N i:Nat} {sg:Nat→Nat} (hsg:∀a,sg a∉upL) (hk:∀j,j<N→1≤(nv j).k∧(nv j).k≤18)
theorem rw_nil {a j:Nat} (h:Rw sg nv N i a j []):(a:Int)=(nv i).t∧IsEnd nv N i j:=by
 cases h with
 |fin h1 h2=>exact⟨h1,h2⟩
include hk in
theorem rw_leaf {a j c:Nat} {r:List Nat} (h:Rw sg nv N i a j (c::r)) (hc:c∉upL):sg a=c∧Rw sg nv N i (a+1) j r:=by
 cases h with
 |leaf h=>exact⟨rfl,h⟩
 |kid hj _ _ _ _ _ _=>exact absurd (letN_up (hk _ hj).1 (hk _ hj).2) hc
structure Kid (nv:Nat→Nd) (N i a j b e:Nat):Prop where
 lt:j<N
 ij:i<j
 u:(nv j).u=(i:Int)
 f:(a:Int)=(nv j).f
 t:(b:Int)=(nv j).t
 e:IsEnd nv N j e
include hsg in
theorem rw_kid {a j c:Nat} {r:List Nat} (h:Rw sg nv N i a j (c::r)) (hc:c∈upL):letN (nv j).k=c∧∃b e,Kid nv N i a j b e∧Rw sg nv N i b e r:=by
 cases h with
 |leaf h=>exact absurd hc (hsg _)
 |kid h1 h2 h3 h4 h5 h6 h7=>exact⟨rfl,_,_,⟨h1,h2,h3,h4,h5,h6⟩,h7⟩
end
theorem nd_eq {a b:Nd} (h1:a.k=b.k) (h2:a.f=b.f) (h3:a.t=b.t) (h4:a.u=b.u):a=b:=by
 cases a;cases b;simp_all
def slcF (nv:Nat→Nd) (j j':Nat):List Nd:=(List.range (j' - j)).map fun x=>nv (j+x)
theorem slcF_nil (nv:Nat→Nd) (j:Nat):slcF nv j j=[]:=by simp [slcF]
theorem slcF_app {nv:Nat→Nd} {a b c:Nat} (h1:a≤b) (h2:b≤c):slcF nv a b++slcF nv b c=slcF nv a c:=by
 unfold slcF
 rw [show c - a=(b - a)+(c - b) by omega,List.range_add,List.map_append,List.map_map]
 congr 1
 apply List.map_congr_left
 intro x _
 show nv (b+x)=nv (a+(b - a+x))
 congr 1
 omega
theorem slcF_cons {nv:Nat→Nd} {a b:Nat} (h:a<b):slcF nv a b=nv a::slcF nv (a+1) b:=by
 rw [←slcF_app (nv:=nv) (a:=a) (b:=a+1) (by omega) h]
 unfold slcF
 rw [show a+1 - a=1 by omega]
 rfl
theorem slcF_len (nv:Nat→Nd) (a b:Nat):(slcF nv a b).length=b - a:=by simp [slcF]
section
variable (n:Nat) (lv:Nat→Lf) (nv:Nat→Nd)
def GoF (i D:Nat) (p:PP) (a j a' j':Nat):Prop:=
 j≤j'∧∀s:PS,s.a=a→s.u=(i:Int)→s.d=D→s.L.length=j→∃s',Ev n lv p s s'∧s'.a=a'∧s'.u=(i:Int)∧s'.d=D∧s'.L=s.L++slcF nv j j'
def tst (c:PS→Bool) (a D:Nat) (b:Bool):Prop:=∀s:PS,s.a=a→s.d=D→c s=b
end
section
variable {n:Nat} {lv:Nat→Lf} {nv:Nat→Nd} {i D:Nat}
theorem goF_skip {a j:Nat}:GoF n lv nv i D .skip a j a j:=⟨Nat.le_refl _,fun s h1 h2 h3 h4=>⟨s,.skip,h1,h2,h3,by rw [slcF_nil,List.append_nil]⟩⟩
theorem goF_adv {a j:Nat}:GoF n lv nv i D .adv a j (a+1) j:=⟨Nat.le_refl _,fun s h1 h2 h3 h4=>⟨nxt s,.adv,by simp only [nxt];omega,h2,h3,by rw [slcF_nil,List.append_nil];rfl⟩⟩
theorem goF_seq {p q:PP} {a j a1 j1 a' j':Nat} (h:GoF n lv nv i D p a j a1 j1) (g:GoF n lv nv i D q a1 j1 a' j'):GoF n lv nv i D (.seq p q) a j a' j':=by
 refine⟨Nat.le_trans h.1 g.1,fun s h1 h2 h3 h4=>?_⟩
 obtain⟨s1,e1,k1,k2,k3,k4⟩:=h.2 s h1 h2 h3 h4
 have hl:=h.1
 obtain⟨s2,e2,m1,m2,m3,m4⟩:=g.2 s1 k1 k2 k3 (by rw [k4,List.length_append,slcF_len];omega)
 exact⟨s2,.seq e1 e2,m1,m2,m3,by rw [m4,k4,List.append_assoc,slcF_app h.1 g.1]⟩
theorem goF_yes {c:PS→Bool} {p q:PP} {a j a' j':Nat} (hc:tst c a D true) (h:GoF n lv nv i D p a j a' j'):GoF n lv nv i D (.ite c p q) a j a' j':=by
 refine⟨h.1,fun s h1 h2 h3 h4=>?_⟩
 obtain⟨s1,e1,k⟩:=h.2 s h1 h2 h3 h4
 exact⟨s1,.yes (hc s h1 h3) e1,k⟩
theorem goF_no {c:PS→Bool} {p q:PP} {a j a' j':Nat} (hc:tst c a D false) (h:GoF n lv nv i D q a j a' j'):GoF n lv nv i D (.ite c p q) a j a' j':=by
 refine⟨h.1,fun s h1 h2 h3 h4=>?_⟩
 obtain⟨s1,e1,k⟩:=h.2 s h1 h2 h3 h4
 exact⟨s1,.no (hc s h1 h3) e1,k⟩
theorem goF_stop {c d:PS→Bool} {p q:PP} {a j:Nat} (hc:tst c a D false):GoF n lv nv i D (.rep c p d q) a j a j:=
 ⟨Nat.le_refl _,fun s h1 h2 h3 h4=>⟨s,.stop (hc s h1 h3),h1,h2,h3,by rw [slcF_nil,List.append_nil]⟩⟩
theorem goF_out {c d:PS→Bool} {p q:PP} {a j a' j':Nat} (hc:tst c a D true) (h:GoF n lv nv i D p a j a' j') (hd:tst d a' D false):GoF n lv nv i D (.rep c p d q) a j a' j':=by
 refine⟨h.1,fun s h1 h2 h3 h4=>?_⟩
 obtain⟨s1,e1,k1,k2,k3,k4⟩:=h.2 s h1 h2 h3 h4
 exact⟨s1,.out (hc s h1 h3) e1 (hd s1 k1 k3),k1,k2,k3,k4⟩
theorem goF_go {c d:PS→Bool} {p q:PP} {a j a1 j1 a2 j2 a' j':Nat} (hc:tst c a D true) (h:GoF n lv nv i D p a j a1 j1) (hd:tst d a1 D true) (g:GoF n lv nv i D q a1 j1 a2 j2) (r:GoF n lv nv i D (.rep c p d q) a2 j2 a' j'):GoF n lv nv i D (.rep c p d q) a j a' j':=by
 have hl:=h.1
 have gl:=g.1
 have rl:=r.1
 refine⟨by omega,fun s h1 h2 h3 h4=>?_⟩
 obtain⟨s1,e1,k1,k2,k3,k4⟩:=h.2 s h1 h2 h3 h4
 obtain⟨s2,e2,m1,m2,m3,m4⟩:=g.2 s1 k1 k2 k3 (by rw [k4,List.length_append,slcF_len];omega)
 obtain⟨s3,e3,o1,o2,o3,o4⟩:=r.2 s2 m1 m2 m3 (by rw [m4,k4,List.length_append,List.length_append,slcF_len,slcF_len];omega)
 exact⟨s3,.go (hc s h1 h3) e1 (hd s1 k1 k3) e2 e3,o1,o2,o3,by rw [o4,m4,k4,List.append_assoc,List.append_assoc,←List.append_assoc (slcF nv j j1),slcF_app hl gl,slcF_app (by omega) rl]⟩
theorem tst_yes {a:Nat}:tst yesT a D true:=fun _ _ _=>rfl
theorem goF_more {c:PS→Bool} {p:PP} {a j a1 j1 a' j':Nat} (hc:tst c a D true) (h:GoF n lv nv i D p a j a1 j1) (r:GoF n lv nv i D (.rep c p yesT .skip) a1 j1 a' j'):GoF n lv nv i D (.rep c p yesT .skip) a j a' j':=
 goF_go hc h tst_yes goF_skip r
theorem goF_lst {a j a' j':Nat} (h:GoF n lv nv i D (listP n lv) a j a' j'):GoF n lv nv i D .lst a j a' j':=by
 refine⟨h.1,fun s h1 h2 h3 h4=>?_⟩
 obtain⟨s1,e1,k⟩:=h.2 s h1 h2 h3 h4
 exact⟨s1,.lst e1,k⟩
theorem goF_node {N j a b e:Nat} {dp:Bool} {p:PP} (hK:Kid nv N i a j b e) (h:GoF n lv nv j (D+dp.toNat) p a (j+1) b e):GoF n lv nv i D (.node (nv j).k dp p) a j b e:=by
 have hl:=hK.e.lt
 refine⟨by omega,fun s h1 h2 h3 h4=>?_⟩
 obtain⟨s1,e1,k1,k2,k3,k4⟩:=h.2 (bgn (nv j).k dp s) h1 (by simp only [bgn];omega) (by simp only [bgn];omega) (by simp only [bgn,List.length_append,List.length_singleton];omega)
 refine⟨_,.node e1,k1,h2,h3,?_⟩
 simp only [fin]
 rw [k4,slcF_cons hl]
 simp only [bgn]
 rw [List.append_assoc,List.set_append,if_neg (by omega),Nat.sub_self]
 simp only [List.singleton_append,List.set_cons_zero]
 congr 2
 refine nd_eq rfl ?_ ?_ ?_
 ·show(s.a:Int)=_;rw [h1];exact hK.f
 ·show(s1.a:Int)=_;rw [k1];exact hK.t
 ·show s.u=_;rw [h2];exact hK.u.symm
end
def begF (p:Nat):Bool:=p==0
def orF (f g:Nat→Bool) (p:Nat):Bool:=f p||g p
section
variable (row:ByteArray)
def oneF (f:Nat→Bool) (cs:ByteArray):Nat→Bool
 |0=>false
 |q+1=>f q && inB (bt row q).toNat cs
def manyF (f:Nat→Bool) (cs:ByteArray):Nat→Bool
 |0=>f 0
 |q+1=>f (q+1)||(manyF f cs q && inB (bt row q).toNat cs)
def tN:ByteArray:=⟨#[110]⟩
def tL:ByteArray:=⟨#[76]⟩
def tC:ByteArray:=⟨#[83,66,85,70,72,79,67,78]⟩
def tR:ByteArray:=⟨#[82]⟩
def t1 (c:UInt8):ByteArray:=⟨#[c]⟩
def t2 (c d:UInt8):ByteArray:=⟨#[c,d]⟩
def listF (f:Nat→Bool):Nat→Bool:=oneF row (manyF row f tN) tL
def sepF (f:Nat→Bool):Nat→Bool:=orF (manyF row (oneF row f (t2 59 38)) tN) (manyF row (oneF row f tN) tN)
def pieceF (k:Nat) (f:Nat→Bool):Nat→Bool:=
 if k=1 then oneF row (sepF row f) (t1 65)
 else if k=2 then oneF row (manyF row (oneF row f (t2 97 111)) tN) (t1 73)
 else if k=3 then oneF row (manyF row (oneF row f (t1 124)) tN) tC
 else if k=4 then listF row (oneF row (listF row (oneF row f (t1 101))) (t1 116))
 else if k=5 then manyF row (oneF row (oneF row f (t1 84)) (t1 121)) tN
 else oneF row (oneF row f (t1 124)) (t1 87)
def repF (k:Nat):Nat→(Nat→Bool)→Nat→Bool
 |0,f=>f
 |m+1,f=>repF k m (orF f (pieceF row k f))
def rpF (k:Nat) (f:Nat→Bool):Nat→Bool:=repF row k (row.size+1) f
def form1:Nat→Bool:=orF (manyF row begF tN) (oneF row (manyF row begF tN) tL)
def form2:Nat→Bool:=orF (rpF row 1 (oneF row begF (t1 65))) (sepF row (rpF row 1 (oneF row begF (t1 65))))
def form3:Nat→Bool:=rpF row 2 (oneF row begF (t1 73))
def form4:Nat→Bool:=rpF row 3 (oneF row (orF begF (oneF row begF (t1 33))) tC)
def form5:Nat→Bool:=orF (manyF row begF (t2 88 82)) (manyF row (oneF row (manyF row begF (t2 88 82)) (t1 87)) (t2 87 82))
def form8:Nat→Bool:=oneF row (oneF row (orF begF (oneF row begF (t1 35))) (t1 60)) (t1 87)
def form9:Nat→Bool:=manyF row (oneF row (listF row (oneF row begF (t1 123))) (t1 125)) tR
def form10:Nat→Bool:=manyF row (oneF row (listF row (oneF row begF (t1 40))) (t1 41)) tR
def form11a:Nat→Bool:=rpF row 4 (listF row (oneF row (listF row (oneF row begF (t1 105))) (t1 116)))
def form11:Nat→Bool:=manyF row (oneF row (orF (form11a row) (listF row (oneF row (form11a row) (t1 108)))) (t1 102)) tR
def form12:Nat→Bool:=manyF row (oneF row (listF row (oneF row (listF row (oneF row begF (t1 119))) (t1 100))) (t1 103)) tR
def form13a:Nat→Bool:=oneF row (oneF row begF (t1 114)) (t1 87)
def form13b:Nat→Bool:=manyF row (oneF row (manyF row (form13a row) tN) (t1 107)) (t1 87)
def form13c:Nat→Bool:=orF (orF (manyF row (oneF row (form13b row) (t1 59)) tN) (manyF row (oneF row (form13b row) tN) tN)) (orF (manyF row (oneF row (form13a row) (t1 59)) tN) (manyF row (form13a row) tN))
def form13:Nat→Bool:=manyF row (oneF row (listF row (oneF row (form13c row) (t1 100))) (t1 103)) tR
def form14a:Nat→Bool:=rpF row 5 (manyF row (oneF row (manyF row (oneF row (oneF row begF (t1 99)) (t1 87)) tN) (t1 107)) tN)
def form14:Nat→Bool:=manyF row (oneF row (orF (form14a row) (oneF row (form14a row) (t1 84))) (t1 122)) tR
def form15a:Nat→Bool:=manyF row (oneF row (rpF row 6 (oneF row (orF begF (oneF row begF (t1 40))) (t1 87))) (t1 41)) tN
def form15:Nat→Bool:=orF (form15a row) (oneF row (form15a row) tL)
def form16:Nat→Bool:=oneF row (manyF row (oneF row (oneF row (oneF row begF (t1 87)) (t1 40)) (t1 41)) tN) ⟨#[66,85,70,72,79,67]⟩
end
def Cat (P Q:List Nat→Prop) (l:List Nat):Prop:=∃x m,l=x++m∧P x∧Q m
inductive Star (Q:List Nat→Prop):List Nat→Prop
 |nil:Star Q []
 |cons {a m:List Nat}:Q a→Star Q m→Star Q (a++m)
theorem Star.snoc {Q:List Nat→Prop} {m a:List Nat} (h:Star Q m) (g:Q a):Star Q (m++a):=by
 induction h with
 |nil=>have:=Star.cons g .nil;simpa using this
 |cons h1 _ ih=>rw [List.append_assoc];exact .cons h1 ih
def In1 (cs:List Nat) (m:List Nat):Prop:=∃s,m=[s]∧s∈cs
def InM (cs:List Nat) (m:List Nat):Prop:=∀s∈m,s∈cs
def rlB (row:ByteArray):List Nat:=row.data.toList.map UInt8.toNat
theorem rlB_len (row:ByteArray):(rlB row).length=row.size:=by simp [rlB]
theorem rlB_at {row:ByteArray} {q:Nat} (h:q<row.size):(rlB row)[q]?=some (bt row q).toNat:=by
 unfold rlB
 rw [List.getElem?_map,bt_eq h,List.getElem?_eq_getElem (by simpa using h)]
 rfl
theorem rlB_take {row:ByteArray} {q:Nat} (h:q<row.size):(rlB row).take (q+1)=(rlB row).take q++ [(bt row q).toNat]:=by
 rw [List.take_add_one,rlB_at h]
 rfl
def LgF (row:ByteArray) (f:Nat→Bool) (P:List Nat→Prop):Prop:=∀p,p≤row.size→f p=true→P ((rlB row).take p)
def SfF (row:ByteArray) (f g:Nat→Bool) (Q:List Nat→Prop):Prop:=∀P,LgF row f P→LgF row g (Cat P Q)
theorem inB_mem {c:Nat} {cs:ByteArray} (h:inB c cs=true):c∈rlB cs:=by
 unfold inB at h
 obtain⟨x,hx,e⟩:=List.any_eq_true.1 h
 have e:c=x.toNat:=by simpa using e
 rw [e]
 exact List.mem_map_of_mem hx
section
variable {row:ByteArray} {f g h:Nat→Bool} {Q R:List Nat→Prop}
theorem sf_one (cs:ByteArray):SfF row f (oneF row f cs) (In1 (rlB cs)):=by
 intro P hP p hp hf
 cases p with
 |zero=>cases hf
 |succ q=>
  simp only [oneF,Bool.and_eq_true]at hf
  exact⟨_,_,rlB_take (by omega),hP q (by omega) hf.1,_,rfl,inB_mem hf.2⟩
theorem sf_many (cs:ByteArray):SfF row f (manyF row f cs) (InM (rlB cs)):=by
 intro P hP p
 induction p with
 |zero=>intro hp hf;exact⟨_,[],by rw [List.append_nil],hP 0 hp hf,fun s hs=>by simp at hs⟩
 |succ q ih=>
  intro hp hf
  simp only [manyF,Bool.or_eq_true,Bool.and_eq_true]at hf
  rcases hf with hf|hf
  ·exact⟨_,[],by rw [List.append_nil],hP _ hp hf,fun s hs=>by simp at hs⟩
  ·obtain⟨x,m,e,h1,h2⟩:=ih (by omega) hf.1
   refine⟨x,m++ [(bt row q).toNat],by rw [rlB_take (by omega),e,List.append_assoc],h1,fun s hs=>?_⟩
   rcases List.mem_append.1 hs with hs|hs
   ·exact h2 s hs
   ·rw [List.mem_singleton.1 hs];exact inB_mem hf.2
theorem sf_id:SfF row f f (· =[]):=fun P hP p hp hf=>⟨_,[],by rw [List.append_nil],hP p hp hf,rfl⟩
theorem sf_or (h1:SfF row f g Q) (h2:SfF row f h R):SfF row f (orF g h) (fun m=>Q m∨R m):=by
 intro P hP p hp hf
 rcases Bool.or_eq_true _ _|>.mp hf with hf|hf
 ·obtain⟨x,m,e,a,b⟩:=h1 P hP p hp hf;exact⟨x,m,e,a,.inl b⟩
 ·obtain⟨x,m,e,a,b⟩:=h2 P hP p hp hf;exact⟨x,m,e,a,.inr b⟩
theorem sf_comp (h1:SfF row f g Q) (h2:SfF row g h R):SfF row f h (Cat Q R):=by
 intro P hP p hp hf
 obtain⟨x,m,e,⟨y,k,e2,a,b⟩,c⟩:=h2 _ (h1 P hP) p hp hf
 exact⟨y,k++m,by rw [e,e2,List.append_assoc],a,k,m,rfl,b,c⟩
theorem sf_mono (h1:SfF row f g Q) (hQ:∀m,Q m→R m):SfF row f g R:=by
 intro P hP p hp hf
 obtain⟨x,m,e,a,b⟩:=h1 P hP p hp hf
 exact⟨x,m,e,a,hQ m b⟩
def qList:List Nat→Prop:=Cat (InM [110]) (In1 [76])
def qSep:List Nat→Prop:=fun m=>Cat (In1 [59,38]) (InM [110]) m∨Cat (In1 [110]) (InM [110]) m
theorem sf_list:SfF row f (listF row f) qList:=sf_comp (sf_many tN) (sf_one tL)
theorem sf_sep:SfF row f (sepF row f) qSep:=sf_or (sf_comp (sf_one _) (sf_many tN)) (sf_comp (sf_one tN) (sf_many tN))
def cLs:List Nat:=[83,66,85,70,72,79,67,78]
def qPc (k:Nat):List Nat→Prop:=
 if k=1 then Cat qSep (In1 [65])
 else if k=2 then Cat (Cat (In1 [97,111]) (InM [110])) (In1 [73])
 else if k=3 then Cat (Cat (In1 [124]) (InM [110])) (In1 cLs)
 else if k=4 then Cat (Cat (Cat (In1 [101]) qList) (In1 [116])) qList
 else if k=5 then Cat (Cat (In1 [84]) (In1 [121])) (InM [110])
 else Cat (In1 [124]) (In1 [87])
theorem sf_piece (k:Nat):SfF row f (pieceF row k f) (qPc k):=by
 unfold pieceF qPc
 split
 ·exact sf_comp sf_sep (sf_one _)
 split
 ·exact sf_comp (sf_comp (sf_one _) (sf_many tN)) (sf_one _)
 split
 ·exact sf_comp (sf_comp (sf_one _) (sf_many tN)) (sf_one tC)
 split
 ·exact sf_comp (sf_comp (sf_comp (sf_one _) sf_list) (sf_one _)) sf_list
 split
 ·exact sf_comp (sf_comp (sf_one _) (sf_one _)) (sf_many tN)
 ·exact sf_comp (sf_one _) (sf_one _)
theorem sf_repF (k:Nat):∀(m:Nat) (f g:Nat→Bool),SfF row f g (Star (qPc k))→SfF row f (repF row k m g) (Star (qPc k))
 |0,f,g,h=>h
 |m+1,f,g,h=>by
  refine sf_repF k m f _ ?_
  have h2:SfF row f (orF g (pieceF row k g)) (fun m=>Star (qPc k) m∨Cat (Star (qPc k)) (qPc k) m):=sf_or h (sf_comp h (sf_piece k))
  refine sf_mono h2 (fun m hm=>?_)
  rcases hm with hm|⟨x,y,rfl,h1,h2⟩
  ·exact hm
  ·exact h1.snoc h2
theorem sf_rp (k:Nat):SfF row f (rpF row k f) (Star (qPc k)):=sf_repF k _ f f (sf_mono sf_id (fun m hm=>by rw [hm];exact .nil))
theorem sf_all (h1:SfF row begF f Q) (h2:f row.size=true):Q (rlB row):=by
 have hb:LgF row begF (· =[]):=fun p hp hf=>by
  have:p=0:=by simpa [begF]using hf
  rw [this]
  rfl
 obtain⟨x,m,e,rfl,h⟩:=h1 _ hb row.size (Nat.le_refl _) h2
 rw [List.take_of_length_le (by rw [rlB_len];exact Nat.le_refl _),List.nil_append]at e
 rw [e]
 exact h
end
def opt1 (c:Nat) (m:List Nat):Prop:=m=[]∨In1 [c] m
def q1:List Nat→Prop:=fun m=>InM [110] m∨Cat (InM [110]) (In1 [76]) m
def q2:List Nat→Prop:=Cat (Cat (In1 [65]) (Star (qPc 1))) (fun m=>m=[]∨qSep m)
def q3:List Nat→Prop:=Cat (In1 [73]) (Star (qPc 2))
def q4:List Nat→Prop:=Cat (Cat (opt1 33) (In1 cLs)) (Star (qPc 3))
def q5:List Nat→Prop:=fun m=>InM [88,82] m∨Cat (Cat (InM [88,82]) (In1 [87])) (InM [87,82]) m
def q8:List Nat→Prop:=Cat (Cat (opt1 35) (In1 [60])) (In1 [87])
def q9:List Nat→Prop:=Cat (Cat (Cat (In1 [123]) qList) (In1 [125])) (InM [82])
def q10:List Nat→Prop:=Cat (Cat (Cat (In1 [40]) qList) (In1 [41])) (InM [82])
def q11:List Nat→Prop:=Cat (Cat (Cat (Cat (Cat (Cat (Cat (In1 [105]) qList) (In1 [116])) qList) (Star (qPc 4))) (fun m=>m=[]∨Cat (In1 [108]) qList m)) (In1 [102])) (InM [82])
def q12:List Nat→Prop:=Cat (Cat (Cat (Cat (Cat (In1 [119]) qList) (In1 [100])) qList) (In1 [103])) (InM [82])
def qIn:List Nat→Prop:=Cat (Cat (InM [110]) (In1 [107])) (InM [87])
def q13v:List Nat→Prop:=fun m=>(Cat (Cat qIn (In1 [59])) (InM [110]) m∨Cat (Cat qIn (In1 [110])) (InM [110]) m)∨(Cat (In1 [59]) (InM [110]) m∨InM [110] m)
def q13:List Nat→Prop:=Cat (Cat (Cat (Cat (Cat (Cat (In1 [114]) (In1 [87])) q13v) (In1 [100])) qList) (In1 [103])) (InM [82])
def q14:List Nat→Prop:=Cat (Cat (Cat (Cat (Cat (Cat (Cat (Cat (In1 [99]) (In1 [87])) (InM [110])) (In1 [107])) (InM [110])) (Star (qPc 5))) (opt1 84)) (In1 [122])) (InM [82])
def q15:List Nat→Prop:=Cat (Cat (Cat (Cat (Cat (opt1 40) (In1 [87])) (Star (qPc 6))) (In1 [41])) (InM [110])) (opt1 76)
def q16:List Nat→Prop:=Cat (Cat (Cat (Cat (In1 [87]) (In1 [40])) (In1 [41])) (InM [110])) (In1 [66,85,70,72,79,67])
section
variable {row:ByteArray} {f:Nat→Bool}
theorem sf_opt (c:UInt8):SfF row f (orF f (oneF row f (t1 c))) (opt1 c.toNat):=sf_or sf_id (sf_one _)
theorem sf1:SfF row begF (form1 row) q1:=sf_or (sf_many tN) (sf_comp (sf_many tN) (sf_one tL))
theorem sf2:SfF row begF (form2 row) q2:=sf_comp (sf_comp (sf_one _) (sf_rp 1)) (sf_or sf_id sf_sep)
theorem sf3:SfF row begF (form3 row) q3:=sf_comp (sf_one _) (sf_rp 2)
theorem sf4:SfF row begF (form4 row) q4:=sf_comp (sf_comp (sf_opt 33) (sf_one tC)) (sf_rp 3)
theorem sf5:SfF row begF (form5 row) q5:=sf_or (sf_many (t2 88 82)) (sf_comp (sf_comp (sf_many (t2 88 82)) (sf_one (t1 87))) (sf_many (t2 87 82)))
theorem sf8:SfF row begF (form8 row) q8:=sf_comp (sf_comp (sf_opt 35) (sf_one (t1 60))) (sf_one (t1 87))
theorem sf9:SfF row begF (form9 row) q9:=sf_comp (sf_comp (sf_comp (sf_one (t1 123)) sf_list) (sf_one (t1 125))) (sf_many tR)
theorem sf10:SfF row begF (form10 row) q10:=sf_comp (sf_comp (sf_comp (sf_one (t1 40)) sf_list) (sf_one (t1 41))) (sf_many tR)
theorem sf11:SfF row begF (form11 row) q11:=by
 have h:SfF row begF (form11a row) (Cat (Cat (Cat (Cat (In1 [105]) qList) (In1 [116])) qList) (Star (qPc 4))):=sf_comp (sf_comp (sf_comp (sf_comp (sf_one (t1 105)) sf_list) (sf_one (t1 116))) sf_list) (sf_rp 4)
 exact sf_comp (sf_comp (sf_comp h (sf_or sf_id (sf_comp (sf_one (t1 108)) sf_list))) (sf_one (t1 102))) (sf_many tR)
theorem sf12:SfF row begF (form12 row) q12:=sf_comp (sf_comp (sf_comp (sf_comp (sf_comp (sf_one (t1 119)) sf_list) (sf_one (t1 100))) sf_list) (sf_one (t1 103))) (sf_many tR)
theorem sf13:SfF row begF (form13 row) q13:=by
 have h:SfF row begF (form13a row) (Cat (In1 [114]) (In1 [87])):=sf_comp (sf_one (t1 114)) (sf_one (t1 87))
 have hb:SfF row (form13a row) (form13b row) qIn:=sf_comp (sf_comp (sf_many tN) (sf_one (t1 107))) (sf_many (t1 87))
 have hc:SfF row (form13a row) (form13c row) q13v:=sf_or (sf_or (sf_comp (sf_comp hb (sf_one (t1 59))) (sf_many tN)) (sf_comp (sf_comp hb (sf_one tN)) (sf_many tN))) (sf_or (sf_comp (sf_one (t1 59)) (sf_many tN)) (sf_many tN))
 exact sf_comp (sf_comp (sf_comp (sf_comp (sf_comp h hc) (sf_one (t1 100))) sf_list) (sf_one (t1 103))) (sf_many tR)
theorem sf14:SfF row begF (form14 row) q14:=by
 have h:SfF row begF (form14a row) (Cat (Cat (Cat (Cat (Cat (In1 [99]) (In1 [87])) (InM [110])) (In1 [107])) (InM [110])) (Star (qPc 5))):=sf_comp (sf_comp (sf_comp (sf_comp (sf_comp (sf_one (t1 99)) (sf_one (t1 87))) (sf_many tN)) (sf_one (t1 107))) (sf_many tN)) (sf_rp 5)
 exact sf_comp (sf_comp (sf_comp h (sf_opt 84)) (sf_one (t1 122))) (sf_many tR)
theorem sf15:SfF row begF (form15 row) q15:=by
 have h:SfF row begF (form15a row) (Cat (Cat (Cat (Cat (opt1 40) (In1 [87])) (Star (qPc 6))) (In1 [41])) (InM [110])):=sf_comp (sf_comp (sf_comp (sf_comp (sf_opt 40) (sf_one (t1 87))) (sf_rp 6)) (sf_one (t1 41))) (sf_many tN)
 exact sf_comp h (sf_or sf_id (sf_one tL))
theorem sf16:SfF row begF (form16 row) q16:=sf_comp (sf_comp (sf_comp (sf_comp (sf_one (t1 87)) (sf_one (t1 40))) (sf_one (t1 41))) (sf_many tN)) (sf_one ⟨#[66,85,70,72,79,67]⟩)
end
def formF (kind:Int) (row:ByteArray):Bool:=
 if kind=1 then form1 row row.size else if kind=2 then form2 row row.size else if kind=3 then form3 row row.size else if kind=4 then form4 row row.size
 else if kind=5 then decide (row.size≠0)&& form5 row row.size else if kind=8 then form8 row row.size else if kind=9 then form9 row row.size else if kind=10 then form10 row row.size
 else if kind=11 then form11 row row.size else if kind=12 then form12 row row.size else if kind=13 then form13 row row.size else if kind=14 then form14 row row.size
 else if kind=15 then form15 row row.size else if kind=16 then form16 row row.size else false
def qForm (kind:Int) (l:List Nat):Prop:=
 (kind=1∧q1 l)∨(kind=2∧q2 l)∨(kind=3∧q3 l)∨(kind=4∧q4 l)∨(kind=5∧l≠ []∧q5 l)∨(kind=8∧q8 l)∨(kind=9∧q9 l)∨(kind=10∧q10 l)∨(kind=11∧q11 l)∨(kind=12∧q12 l)∨(kind=13∧q13 l)∨(kind=14∧q14 l)∨(kind=15∧q15 l)∨(kind=16∧q16 l)
theorem form_q {kind:Int} {row:ByteArray} (h:formF kind row=true):qForm kind (rlB row):=by
 unfold formF at h
 unfold qForm
 by_cases e1:kind=1
 ·rw [if_pos e1]at h
  exact .inl ⟨e1,sf_all sf1 h⟩
 rw [if_neg e1]at h
 by_cases e2:kind=2
 ·rw [if_pos e2]at h
  exact .inr (.inl ⟨e2,sf_all sf2 h⟩)
 rw [if_neg e2]at h
 by_cases e3:kind=3
 ·rw [if_pos e3]at h
  exact .inr (.inr (.inl ⟨e3,sf_all sf3 h⟩))
 rw [if_neg e3]at h
 by_cases e4:kind=4
 ·rw [if_pos e4]at h
  exact .inr (.inr (.inr (.inl ⟨e4,sf_all sf4 h⟩)))
 rw [if_neg e4]at h
 by_cases e5:kind=5
 ·rw [if_pos e5]at h
  rw [Bool.and_eq_true]at h
  refine .inr (.inr (.inr (.inr (.inl ⟨e5,fun e=>?_,sf_all sf5 h.2⟩))))
  have h1:=of_decide_eq_true h.1
  have h2:=rlB_len row
  rw [e]at h2
  exact h1 h2.symm
 rw [if_neg e5]at h
 by_cases e8:kind=8
 ·rw [if_pos e8]at h
  exact .inr (.inr (.inr (.inr (.inr (.inl ⟨e8,sf_all sf8 h⟩)))))
 rw [if_neg e8]at h
 by_cases e9:kind=9
 ·rw [if_pos e9]at h
  exact .inr (.inr (.inr (.inr (.inr (.inr (.inl ⟨e9,sf_all sf9 h⟩))))))
 rw [if_neg e9]at h
 by_cases e10:kind=10
 ·rw [if_pos e10]at h
  exact .inr (.inr (.inr (.inr (.inr (.inr (.inr (.inl ⟨e10,sf_all sf10 h⟩)))))))
 rw [if_neg e10]at h
 by_cases e11:kind=11
 ·rw [if_pos e11]at h
  exact .inr (.inr (.inr (.inr (.inr (.inr (.inr (.inr (.inl ⟨e11,sf_all sf11 h⟩))))))))
 rw [if_neg e11]at h
 by_cases e12:kind=12
 ·rw [if_pos e12]at h
  exact .inr (.inr (.inr (.inr (.inr (.inr (.inr (.inr (.inr (.inl ⟨e12,sf_all sf12 h⟩)))))))))
 rw [if_neg e12]at h
 by_cases e13:kind=13
 ·rw [if_pos e13]at h
  exact .inr (.inr (.inr (.inr (.inr (.inr (.inr (.inr (.inr (.inr (.inl ⟨e13,sf_all sf13 h⟩))))))))))
 rw [if_neg e13]at h
 by_cases e14:kind=14
 ·rw [if_pos e14]at h
  exact .inr (.inr (.inr (.inr (.inr (.inr (.inr (.inr (.inr (.inr (.inr (.inl ⟨e14,sf_all sf14 h⟩)))))))))))
 rw [if_neg e14]at h
 by_cases e15:kind=15
 ·rw [if_pos e15]at h
  exact .inr (.inr (.inr (.inr (.inr (.inr (.inr (.inr (.inr (.inr (.inr (.inr (.inl ⟨e15,sf_all sf15 h⟩))))))))))))
 rw [if_neg e15]at h
 by_cases e16:kind=16
 ·rw [if_pos e16]at h
  exact .inr (.inr (.inr (.inr (.inr (.inr (.inr (.inr (.inr (.inr (.inr (.inr (.inr ⟨e16,sf_all sf16 h⟩))))))))))))
 rw [if_neg e16]at h
 cases h
def CK (k:Int):Prop:=k=5∨k=16∨(9≤k∧k≤14)
def CP (k:Int):Prop:=9≤k∧k≤14
structure FstF (n:Nat) (lv:Nat→Lf) (D:Nat) (k:Int) (a:Nat):Prop where
 p:(k=2∨k=3∨k=4)→tst (pipT n lv) a D true
 c:CK k→tst (cmdT n lv) a D true
 m:CP k→tst (cmpT n lv) a D true
 r:k=8→tst (rdrT n lv) a D true
 w:(k=6∨k=7)→tst (wrdT n lv) a D true
 x:k=6→tst (asgT n lv) a D true
 t:k=15→tst (itmT n lv) a D true
def folL:List Nat:=[63,41,125,116,100,101,108,102,103,121,122]
def folA:List Nat:=[63,41,125,116,100,101,108,102,103,121,122,59,38,110]
def folI:List Nat:=[63,41,125,116,100,101,108,102,103,121,122,59,38,110,97,111]
def folC:List Nat:=[63,41,125,116,100,101,108,102,103,121,122,59,38,110,97,111,124]
theorem fol_la:∀x∈folL,x∈folA:=by decide
theorem fol_ai:∀x∈folA,x∈folI:=by decide
theorem fol_ic:∀x∈folI,x∈folC:=by decide
structure FolF (k:Int) (x:Nat):Prop where
 l:k=2→x∈folL
 a:k=3→x∈folA
 i:k=4→x∈folI
 c:CK k→x∈folC
 t:k=15→x∈ [121,122]
structure GkF (n:Nat) (lv:Nat→Lf) (nv:Nat→Nd) (i D:Nat) (k:Int) (a j b e:Nat):Prop where
 l:k=2→GoF n lv nv i D .lst a j b e
 d:k=3→GoF n lv nv i D (andP n lv) a j b e
 p:k=4→GoF n lv nv i D (pipP n lv) a j b e
 c:CK k→GoF n lv nv i D (comP n lv) a j b e
 m:CP k→GoF n lv nv i D (cmpP n lv) a j b e
 x:k=6→GoF n lv nv i D (.node 6 false .adv) a j b e
 w:k=7→GoF n lv nv i D wordP a j b e
 r:k=8→GoF n lv nv i D (redP n lv) a j b e
 t:k=15→GoF n lv nv i D (.node 15 false (itemP n lv)) a j b e
structure CxF (n:Nat) (lv:Nat→Lf) (nv:Nat→Nd) (N i D:Nat):Prop where
 kk:∀j,j<N→1≤(nv j).k∧(nv j).k≤18
 w1:∀j,j<N→(nv j).k=7→(nv j).t=(nv j).f+1
 fs:∀a j b e,Kid nv N i a j b e→FstF n lv D (nv j).k a
 gk:∀a j b e,Kid nv N i a j b e→FolF (nv j).k (sgA n lv b)→GkF n lv nv i D (nv j).k a j b e
section
variable {n:Nat} {lv:Nat→Lf} {nv:Nat→Nd} {N i D:Nat}
theorem sgA_low (a:Nat):sgA n lv a∉upL:=sgn_low _ _
theorem t_is {l:List Nat} {a:Nat} {b:Bool} (h:l.contains (sgA n lv a)=b):tst (isS n lv l) a D b:=fun s h1 _=>by unfold isS;rw [h1];exact h
theorem t_isy {l:List Nat} {a c:Nat} (h:sgA n lv a=c) (hc:l.contains c=true):tst (isS n lv l) a D true:=t_is (by rw [h];exact hc)
theorem t_isn {l:List Nat} {a:Nat} (h:sgA n lv a∉l):tst (isS n lv l) a D false:=t_is (by simpa using h)
theorem t_rdn {a:Nat} (h1:sgA n lv a≠60) (h2:sgA n lv a≠35):tst (rdrT n lv) a D false:=fun s h _=>by
 unfold rdrT
 rw [h]
 have e1:(sgA n lv a==60)=false:=by simpa using h1
 have e2:(sgA n lv a==35)=false:=by simpa using h2
 rw [e1,e2]
 rfl
def sOf (a D:Nat):PS:=⟨a,[],0,D⟩
theorem rdr_sg {s:PS} (h:rdrT n lv s=true):sgA n lv s.a∈ [60,35]:=by
 unfold rdrT at h
 rcases Bool.or_eq_true _ _|>.mp h with h|h
 ·rw [beq_iff_eq.1 h];decide
 ·rw [beq_iff_eq.1 (Bool.and_eq_true _ _|>.mp h).1];decide
theorem cmp_sg {s:PS} (h:cmpT n lv s=true):sgA n lv s.a∈ [123,40,105,119,114,99]:=by
 unfold cmpT at h
 exact List.contains_iff_mem.1 (Bool.and_eq_true _ _|>.mp h).1
theorem cmd_sg {s:PS} (h:cmdT n lv s=true):sgA n lv s.a∈ [120,60,35,123,40,105,119,114,99]:=by
 unfold cmdT at h
 rcases Bool.or_eq_true _ _|>.mp h with h|h
 ·rcases Bool.or_eq_true _ _|>.mp h with h|h
  ·rw [beq_iff_eq.1 h];decide
  ·exact(show ∀x∈ [60,35],x∈ [120,60,35,123,40,105,119,114,99] by decide) _ (rdr_sg h)
 ·exact(show ∀x∈ [123,40,105,119,114,99],x∈ [120,60,35,123,40,105,119,114,99] by decide) _ (cmp_sg h)
theorem pip_sg {s:PS} (h:pipT n lv s=true):sgA n lv s.a∈ [33,120,60,35,123,40,105,119,114,99]:=by
 unfold pipT at h
 rcases Bool.or_eq_true _ _|>.mp h with h|h
 ·rw [beq_iff_eq.1 h];decide
 ·exact List.mem_cons_of_mem _ (cmd_sg h)
theorem t_pipn {a:Nat} (h:sgA n lv a∉ [33,120,60,35,123,40,105,119,114,99]):tst (pipT n lv) a D false:=fun s h1 _=>by
 cases hp:pipT n lv s with
 |false=>rfl
 |true=>exact absurd (pip_sg hp) (by rw [h1];exact h)
theorem t_cmpn {a:Nat} (h:sgA n lv a∉ [123,40,105,119,114,99]):tst (cmpT n lv) a D false:=fun s h1 _=>by
 cases hp:cmpT n lv s with
 |false=>rfl
 |true=>exact absurd (cmp_sg hp) (by rw [h1];exact h)
theorem pip_at {a:Nat} (h:tst (pipT n lv) a D true):sgA n lv a∈ [33,120,60,35,123,40,105,119,114,99]:=pip_sg (h (sOf a D) rfl rfl)
theorem cmd_at {a:Nat} (h:tst (cmdT n lv) a D true):sgA n lv a∈ [120,60,35,123,40,105,119,114,99]:=cmd_sg (h (sOf a D) rfl rfl)
theorem rdr_at {a:Nat} (h:tst (rdrT n lv) a D true):sgA n lv a∈ [60,35]:=rdr_sg (h (sOf a D) rfl rfl)
variable (hC:CxF n lv nv N i D)
abbrev RW (n:Nat) (lv:Nat→Lf) (nv:Nat→Nd) (N i a j:Nat) (r:List Nat):Prop:=Rw (sgA n lv) nv N i a j r
include hC
theorem w_leaf {a j c:Nat} {r:List Nat} (h:RW n lv nv N i a j (c::r)) (hc:c∉upL):sgA n lv a=c∧RW n lv nv N i (a+1) j r:=rw_leaf hC.kk h hc
theorem w_kid {a j c:Nat} {r:List Nat} (K:Int) (hK1:1≤K) (hK2:K≤18) (hc:letN K=c) (h:RW n lv nv N i a j (c::r)):∃b e,Kid nv N i a j b e∧(nv j).k=K∧RW n lv nv N i b e r:=by
 have hcu:c∈upL:=by rw [←hc];exact letN_up hK1 hK2
 obtain⟨h1,b,e,h2,h3⟩:=rw_kid sgA_low h hcu
 exact⟨b,e,h2,letN_inj (hC.kk _ h2.lt).1 (hC.kk _ h2.lt).2 hK1 hK2 (h1.trans hc.symm),h3⟩
theorem n_leaf {l:List Nat} {c:Nat} {r:List Nat} (hc:c∉upL) (hl:c∉l) (a j:Nat) (h:RW n lv nv N i a j (c::r)):sgA n lv a∉l:=by
 rw [(w_leaf hC h hc).1]
 exact hl
theorem n_in {l:List Nat} {c:Nat} {r:List Nat} (hc:c∉upL) (hl:c∈l) (a j:Nat) (h:RW n lv nv N i a j (c::r)):sgA n lv a∈l:=by
 rw [(w_leaf hC h hc).1]
 exact hl
theorem n_kid {K:Int} {c:Nat} {r:List Nat} (hK:K=2∨K=3∨K=4) (hc:letN K=c) (a j:Nat) (h:RW n lv nv N i a j (c::r)):sgA n lv a∈ [33,120,60,35,123,40,105,119,114,99]:=by
 obtain⟨b,e,h1,h2,_⟩:=w_kid hC K (by omega) (by omega) hc h
 exact pip_at ((hC.fs _ _ _ _ h1).p (by rw [h2];exact hK))
omit hC in
theorem not110 {x:Nat} (h:x∈ [33,120,60,35,123,40,105,119,114,99]):x∉ [110]:=(show ∀x∈ [33,120,60,35,123,40,105,119,114,99],x∉ [110] by decide) x h
theorem c_nls {r:List Nat}:∀{ns:List Nat} {a j:Nat},RW n lv nv N i a j (ns++r)→InM [110] ns→(∀a j,RW n lv nv N i a j r→sgA n lv a∉ [110])→∃a',GoF n lv nv i D (nlsP n lv) a j a' j∧RW n lv nv N i a' j r
 | [],a,j,h,_,hx=>⟨a,goF_stop (t_isn (hx a j h)),h⟩
 |c::ns,a,j,h,hn,hx=>by
  obtain rfl:c=110:=by simpa using hn c (List.mem_cons_self ..)
  obtain⟨h1,h2⟩:=w_leaf hC h (by decide)
  obtain⟨a',h3,h4⟩:=c_nls h2 (fun s hs=>hn s (List.mem_cons_of_mem _ hs)) hx
  exact⟨a',goF_more (t_isy h1 rfl) goF_adv h3,h4⟩
theorem c_lst {a j:Nat} {r:List Nat} (h:RW n lv nv N i a j (76::r)) (hx:∀b e,RW n lv nv N i b e r→sgA n lv b∈folL):∃b e,GoF n lv nv i D .lst a j b e∧RW n lv nv N i b e r:=by
 obtain⟨b,e,h1,h2,h3⟩:=w_kid hC 2 (by decide) (by decide) rfl h
 refine⟨b,e,(hC.gk _ _ _ _ h1 ?_).l h2,h3⟩
 rw [h2]
 exact⟨fun _=>hx b e h3,fun h=>absurd h (by decide),fun h=>absurd h (by decide),fun h=>absurd h (by unfold CK;decide),fun h=>absurd h (by decide)⟩
theorem c_body {a j:Nat} {m r:List Nat} (h:RW n lv nv N i a j (m++r)) (hm:qList m) (hx:∀b e,RW n lv nv N i b e r→sgA n lv b∈folL):∃b e,GoF n lv nv i D (bodyP n lv) a j b e∧RW n lv nv N i b e r:=by
 obtain⟨ns,y,rfl,hns,c,rfl,hc⟩:=hm
 obtain rfl:c=76:=by simpa using hc
 rw [List.append_assoc]at h
 obtain⟨a',h1,h2⟩:=c_nls hC h hns (fun a j h=>not110 (n_kid hC (K:=2) (.inl rfl) rfl a j h))
 obtain⟨b,e,h3,h4⟩:=c_lst hC h2 hx
 obtain⟨b',e',h5,h6,_⟩:=w_kid hC 2 (by decide) (by decide) rfl h2
 exact⟨b,e,goF_seq h1 (goF_yes ((hC.fs _ _ _ _ h5).p (.inl h6)) h3),h4⟩
theorem c_want {a j c:Nat} {r:List Nat} (h:RW n lv nv N i a j (c::r)) (hc:c∉upL):GoF n lv nv i D (wantP n lv c) a j (a+1) j∧RW n lv nv N i (a+1) j r:=by
 obtain⟨h1,h2⟩:=w_leaf hC h hc
 exact⟨goF_yes (t_isy h1 (by simp)) goF_adv,h2⟩
theorem c_red {a j:Nat} {r:List Nat} (h:RW n lv nv N i a j (82::r)):∃b e,tst (rdrT n lv) a D true∧GoF n lv nv i D (redP n lv) a j b e∧RW n lv nv N i b e r∧Kid nv N i a j b e∧(nv j).k=8:=by
 obtain⟨b,e,h1,h2,h3⟩:=w_kid hC 8 (by decide) (by decide) rfl h
 refine⟨b,e,(hC.fs _ _ _ _ h1).r h2,(hC.gk _ _ _ _ h1 ?_).r h2,h3,h1,h2⟩
 rw [h2]
 exact⟨fun h=>absurd h (by decide),fun h=>absurd h (by decide),fun h=>absurd h (by decide),fun h=>absurd h (by unfold CK;decide),fun h=>absurd h (by decide)⟩
theorem c_word {a j:Nat} {r:List Nat} (h:RW n lv nv N i a j (87::r)):∃b e,tst (wrdT n lv) a D true∧GoF n lv nv i D wordP a j b e∧RW n lv nv N i b e r∧Kid nv N i a j b e∧(nv j).k=7:=by
 obtain⟨b,e,h1,h2,h3⟩:=w_kid hC 7 (by decide) (by decide) rfl h
 refine⟨b,e,(hC.fs _ _ _ _ h1).w (.inr h2),(hC.gk _ _ _ _ h1 ?_).w h2,h3,h1,h2⟩
 rw [h2]
 exact⟨fun h=>absurd h (by decide),fun h=>absurd h (by decide),fun h=>absurd h (by decide),fun h=>absurd h (by unfold CK;decide),fun h=>absurd h (by decide)⟩
theorem c_won {a j:Nat} {r:List Nat} (h:RW n lv nv N i a j (87::r)):∃b e,GoF n lv nv i D (wonP n lv) a j b e∧RW n lv nv N i b e r:=by
 obtain⟨b,e,h1,h2,h3,_⟩:=c_word hC h
 exact⟨b,e,goF_yes h1 h2,h3⟩
theorem c_reds:∀{rs:List Nat} {a j:Nat},RW n lv nv N i a j rs→InM [82] rs→(∀T:Nat,(T:Int)=(nv i).t→sgA n lv T∈folC)→∃T e:Nat,(T:Int)=(nv i).t∧IsEnd nv N i e∧GoF n lv nv i D (redsP n lv) a j T e
 | [],a,j,h,_,hx=>by
  obtain⟨h1,h2⟩:=rw_nil h
  have h3:=hx a h1
  exact⟨a,j,h1,h2,goF_stop (t_rdn (fun e=>by rw [e]at h3;exact absurd h3 (by decide)) (fun e=>by rw [e]at h3;exact absurd h3 (by decide)))⟩
 |c::rs,a,j,h,hn,hx=>by
  obtain rfl:c=82:=by simpa using hn c (List.mem_cons_self ..)
  obtain⟨b,e,h1,h2,h3,_⟩:=c_red hC h
  obtain⟨T,e',h4,h5,h6⟩:=c_reds h3 (fun s hs=>hn s (List.mem_cons_of_mem _ hs)) hx
  exact⟨T,e',h4,h5,goF_more h1 h2 h6⟩
end
end Go.Proofs.YtkolpaonccmgiaaGreatDoor.Q

/- Commands that only read, in one region whose order -/
import Derived.Sort.BigQuietIn
import Derived.Deep.RegionHeld3
import Derived.RangeFuncCalls
namespace Go.Proofs.YtdjcidackkogjaaGreatDoor
set_option linter.unusedSectionVars false
set_option linter.unusedVariables false
open Go BigFrame
section
variable{F:Fence}{n:Nat}{P:Program}{ops:Array Oper}{C:World→Prop}
def KZ(ops:Array Oper):Bool:=ops.toList.all λo=>match o.op with
 | .defer _=>false
 |_=>true
theorem Bo(hp:KZ ops=true){i:Nat}{o:Oper}(hi:ops[i]?=some o)(ro:Option Nat)(ρ:Operand→Value):Oper.semAt ro ρ o=execOp ρ o:=by
 refine Oper.semAt_eq ro ρ o λc hc=>?_;have hm:o∈ops.toList:=by
  obtain⟨h1,h2⟩:=Array.getElem?_eq_some_iff.1 hi;rw[←h2];exact Array.getElem_mem_toList h1
 have:=List.all_eq_true.1 hp o hm;simp only[hc]at this;cases this
theorem zad{o:Oper}{a:Act}{K:Act→Prop}{K':Act→World→Prop}{Q':Exit→Act→World→Prop}{w:World}(hs:∀ρ,Oper.semAt F.round ρ o=execOp ρ o)(hC:C w)(hK:∀a w',C w'→K a→K' a w')
 (hA:o.askedIn F P a C)(hq:o.quietIn F n P a C K):o.wpIn F n P a w K' Q':=by
 obtain⟨v,hv,hk⟩:=hq;have hr:=hv w hC;refine⟨hA w hC,?_⟩;rw[hs];unfold Oper.quietAtIn at hr;revert hr
 cases(execOp a.eval o).run P w with
 |halt x w'=>intro hr;simp only[Oper.quietUponIn]at hr
 |ok x w'=>
  intro hr
  cases x with
  |value u=>simp only[Oper.quietUponIn]at hr;obtain⟨rfl,rfl⟩:=hr;exact hK _ _ hC hk
  |skip=>simp only[Oper.quietUponIn]at hr;obtain⟨rfl,rfl⟩:=hr;exact hK _ _ hC hk
  |enter f args=>
   simp only[Oper.quietUponIn]at hr;obtain⟨rfl,hd,hc⟩:=hr;refine⟨hd,hc.mono ?_⟩;rintro e w'' ⟨rfl,hw⟩;exact hK _ _ hw hk
  |_=>simp only[Oper.quietUponIn]at hr
theorem zje(hp:KZ ops=true){md:Region.Mode}{Q:Act→Prop}{Q':Exit→Act→World→Prop}(hQ:∀a w,C w→Q a→Q' .normal a w)(fuel:Nat):∀(listed:Array Bool) (a:Act) (w:World),C w→
  wpAnyQIn F n P md ops C Q fuel listed a→wpAnyIn F n P md ops Q' fuel listed a w:=by
 induction fuel with
 |zero=>exact λ_ _ _ hw h=>⟨h.1,hQ _ _ hw h.2⟩
 |succ fuel ih=>
  intro listed a w hw h;refine⟨λh0=>hQ _ _ hw (h.1 h0),λi hi=>?_⟩;have hq:=h.2 i hi;unfold qOpIn at hq;unfold wpOpIn
  cases ho:ops[i]? with
  |none=>simp only[ho]at hq ⊢;exact ih _ _ _ hw hq
  |some o=>
   simp only[ho]at hq ⊢;by_cases hg:Region.wanted o (yielded ops a.tmps)=true
   ·simp only[hg,if_true]at hq ⊢
    exact zad (λρ=>Bo hp ho _ ρ) hw (λa' w' hw' h'=>ih _ a' w' hw' h') hq.1 hq.2
   ·simp only[hg]at hq ⊢
    exact⟨hq.1 w hw,ih _ _ _ hw hq.2⟩
theorem Nu{id:Nat}{Q:Exit→Act→World→Prop}{a:Act}{w:World}{l:List Oper}(hp:KZ l.toArray=true)(hm:P.follows .mixedOrders=true)(hB:Region.lexB .any l.toArray=true)
 (h:wpQuietIn F n P l.toArray (λw'=>∃n,w'=w.drewN n) (λa'=>∀w',(∃n,w'=w.drewN n)→Q .normal a' w') l a):(Code.region id l.toArray true).wpIn F n P Q a w:=by
 simp only[Region.lexB,Bool.and_eq_true]at hB;refine wpIn_region_any hm (zje hp (Q:=λa'=>∀w',(∃n,w'=w.drewN n)→Q .normal a' w') (λ_ w' hw' h=>h w' hw') _ _ _ _ ⟨1,rfl⟩ ?_);have:=wpAnyQIn_lex (F:=F) (n:=n) (C:=λw'=>∃n,w'=w.drewN n) (md:=.any) hB.1 l 0 (Array.replicate l.toArray.size false) a (by simp) (by simpa using hB.2) h;simpa using this
end
def YU(A:Array Oper)(j:Nat):List Nat:=match A[j]? with
 |some o=>(o.after.toList.filter (Region.binds .any)).map (·.on)
 |none=> []
def Ny(A:Array Oper):Nat→List Nat→Bool
 |0,_=>true
 |j+1,S=>S.contains j && Ny A j (S++YU A j)
def zae(k:Nat)(o:Option Oper):Bool:=match o.bind (·.guard)with
 |some (g,_)=>decide (g<k)
 |none=>true
def Bq(k:Nat)(A:Array Oper):Bool:=(List.range A.size).all λj=>
 if j<k then(YU A j).all (λx=>decide (x<j))&& zae k A[j]? else(YU A j).any (λx=>decide (k≤x))||Ny A k (YU A j)
def On(L:Array Bool)(j:Nat):Prop:=L.getD j false=true
def zaf(A:Array Oper)(k:Nat)(L:Array Bool):Prop:=∀j,j<k→On L j→∀x∈YU A j,On L x
theorem zah{A:Array Oper}{k:Nat}{L:Array Bool}(hc:zaf A k L):∀(j:Nat) (S:List Nat),j≤k→Ny A j S=true→(∀x∈S,On L x)→∀x,x<j→On L x
 |0,_,_,_,_,x,hx=>by omega
 |j+1,S,hj,hg,hS,x,hx=>by
  simp only[Ny,Bool.and_eq_true,List.contains_iff_mem]at hg;have hjo:=hS j hg.1;rcases Nat.lt_or_ge x j with h|h
  ·refine zah hc j _ (by omega) hg.2 (λy hy=>?_) x h
   rcases List.mem_append.1 hy with h1|h1
   ·exact hS y h1
   ·exact hc j (by omega) hjo y h1
  ·have:x=j:=by omega
   rw[this];exact hjo
theorem zai{A:Array Oper}{j:Nat}{o:Oper}(ho:A[j]?=some o){x:Nat}:x∈YU A j↔∃e∈o.after,Region.binds .any e=true∧e.on=x:=by
 unfold YU;rw[ho];simp only[List.mem_map,List.mem_filter,Array.mem_toList_iff,and_assoc]
theorem Ws{A:Array Oper}{j:Nat}{L:Array Bool}:j∈Region.ready .any A L↔L.getD j true=false∧j<A.size∧∀x∈YU A j,On L x:=by
 rw[mem_ready];constructor
 ·rintro⟨h0,o,ho,h⟩
  refine⟨h0,(Array.getElem?_eq_some_iff.1 ho).1,λx hx=>?_⟩;obtain⟨e,h1,h2,h3⟩:=(zai ho).1 hx;exact h3▸h e h1 h2
 ·rintro⟨h0,hl,h⟩
  have ho:A[j]?=some A[j]:=Array.getElem?_eq_getElem hl;exact⟨h0,_,ho,λe h1 h2=>h _ ((zai ho).2 ⟨e,h1,h2,rfl⟩)⟩
theorem Wu{L:Array Bool}{j:Nat}(h:j<L.size):L.getD j true=false↔¬On L j:=by
 unfold On;simp[Array.getD,h]
theorem Nz{L:Array Bool}{i x:Nat}(hi:i<L.size):On (L.setIfInBounds i true) x↔x=i∨On L x:=by
 unfold On;by_cases h:i=x
 ·subst h
  simp[hi]
 ·rw[getD_set_ne false h]
  exact⟨.inr,λhh=>hh.elim (λe=>absurd e.symm h) id⟩
theorem NC(m j:Nat):¬On (Array.replicate m false) j:=by
 unfold On;rw[Array.getD_eq_getD_getElem?,Array.getElem?_replicate];split<;>simp
section
variable{F:Fence}{n:Nat}{P:Program}{C:World→Prop}{Q':Exit→Act→World→Prop}
theorem zaj{A:Array Oper}:∀(fuel:Nat) (L:Array Bool) (a:Act) (w:World),wpAnyIn F n P .any A Q' fuel L a w→wpAnyIn F n P .any A Q' (fuel+1) L a w
 |0,L,a,w,h=>⟨λ_=>h.2,λi hi=>by rw[h.1]at hi;cases hi⟩
 |fuel+1,L,a,w,h=>⟨h.1,λi hi=>wpOpIn_mono (λa' w' h'=>zaj fuel _ a' w' h') (h.2 i hi)⟩
theorem Bv{A:Array Oper}(L:Array Bool)(a:Act)(w:World)(M:Nat)(h:wpAnyIn F n P .any A Q' M L a w):∀fuel,wpAnyIn F n P .any A Q' (fuel+M) L a w
 |0=>by rw[Nat.zero_add];exact h
 |fuel+1=>by
  have:=zaj _ _ _ _ (Bv L a w M h fuel)
  rwa [show fuel+M+1=fuel+1+M by omega]at this
variable{l:List Oper}{k:Nat}
theorem zak{o:Oper}{i:Nat}(hi:i<k)(ho:l[i]?=some o)(hg:Bq k l.toArray=true)(t:Array Value):Region.wanted o (yielded (l.take k).toArray t)=Region.wanted o (yielded l.toArray t):=by
 have hl:i<l.length:=(List.getElem?_eq_some_iff.1 ho).1;have h:=List.all_eq_true.1 hg i (by simp[hl]);simp only[hi,if_true,Bool.and_eq_true]at h;have h2:=h.2;unfold zae at h2;simp only[List.getElem?_toArray,ho,Option.bind_some]at h2;unfold Region.wanted
 cases hgd:o.guard with
 |none=>rfl
 |some p=>
  obtain⟨g,b⟩:=p;rw[hgd]at h2;simp only[decide_eq_true_eq]at h2;have:yielded (l.take k).toArray t g=yielded l.toArray t g:=by
   unfold yielded;simp only[List.getElem?_toArray,List.getElem?_take,h2,if_true]
  simp only[this]
theorem zjf(hk:k≤l.length)(hp:KZ (l.take k).toArray=true)(hg:Bq k l.toArray=true){Q:Act→Prop}(M:Nat)
 (hQ:∀(L:Array Bool),L.size=l.length→(∀j,On L j↔j<k)→∀a w,C w→Q a→wpAnyIn F n P .any l.toArray Q' M L a w):∀(fuel:Nat) (LA L:Array Bool) (a:Act) (w:World),C w→L.size=l.length→LA.size=k→
   (∀j,j<k→(On LA j↔On L j))→(∀j,k≤j→¬On L j)→zaf l.toArray k L→wpAnyQIn F n P .any (l.take k).toArray C Q fuel LA a→wpAnyIn F n P .any l.toArray Q' (fuel+M) L a w:=by
 have hsz:(l.take k).toArray.size=k:=by simp[hk]
 have BA:∀j,j<k→YU (l.take k).toArray j=YU l.toArray j:=λj hj=>by
  unfold YU;simp only[List.getElem?_toArray,List.getElem?_take,hj,if_true]
 have hlow:∀j,j<k→∀x∈YU l.toArray j,x<j:=λj hj x hx=>by
  have h:=List.all_eq_true.1 hg j (by simp;omega);simp only[hj,if_true,Bool.and_eq_true]at h;simpa using List.all_eq_true.1 h.1 x hx
 have hall:∀(LA L:Array Bool),LA.size=k→(∀j,j<k→(On LA j↔On L j))→Region.ready .any (l.take k).toArray LA=[]→∀j,j<k→On L j:=by
  intro LA L h1 h2 h3 j
  induction j using Nat.strongRecOn with
  |_ j ih=>
   intro hj;refine Classical.byContradiction λhn=>?_;have:j∈Region.ready .any (l.take k).toArray LA:=Ws.2 ⟨(Wu (by omega)).2 (λh=>hn ((h2 j hj).1 h)),by omega,λx hx=>by
    rw[BA j hj]at hx;have:=hlow j hj x hx;exact(h2 x (by omega)).2 (ih x this (by omega))⟩
   rw[h3]at this;cases this
 intro fuel
 induction fuel with
 |zero=>
  intro LA L a w hC h1 h2 h3 h4 h5 h;refine Bv L a w M (hQ L h1 (λj=>⟨λhj=>?_,λhj=>hall LA L h2 h3 h.1 j hj⟩) a w hC h.2) 0;rcases Nat.lt_or_ge j k with g|g
  ·exact g
  ·exact absurd hj (h4 j g)
 |succ fuel ih=>
  intro LA L a w hC h1 h2 h3 h4 h5 h;by_cases hr:Region.ready .any (l.take k).toArray LA=[]
  ·refine Bv L a w M (hQ L h1 (λj=>⟨λhj=>?_,λhj=>hall LA L h2 h3 hr j hj⟩) a w hC (h.1 hr)) (fuel+1)
   rcases Nat.lt_or_ge j k with g|g
   ·exact g
   ·exact absurd hj (h4 j g)
  ·obtain⟨i0,hi0⟩:=List.exists_mem_of_ne_nil _ hr
   have hup:∀i,i∈Region.ready .any (l.take k).toArray LA→i<k∧i∈Region.ready .any l.toArray L:=λi hi=>by
    obtain⟨g1,g2,g3⟩:=Ws.1 hi;rw[hsz]at g2;refine⟨g2,Ws.2 ⟨(Wu (by omega)).2 (λh=>(Wu (by omega)).1 g1 ((h3 i g2).2 h)),by simp;omega,λx hx=>?_⟩⟩;have:=hlow i g2 x hx;exact(h3 x (by omega)).1 (g3 x (by rw[BA i g2];exact hx))
   have hnot:¬∀j,j<k→On L j:=λhh=>by
    obtain⟨g1,g2⟩:=hup i0 hi0;obtain⟨g3,_,_⟩:=Ws.1 g2;exact(Wu (by omega)).1 g3 (hh i0 g1)
   rw[show fuel+1+M=fuel+M+1 by omega];refine⟨λh0=>?_,λi hi=>?_⟩
   ·have:=(hup i0 hi0).2
    rw[h0]at this;cases this
   ·obtain⟨g1,g2,g3⟩:=Ws.1 hi
    have hik:i<k:=by
     refine Classical.byContradiction λhn=>?_;have h:=List.all_eq_true.1 hg i (by simpa using g2);simp only[hn,if_false,Bool.or_eq_true]at h;rcases h with h|h
     ·obtain⟨x,hx,hx2⟩:=List.any_eq_true.1 h
      simp only[decide_eq_true_eq]at hx2;exact h4 x hx2 (g3 x hx)
     ·exact hnot (zah h5 k _ (Nat.le_refl _) h g3)
    have hiA:i∈Region.ready .any (l.take k).toArray LA:=Ws.2 ⟨(Wu (by omega)).2 (λh=>(Wu (by omega)).1 g1 ((h3 i hik).1 h)),by omega,λx hx=>by
     rw[BA i hik]at hx;have:=hlow i hik x hx;exact(h3 x (by omega)).2 (g3 x hx)⟩
    have hq:=h.2 i hiA;have hlen:i<l.length:=by omega
    have ho:l[i]?=some l[i]:=List.getElem?_eq_getElem hlen;have hoA:(l.take k).toArray[i]?=some l[i]:=by simp[hik,ho]
    unfold qOpIn at hq;unfold wpOpIn;rw[hoA]at hq;simp only[List.getElem?_toArray,ho]at hq ⊢;have hnext:∀a' w',C w'→wpAnyQIn F n P .any (l.take k).toArray C Q fuel (LA.setIfInBounds i true) a'→wpAnyIn F n P .any l.toArray Q' (fuel+M) (L.setIfInBounds i true) a' w':=λa' w' hw' h'=>by
     refine ih _ _ a' w' hw' (by simpa using h1) (by simpa using h2) (λj hj=>?_) (λj hj=>?_) (λj hj hon x hx=>?_) h'
     ·rw[Nz (by omega),Nz (by omega),h3 j hj]
     ·rw[Nz (by omega)]
      rintro(e|e)
      ·omega
      ·exact h4 j hj e
     ·rw[Nz (by omega)]at hon ⊢
      rcases hon with e|e
      ·exact .inr (g3 x (by rw[←e];exact hx))
      ·exact .inr (h5 j hj e x hx)
    by_cases hw:Region.wanted l[i] (yielded (l.take k).toArray a.tmps)=true
    ·simp only[hw,if_true]at hq
     rw[zak hik ho hg]at hw;simp only[hw,if_true];exact zad (λρ=>Bo hp hoA _ ρ) hC hnext hq.1 hq.2
    ·simp only[hw]at hq
     rw[zak hik ho hg]at hw;simp only[hw];exact⟨hq.1 w hC,hnext _ _ hC hq.2⟩
theorem rV{id:Nat}{a:Act}{w:World}(k:Nat)(hk:k≤l.length)(hp:KZ (l.take k).toArray=true)(hg:Bq k l.toArray=true)(hm:P.follows .mixedOrders=true)(hB:Region.lexB .any (l.take k).toArray=true)
 (h:wpQuietIn F n P (l.take k).toArray (λw'=>∃n,w'=w.drewN n) (λa'=>∀w',(∃n,w'=w.drewN n)→wpAnyIn F n P .any l.toArray Q' (l.length-k) (List.replicate k true++List.replicate (l.length-k) false).toArray a' w') (l.take k) a):(Code.region id l.toArray true).wpIn F n P Q' a w:=by
 simp only[Region.lexB,Bool.and_eq_true]at hB;have hlen:(l.take k).length=k:=by simp[hk]
 have h9:=wpAnyQIn_lex (F:=F) (n:=n) (C:=λw'=>∃n,w'=w.drewN n) (md:=.any) hB.1 (l.take k) 0 (Array.replicate (l.take k).toArray.size false) a (by simp) (by simpa using hB.2) h;refine wpIn_region_any hm ?_;have h10:=zjf (F:=F) (n:=n) (P:=P) (Q':=Q') (C:=λw'=>∃n,w'=w.drewN n) hk hp hg (l.length-k) (λL h1 h2 a' w' hw hq=>by
  have e:L=(List.replicate k true++List.replicate (l.length-k) false).toArray:=by
   apply Array.ext
   ·simp;omega
   ·intro i hi1 hi2
    have h3:=h2 i;unfold On at h3;simp only[Array.getD,hi1,dif_pos]at h3;simp only[List.getElem_toArray,List.getElem_append,List.getElem_replicate,List.length_replicate];by_cases hik:i<k
    ·simp only[hik,dite_true]
     exact h3.2 hik
    ·simp only[hik,dite_false]
     simpa using λhh=>hik (h3.1 hh)
  rw[e];exact hq w' hw) (l.take k).length (Array.replicate (l.take k).toArray.size false) (Array.replicate l.toArray.size false) a {w with drawn:=w.drawn+1} ⟨1,rfl⟩ (by simp) (by simp[hk]) (λj hj=>⟨λh=>absurd h (NC _ _),λh=>absurd h (NC _ _)⟩) (λj hj=>NC _ _) (λj hj ho=>absurd ho (NC _ _)) h9
 rw[hlen,show k+(l.length-k)=l.length by omega]at h10;simpa using h10
end
open Go
def VH(Q:Exit→Act→World→Prop):Exit→Act→World→Prop
 | .normal,a,w=>Q .normal a w
 |_,_,_=>False
theorem VH.normal{Q:Exit→Act→World→Prop}{a:Act}{w:World}(h:Q .normal a w):VH Q .normal a w:=h
theorem VH.stays(Q:Exit→Act→World→Prop):¬LetsOut (VH Q):=fun⟨_,_,h⟩=>h
section
variable{P:Program}{ops:Array Oper}{Q:Exit→Act→World→Prop}{l n:Nat}
theorem zjg{o:Oper}{a:Act}{w:World}{K K':Act→World→Prop}(hs:∀ρ,Oper.semAt (Fence.wide.inRound l).round ρ o=execOp ρ o)(hK:∀a w,K a w→K' a w)(h:o.wp P a w K (VH Q)):o.wpIn (Fence.wide.inRound l) n P a w K' Q:=by
 refine⟨λ_ _=>trivial,?_⟩;rw[hs];unfold Oper.wp at h;revert h
 cases(execOp a.eval o).run P w with
 |halt x w'=>
  intro h;cases x<;>simp only[Oper.upon]at h;exact h.elim
 |ok x w'=>
  intro h
  cases x with
  |value v=>exact hK _ _ h
  |skip=>exact hK _ _ h
  |defer d=>exact hK _ _ h
  |enter f args=>
   simp only[Oper.upon]at h;refine⟨λhd=>(by cases hd),(CallsIn.inRound l (callsIn_wide.2 h)).mono ?_⟩;intro e w'' he
   cases e with
   |returned v=>exact hK _ _ he
   |panicked c=>exact he.elim
   |outgrown=>exact(VH.stays Q he).elim
  |row row args=>
   simp only[Oper.upon]at h;refine⟨λhd=>(by cases hd),λc cs _=>?_⟩;obtain⟨v,w',r,s⟩:=h c cs;exact⟨v,w',hK _ _ r,stepsIn_wide.2 s⟩
  |_=>simp only[Oper.upon]at h
theorem ND(hp:KZ ops=true):∀(fuel:Nat) (L:Array Bool) (a:Act) (w:World),wpAny P .any ops (VH Q) fuel L a w→wpAnyIn (Fence.wide.inRound l) n P .any ops Q fuel L a w
 |0,_,_,_,h=>h
 |fuel+1,L,a,w,h=>⟨h.1,λi hi=>by
  have hq:=h.2 i hi;unfold wpOp at hq;unfold wpOpIn
  cases ho:ops[i]? with
  |none=>simp only[ho]at hq ⊢;exact ND hp fuel _ _ _ hq
  |some o=>
   simp only[ho]at hq ⊢;by_cases hg:Region.wanted o (yielded ops a.tmps)=true
   ·simp only[hg,if_true]at hq ⊢
    rcases hq with hq|hq
    ·exact zjg (λρ=>Bo hp ho _ ρ) (λa w h'=>ND hp fuel _ a w h') hq
    ·exact(VH.stays Q hq.2).elim
   ·simp only[hg]at hq ⊢
    exact⟨λ_ _=>trivial,ND hp fuel _ _ _ hq⟩⟩
theorem zja{S:World→Prop}{id:Nat}{a:Act}{w:World}(hp:KZ ops=true)(hm:P.follows .mixedOrders=true)(hS:S w.drew)
 (h:S w.drew→wpAnyH P .any ops (VH Q) S ops.size (Array.replicate ops.size false) a w.drew):(Code.region id ops true).wpIn (Fence.wide.inRound l) n P Q a w:=
 wpIn_region_any hm (ND hp _ _ _ _ (wpAny_of_held _ _ _ _ (h hS)))
end
end Go.Proofs.YtdjcidackkogjaaGreatDoor

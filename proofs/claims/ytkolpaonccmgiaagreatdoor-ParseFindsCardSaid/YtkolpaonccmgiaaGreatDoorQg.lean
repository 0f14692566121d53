/- The plain facts on how the parts of a text lie to  -/
import Derived.Test.YtkolpaonccmgiaaGreatDoorPtK
set_option linter.unusedVariables false
namespace Go.Proofs.YtkolpaonccmgiaaGreatDoor
set_option linter.unusedSectionVars false
set_option linter.unusedVariables false
open Go.RowKit
def parB (b:Nat):Prop:=cls b=5∨cls b=6∨specB b=true
theorem parB_ne {b:Nat} (h:parB b):b≠92∧b≠39∧b≠34∧b≠96∧b≠40∧b≠41∧b≠125∧b≠123∧b≠10∧endsB b=false:=by
 refine⟨?_,?_,?_,?_,?_,?_,?_,?_,?_,?_⟩
 all_goals first
  |(rintro rfl;revert h;unfold parB;decide)
  |skip
 unfold endsB
 rw [decide_eq_false_iff_not]
 intro g
 rcases h with h|h|h
 ·omega
 ·omega
 ·unfold specB at h
  rw [decide_eq_true_iff]at h
  rcases h with rfl|rfl|rfl|rfl|rfl|rfl|rfl<;>revert g<;>decide
theorem mv_par {m b:Nat} (hm:base m=true) (h:parB b) (h36:b≠36):mv m b false=(.keep,false):=by
 obtain⟨h1,h2,h3,h4,h5,h6,h7,h8,h9,h10⟩:=parB_ne h
 have hm':m≠3∧m≠4∧m≠11∧m≠12∧m≠13∧m≠14∧m≤14:=by unfold base at hm;simpa using hm
 have ho:opn b=15:=by unfold opn;rw [if_neg h1,if_neg h36,if_neg h4]
 unfold mv
 by_cases hP:isProg m=true
 ·rw [if_pos hP,if_neg h1,if_neg h2,if_neg h3,if_neg (by omega),if_neg (by simp),if_neg h5,if_neg h6,h10]
 ·rw [if_neg hP,if_neg hm'.2.2.2.2.1,if_neg hm'.2.1,if_neg hm'.2.2.2.2.2.1]
  by_cases e6:m=6
  ·rw [if_pos e6,if_neg h4,if_neg h1]
  rw [if_neg e6,if_neg (by simp [ho])]
  by_cases e9:m=9∨m=10
  ·rw [if_pos e9,if_neg h5,if_neg (fun h=>h6 h.1),if_neg h6]
  rw [if_neg e9]
  by_cases e5:m=5
  ·rw [if_pos e5,if_neg h3]
  rw [if_neg e5,if_neg h3,if_neg h7,if_neg (fun h=>h2 h.1)]
theorem plain_par {m f:Nat} {r:List Fr} {b p:Nat} (hm:base m=true) (h:parB b) (h36:b≠36):plainF ((m,f)::r) false b p=⟨(m,f)::r,false⟩:=by
 show(⟨(mv m b false).1.run ((m,f)::r) p,(mv m b false).2⟩:Ms)=_
 rw [mv_par hm h h36]
 rfl
theorem feed_par12 {f:Nat} {r:List Fr} {b p:Nat} (hg:good ((12,f)::r)) (h:parB b):feed ⟨(12,f)::r,false⟩ b p=⟨r,false⟩:=by
 obtain⟨h1,h2,h3,h4,h5,h6,h7,h8,h9,h10⟩:=parB_ne h
 obtain⟨m2,f2,r2,rfl,ho,hg2⟩:=good_more hg (by decide)
 unfold feed
 simp only [if_true]
 rw [if_neg h5,if_neg h8]
 by_cases h36:b=36
 ·rw [if_pos h36]
 ·rw [if_neg h36,plain_par (over_base ho) h h36]
theorem feed_par {m f:Nat} {r:List Fr} {b p:Nat} (hm:base m=true) (h:parB b) (h36:b≠36):feed ⟨(m,f)::r,false⟩ b p=⟨(m,f)::r,false⟩:=by
 have hm':m≠3∧m≠4∧m≠11∧m≠12∧m≠13∧m≠14∧m≤14:=by unfold base at hm;simpa using hm
 rw [feed_plain hm'.1 hm'.2.2.1 hm'.2.2.2.1,plain_par hm h h36]
theorem param_bytes {s:ByteArray} {k i:Nat} (h:i<paramN s k):parB (by8 s (k+i))∧(0<i→by8 s (k+i)≠36):=by
 unfold paramN at h
 split at h
 ·rename_i hn
  have:=lead_all (fun i=>mayN (cl s (k+i)) i) (z:=s.size - k) (i:=i) h
  have h5:cl s (k+i)=5∨(cl s (k+i)=6∧0<i):=by unfold mayN at this;simpa using this
  have e:cl s (k+i)=cls (by8 s (k+i)):=rfl
  rw [e]at h5
  refine⟨?_,fun _ h36=>?_⟩
  ·rcases h5 with h5|h5
   ·exact .inl h5
   ·exact .inr (.inl h5.1)
  ·rw [h36]at h5
   revert h5
   have:cls 36=4:=by decide
   omega
 ·split at h
  ·rename_i hx
   obtain rfl:i=0:=by omega
   refine⟨?_,fun h=>by omega⟩
   rw [Nat.add_zero]
   rcases hx.2 with h6|h6
   ·exact .inr (.inl h6)
   ·exact .inr (.inr h6)
  ·omega
theorem dollar_last {s:ByteArray} {k f:Nat} {A R:List Fr} (h:nt s k=A++(12,f)::R):A=[]:=by
 cases hA:A.reverse with
 |nil=>simpa using hA
 |cons a A2=>
  exfalso
  have e:A=A2.reverse++ [a]:=by
   have:=congrArg List.reverse hA
   simpa using this
  have hg:=(runK_inv s k).good
  rw [nt_st,h,e]at hg
  have hd:∀(B:List Fr) (C:List Fr),good (B++a::(12,f)::C)→False:=by
   intro B
   induction B with
   |nil=>
    intro C h
    have:=over_base (good_two (m:=a.1) (f:=a.2) h).1
    simp [base]at this
   |cons b B ih=>
    intro C h
    refine ih C ?_
    cases hB:B++a::(12,f)::C with
    |nil=>simp at hB
    |cons c D=>
     rw [List.cons_append,hB]at h
     exact(good_two (m:=b.1) (f:=b.2) (m2:=c.1) (f2:=c.2) h).2
  refine hd A2.reverse (R++ [(0,0)]) ?_
  simpa using hg
theorem dollar_once {s:ByteArray} {k f:Nat} (h:pres s (k+1) f=true) (hf:f<k) (hm:md s k f=12):md s (k+1) f≠12:=by
 obtain⟨A,R,hA⟩:=pres_split (pres_back h hf)
 rw [hm]at hA
 obtain rfl:=dollar_last hA
 rw [List.nil_append]at hA
 have hI:=runK_inv s k
 have hst:(runK s k).st=(12,f)::(R++ [(0,0)]):=by rw [nt_st,hA];rfl
 have hRf:∀x∈R,x.2≠f:=by
  have:=nt_pw s k
  rw [hA,List.pairwise_cons]at this
  intro x hx e
  have:=this.1 x hx
  simp at this
  omega
 obtain⟨st,fr⟩:∃x,x=runK s k:=⟨_,rfl⟩
 have hN:=nt_st s (k+1)
 have hsu:=runK_succ s k
 obtain⟨m',hm'⟩:=pres_iff.1 h
 have key:∀b,(feed (runK s k) b k).st=nt s (k+1)++ [(0,0)]→md s (k+1) f≠12:=by
  intro b hb
  have hx:runK s k=⟨(12,f)::(R++ [(0,0)]),(runK s k).fresh⟩:=by
   cases hq:runK s k with
   |mk a c=>rw [hq]at hst;simp at hst;rw [hst]
  rw [hx]at hb
  unfold feed at hb
  simp only [if_true]at hb
  have not:∀D:List Fr,D=R→(nt s (k+1)=D∨(∃n,nt s (k+1)=(n,k)::D))→False:=by
   intro D hD hh
   subst hD
   rcases hh with hh|⟨n,hh⟩
   ·rw [hh]at hm'
    exact hRf _ hm' rfl
   ·rw [hh]at hm'
    rcases List.mem_cons.1 hm' with e|e
    ·simp at e;omega
    ·exact hRf _ e rfl
  split at hb
  ·have e:nt s (k+1)=(3,f)::R:=by
    have:(3,f)::(R++ [(0,0)])=nt s (k+1)++ [(0,0)]:=hb
    rw [←List.cons_append]at this
    exact(List.append_cancel_right this).symm
   rw [md_at (A:=[]) e]
   decide
  split at hb
  ·have e:nt s (k+1)=(brace (top (R++ [(0,0)])),f)::R:=by
    have:(brace (top (R++ [(0,0)])),f)::(R++ [(0,0)])=nt s (k+1)++ [(0,0)]:=hb
    rw [←List.cons_append]at this
    exact(List.append_cancel_right this).symm
   rw [md_at (A:=[]) e]
   unfold brace
   split<;>decide
  split at hb
  ·exact absurd (.inl (List.append_cancel_right (show R++ [(0,0)]=nt s (k+1)++ [(0,0)]from hb)).symm) (fun h=>not R rfl h)
  ·
   exfalso
   have hgd:=hI.good
   rw [hst]at hgd
   obtain⟨m2,f2,r2,hr2,ho,hg2⟩:=good_more hgd (by decide)
   rw [hr2]at hb
   have hmem:∀x∈nt s (k+1)++ [(0,0)],x.2=f→x∈nt s (k+1)→False:=by
    intro x hx hxf hxn
    rw [←hb]at hx
    have hsub:∀y∈((m2,f2)::r2),y.2=f→y∈R∨y=(0,0):=by
     intro y hy _
     rw [←hr2]at hy
     rcases List.mem_append.1 hy with hy|hy
     ·exact .inl hy
     ·exact .inr (by simpa using hy)
    have h00:(0,0)∈nt s (k+1)→False:=by
     intro h0
     have hgg:=(runK_inv s (k+1)).good
     obtain⟨A2,B2,hAB⟩:=List.append_of_mem h0
     rw [nt_st,hAB]at hgg
     have hz:∀(C:List Fr),good (C++(0,0)::(B2++ [(0,0)]))→False:=by
      intro C
      induction C with
      |nil=>
       intro h
       have:=good_zero h
       simp at this
      |cons c C ih=>
       intro h
       refine ih ?_
       cases hC:C++(0,0)::(B2++ [(0,0)])with
       |nil=>simp at hC
       |cons d D=>
        rw [List.cons_append,hC]at h
        exact(good_two (m:=c.1) (f:=c.2) (m2:=d.1) (f2:=d.2) h).2
     refine hz A2 ?_
     simpa using hgg
    have fin:x∈((m2,f2)::r2)→False:=by
     intro hx2
     rcases hsub x hx2 hxf with h1|h1
     ·exact hRf x h1 hxf
     ·rw [h1]at hxn
      exact h00 hxn
    rcases plain_cases m2 f2 r2 (runK s k).fresh b k with e|⟨n,e,_⟩|⟨_,e⟩|⟨e9,e⟩
    ·rw [e]at hx;exact fin hx
    ·rw [e]at hx
     rcases List.mem_cons.1 hx with h1|h1
     ·rw [h1]at hxf
      simp at hxf
      omega
     ·exact fin h1
    ·rw [e]at hx;exact fin (List.mem_cons_of_mem _ hx)
    ·rw [e]at hx
     rcases List.mem_cons.1 hx with h1|h1
     ·
      have:f2=f:=by rw [h1]at hxf;exact hxf
      have hin:(m2,f2)∈R∨(m2,f2)=(0,0):=hsub (m2,f2) (by simp) this
      rcases hin with h2|h2
      ·exact hRf _ h2 this
      ·simp at h2;omega
     ·exact fin (List.mem_cons_of_mem _ h1)
   exact hmem (m',f) (List.mem_append_left _ hm') rfl hm'
 have:=key (by8 s k) (by rw [←hsu];exact hN)
 exact this
theorem md_turn {s:ByteArray} {k f:Nat} (h:pres s (k+1) f=true) (hf:f<k) (hm:md s (k+1) f=12):md s k f=12:=by
 obtain⟨j,T,hj,hS,hN0⟩:=nt_tr s k
 have hN:=tr_or hN0
 obtain⟨A,R,hA⟩:=pres_split (pres_back h hf)
 obtain⟨A2,hA2⟩:=drop_split (nt_pw s k) hA ((stay hS hN hf).1 h)
 have hT:∃A3,T=A3++(12,f)::R:=by
  have hTe:∃A3 n,T=A3++(n,f)::R:=by
   rcases hS with rfl|⟨m1,n1,f1,r1,hD,rfl,_⟩
   ·exact⟨A2,_,hA2⟩
   ·rw [hD]at hA2
    cases A2 with
    |nil=>simp at hA2;obtain⟨⟨rfl,rfl⟩,rfl⟩:=hA2;exact⟨[],n1,rfl⟩
    |cons a A2=>simp at hA2;obtain⟨rfl,rfl⟩:=hA2;exact⟨(n1,f1)::A2,_,rfl⟩
  obtain⟨A3,n,hT⟩:=hTe
  have hn:md s (k+1) f=n:=by
   rcases hN with h|⟨n2,h⟩
   ·exact md_at (by rw [h];exact hT)
   ·exact md_at (A:=(n2,k)::A3) (by rw [h,hT];rfl)
  exact⟨A3,by rw [hT,←hn,hm]⟩
 obtain⟨A3,hT⟩:=hT
 rcases hS with rfl|⟨m1,n1,f1,r1,hD,rfl,ht⟩
 ·rw [hA2]at hT
  have h1:=md_at hA
  have hp:=nt_pw s k
  have hp2:(A2++(md s k f,f)::R).Pairwise (fun a b=>b.2<a.2):=by rw [←hA2];exact hp.sublist (List.drop_sublist _ _)
  have e1:=find_pw hp2 rfl
  have e2:=find_pw hp2 hT
  rw [e1]at e2
  simpa using e2
 ·rw [hD]at hA2
  cases A2 with
  |nil=>
   simp at hA2
   obtain⟨⟨hm1,rfl⟩,rfl⟩:=hA2
   cases A3 with
   |nil=>
    simp at hT
    subst hT
    unfold turns at ht
    omega
   |cons a A3=>
    simp at hT
    have:=congrArg List.length hT.2
    simp at this
    omega
  |cons a A2=>
   simp at hA2
   obtain⟨rfl,rfl⟩:=hA2
   cases A3 with
   |nil=>
    simp at hT
    have:=congrArg List.length hT.2
    simp at this
    omega
   |cons b A3=>
    simp at hT
    have hp:=nt_pw s k
    have hp2:(A2++(md s k f,f)::R).Pairwise (fun a b=>b.2<a.2):=by
     have h3:=hp.sublist (List.drop_sublist j (nt s k))
     rw [hD]at h3
     exact(List.pairwise_cons.1 h3).2
    have e1:=find_pw hp2 rfl
    have e2:=find_pw hp2 hT.2
    rw [e1]at e2
    simpa using e2
theorem dollar_end {s:ByteArray} {k f:Nat} (h:pres s k f=true) (hm:md s k f=12):k=f+1:=by
 have hlt:=pres_lt h
 apply Classical.byContradiction
 intro g
 obtain⟨j,rfl⟩:∃j,k=j+1:=⟨k - 1,by omega⟩
 have h1:=md_turn h (by omega) hm
 exact dollar_once h (by omega) h1 hm
theorem dollar_run {s:ByteArray} {f:Nat} (hb:born s f=true) (hm:md s (f+1) f=12):∀i,1≤i→i≤paramN s (f+1)→runK s (f+1+i)=⟨blw s f++ [(0,0)],false⟩:=by
 have h1:=born_split hb
 rw [hm]at h1
 have hI:=runK_inv s (f+1)
 have hst:(runK s (f+1)).st=(12,f)::(blw s f++ [(0,0)]):=by rw [nt_st,h1];rfl
 have hfr:(runK s (f+1)).fresh=false:=by
  rw [Bool.eq_false_iff]
  intro e
  have:=hI.fr.2 e
  rw [hst]at this
  rcases this with h|h|h|h
  ·simp [isProg,top]at h
  ·simp [top]at h
  ·simp [top]at h
  ·simp [top]at h
 have hx:runK s (f+1)=⟨(12,f)::(blw s f++ [(0,0)]),false⟩:=by
  cases hq:runK s (f+1)with
  |mk a c=>rw [hq]at hst hfr;simp at hst hfr;rw [hst,hfr]
 have hg:=hI.good
 rw [hst]at hg
 obtain⟨m2,f2,r2,hr2,ho,hg2⟩:=good_more hg (by decide)
 intro i
 induction i with
 |zero=>intro h;omega
 |succ i ih=>
  intro _ hi
  rw [show f+1+(i+1)=f+1+i+1 by omega,runK_succ]
  obtain⟨hp,hne⟩:=param_bytes (s:=s) (k:=f+1) (i:=i) (by omega)
  by_cases h0:i=0
  ·subst h0
   rw [Nat.add_zero]at hp ⊢
   rw [hx]
   exact feed_par12 hg hp
  ·rw [ih (by omega) (by omega),hr2]
   exact feed_par (over_base ho) hp (hne (by omega))
theorem dollar_nt {s:ByteArray} {f i:Nat} (hb:born s f=true) (hm:md s (f+1) f=12) (h1:1≤i) (h2:i≤paramN s (f+1)):nt s (f+1+i)=blw s f:=by
 have:=nt_st s (f+1+i)
 rw [dollar_run hb hm i h1 h2]at this
 exact(List.append_cancel_right this).symm
theorem is_dollar {s:ByteArray} {g:Nat} (hb:born s g=true) (hg:g<s.size) (h:cnt (md s (eK s g s.size) g)=12):eK s g s.size=g+1∧md s (g+1) g=12:=by
 have h12:=cnt_12.1 h
 have he:=eK_born hb hg
 have hp:=eK_pres (s:=s) (f:=g) (k:=s.size) (j:=eK s g s.size) (by omega) (Nat.le_refl _)
 have e:=dollar_end hp h12
 rw [e]at h12
 exact⟨e,h12⟩
theorem eK_ge {s:ByteArray} {g k:Nat} (hk:k≤s.size) (h:pres s k g=true):k≤eK s g s.size:=by
 apply Classical.byContradiction
 intro gg
 have hlt:=pres_lt h
 have h1:=eK_stop (s:=s) (f:=g) (k:=s.size) (by omega) (by omega)
 have h0:g≤eK s g s.size:=by unfold eK;omega
 have:=(pres_all h).2 (eK s g s.size+1) (by omega) (by omega)
 rw [this]at h1
 cases h1
theorem cover_to {s:ByteArray} {g f:Nat} (hbg:born s g=true) (hbf:born s f=true) (hgf:g<f) (hf:f<s.size) (h:pres s (f+1) g=true):(prt s f).to≤(prt s g).to:=by
 have hg1:=eK_ge (s:=s) (by omega) h
 have hgl:=eK_le s (f:=g) (k:=s.size) (by omega)
 have hng:¬cnt (md s (eK s g s.size) g)=12:=by
  intro h12
  have:=(is_dollar hbg (by omega) h12).1
  omega
 have hgb:∃m,(m,g)∈blw s f:=by
  obtain⟨m,hm⟩:=pres_iff.1 h
  rw [born_split hbf]at hm
  rcases List.mem_cons.1 hm with e|e
  ·simp at e;omega
  ·exact⟨m,e⟩
 have hthere:∀k,k≤s.size→pres s k f=true∨(∃R,nt s k=R++blw s f)→k≤eK s g s.size:=by
  intro k hk hh
  refine eK_ge hk (pres_iff.2 ?_)
  obtain⟨m,hm⟩:=hgb
  rcases hh with hh|⟨R,hh⟩
  ·obtain⟨⟨A,hA⟩,_⟩:=pres_all hh
   exact⟨m,by rw [hA];simp [hm]⟩
  ·exact⟨m,by rw [hh];simp [hm]⟩
 rw [prt_eq hbg (by omega),if_neg hng,prt_eq hbf hf]
 show _≤(if eK s g s.size=s.size then s.size else eK s g s.size+1)
 have hfl:=eK_le s (f:=f) (k:=s.size) (by omega)
 have hf1:=eK_born hbf hf
 by_cases h12:cnt (md s (eK s f s.size) f)=12
 ·obtain⟨he,hm⟩:=is_dollar hbf hf h12
  rw [if_pos h12]
  show f+1+paramN s (f+1)≤_
  have hle:=paramN_le s (f+1) (by omega)
  have:f+1+paramN s (f+1)≤eK s g s.size:=by
   by_cases h0:paramN s (f+1)=0
   ·rw [h0,Nat.add_zero];exact hg1
   ·exact hthere _ hle (.inr ⟨[],by rw [List.nil_append];exact dollar_nt hbf hm (by omega) (Nat.le_refl _)⟩)
  split<;>omega
 ·rw [if_neg h12]
  show(if eK s f s.size=s.size then s.size else eK s f s.size+1)≤_
  have hp:=eK_pres (s:=s) (f:=f) (k:=s.size) (j:=eK s f s.size) (by omega) (Nat.le_refl _)
  have:=hthere _ hfl (.inl hp)
  split<;>split<;>omega
theorem to_gt {s:ByteArray} {f:Nat} (hb:born s f=true) (hf:f<s.size):f<(prt s f).to:=by
 have he:=eK_born hb hf
 rw [prt_eq hb hf]
 split
 ·show f<f+1+_;omega
 ·show f<(if eK s f s.size=s.size then s.size else eK s f s.size+1)
  split<;>omega
def headM (m:Nat):Nat:=if m=1∨m=7∨m=8 then 2 else if m=9 then 3 else 1
def tailM (m:Nat):Nat:=if m=1∨m=7∨m=8 then 1 else if m=9 then 2 else if m=13∨m=12 then 0 else 1
theorem headM_le (m:Nat):headM m≤3:=by unfold headM;(repeat' split)<;>omega
theorem tailM_le (m:Nat):tailM m≤2:=by unfold tailM;(repeat' split)<;>omega
def insT (p:Prt):Nat:=if p.to≤p.frm+headM p.mode then p.frm+headM p.mode else if p.op=true then p.to else if p.frm+headM p.mode≤p.to - tailM p.mode then p.to - tailM p.mode else p.frm+headM p.mode
section
variable (w:World)
set_option maxHeartbeats 2000000 in
theorem edges_any (m hd tl:Nat) (hh:Hid (hd=headM m)) (ht:Hid (tl=tailM m)):Calls Tryz.prog 258 #[.int .i64 (m:Int)] w fun e w'=>e=.returned (.tuple #[.int .i64 (hd:Int),.int .i64 (tl:Int)])∧w'=w:=by
 have h1:=hh.out
 have h2:=ht.out
 unfold headM at h1
 unfold tailM at h2
 by_cases e1:m=1
 ·subst e1
  simp at h1 h2
  subst h1 h2
  go_enter Tryz.func258,Tryz.ntmps258
  go_wp2
  go_ret2
  exact⟨rfl,rfl⟩
 by_cases e7:m=7
 ·subst e7
  simp at h1 h2
  subst h1 h2
  go_enter Tryz.func258,Tryz.ntmps258
  go_wp2
  go_ret2
  exact⟨rfl,rfl⟩
 by_cases e8:m=8
 ·subst e8
  simp at h1 h2
  subst h1 h2
  go_enter Tryz.func258,Tryz.ntmps258
  go_wp2
  go_ret2
  exact⟨rfl,rfl⟩
 by_cases e9:m=9
 ·subst e9
  simp at h1 h2
  subst h1 h2
  go_enter Tryz.func258,Tryz.ntmps258
  go_wp2
  go_ret2
  exact⟨rfl,rfl⟩
 by_cases e13:m=13
 ·subst e13
  simp at h1 h2
  subst h1 h2
  go_enter Tryz.func258,Tryz.ntmps258
  go_wp2
  go_ret2
  exact⟨rfl,rfl⟩
 by_cases e12:m=12
 ·subst e12
  simp at h1 h2
  subst h1 h2
  go_enter Tryz.func258,Tryz.ntmps258
  go_wp2
  go_ret2
  exact⟨rfl,rfl⟩
 rw [if_neg (by omega),if_neg e9]at h1
 rw [if_neg (by omega),if_neg e9,if_neg (by omega)]at h2
 subst h1 h2
 have t1:((m:Int)==1)=false:=beq_eq_false_iff_ne.2 (by omega)
 have t7:((m:Int)==7)=false:=beq_eq_false_iff_ne.2 (by omega)
 have t8:((m:Int)==8)=false:=beq_eq_false_iff_ne.2 (by omega)
 have t9:((m:Int)==9)=false:=beq_eq_false_iff_ne.2 (by omega)
 have t13:((m:Int)==13)=false:=beq_eq_false_iff_ne.2 (by omega)
 have t12:((m:Int)==12)=false:=beq_eq_false_iff_ne.2 (by omega)
 go_enter Tryz.func258,Tryz.ntmps258
 go_wp2
 go_ret2
 exact⟨rfl,rfl⟩
set_option maxHeartbeats 4000000 in
theorem inside_any (m f t:Nat) (up:Int) (op:Bool) (hf:f≤1000000) (ht:t≤1000000):
  Calls Tryz.prog 249 #[.agg #[.int .i64 (m:Int),.int .i64 (f:Int),.int .i64 (t:Int),.int .i64 up,.bool op]] w fun e w'=>e=.returned (.tuple #[.int .i64 ((f+headM m:Nat):Int),.int .i64 ((insT ⟨m,f,t,up,op⟩:Nat):Int)])∧Below w.heap.size w w':=by
 have h3:=headM_le m
 have h2:=tailM_le m
 obtain⟨T,hT⟩:∃T,insT ⟨m,f,t,up,op⟩=T:=⟨_,rfl⟩
 rw [hT]
 unfold insT at hT
 simp only at hT
 have hed:=fun W=>edges_any W m (headM m) (tailM m) (Lib.hid rfl) (Lib.hid rfl)
 generalize headM m=hd at*
 generalize tailM m=tl at*
 obtain⟨F,hF⟩:∃F,f+hd=F:=⟨_,rfl⟩
 rw [hF]at hT ⊢
 have e1:IntKind.i64.wrap ((f:Int)+(hd:Int))=(F:Int):=by rw [IntWalk.i64_in _ (by omega)];omega
 have e2:IntKind.i64.wrap ((t:Int) - (tl:Int))=(t:Int) - (tl:Int):=by rw [IntWalk.i64_in _ (by omega)]
 have HED:=Lib.hid hed
 have HT:=Lib.hid hT
 have HFF:=Lib.hid hF
 have hbel:∀W:World,Below w.heap.size w W→∀q,Below w.heap.size w (W.drewN q):=fun W h q=>below_drewN h q
 clear hed hT hF h3
 by_cases hle:t≤F
 ·have t1:(t:Int)≤(F:Int):=by omega
  have t1b:decide (t≤F)=true:=by simpa using hle
  have e:T=F:=by rw [←HT.out,if_pos hle]
  subst e
  go_enter Tryz.func249,Tryz.ntmps249
  go_wp2_with fail
  refine(HED.out _).mono ?_
  rintro e w1 ⟨rfl,rfl⟩
  go_wp2
  go_ret2
  exact⟨rfl,(Below.refl _ _).alloc (Nat.le_refl _) _⟩
 ·have t1:¬(t:Int)≤(F:Int):=by omega
  have t1b:decide (t≤F)=false:=by simpa using hle
  cases op with
  |true=>
   have e:t=T:=by rw [←HT.out,if_neg hle,if_pos rfl]
   subst e
   go_enter Tryz.func249,Tryz.ntmps249
   go_wp2_with fail
   refine(HED.out _).mono ?_
   rintro e w1 ⟨rfl,rfl⟩
   go_wp2
   go_quiet (fail)
   go_wp2
   go_ret2
   exact⟨rfl,below_drewN ((Below.refl _ _).alloc (Nat.le_refl _) _) _⟩
  |false=>
   have e:T=if F≤t - tl then t - tl else F:=by rw [←HT.out,if_neg hle,if_neg (by simp)]
   have HE:=Lib.hid e
   clear e HT
   go_enter Tryz.func249,Tryz.ntmps249
   go_wp2_with fail
   refine(HED.out _).mono ?_
   rintro e w1 ⟨rfl,rfl⟩
   go_wp2
   go_quiet (fail)
   go_wp2
   all_goals
    go_ret2
    refine⟨?_,below_drewN ((Below.refl _ _).alloc (Nat.le_refl _) _) _⟩
    first
     |(have e3:(T:Int)=(t:Int) - (tl:Int):=(by have:=HE.out;split at this<;>omega)
       rw [e3]
       rfl)
     |(have e3:(T:Int)=(F:Int):=(by have:=HE.out;split at this<;>omega)
       rw [e3]
       rfl)
end
end Go.Proofs.YtkolpaonccmgiaaGreatDoor

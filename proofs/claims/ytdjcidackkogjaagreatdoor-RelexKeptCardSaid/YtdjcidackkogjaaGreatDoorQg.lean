/- The plain facts on how the parts of a text lie to  -/
import Derived.Test.YtdjcidackkogjaaGreatDoorPtK
namespace Go.Proofs.YtdjcidackkogjaaGreatDoor
set_option linter.unusedSectionVars false
set_option linter.unusedVariables false
open Go.RowKit
def Ky(b:Nat):Prop:=cls b=5∨cls b=6∨XT b=true
theorem aB{b:Nat}(h:Ky b):b≠92∧b≠39∧b≠34∧b≠96∧b≠40∧b≠41∧b≠125∧b≠123∧b≠10∧uG b=false:=by
 refine⟨?_,?_,?_,?_,?_,?_,?_,?_,?_,?_⟩
 all_goals first
  |(rintro rfl;revert h;unfold Ky;decide)
  |skip
 unfold uG;rw[decide_eq_false_iff_not];intro g;rcases h with h|h|h
 ·omega
 ·omega
 ·unfold XT at h
  rw[decide_eq_true_iff]at h;rcases h with rfl|rfl|rfl|rfl|rfl|rfl|rfl<;>revert g<;>decide
theorem zhr{m b:Nat}(hm:base m=true)(h:Ky b)(zO:b≠36):mv m b false=(.keep,false):=by
 obtain⟨h1,h2,h3,h4,h5,h6,h7,h8,h9,h10⟩:=aB h;have hm':m≠3∧m≠4∧m≠11∧m≠12∧m≠13∧m≠14∧m≤14:=by unfold base at hm;simpa using hm
 have ho:opn b=15:=by unfold opn;rw[if_neg h1,if_neg zO,if_neg h4]
 unfold mv;by_cases hP:xI m=true
 ·rw[if_pos hP,if_neg h1,if_neg h2,if_neg h3,if_neg (by omega),if_neg (by simp),if_neg h5,if_neg h6,h10]
 ·rw[if_neg hP,if_neg hm'.2.2.2.2.1,if_neg hm'.2.1,if_neg hm'.2.2.2.2.2.1]
  by_cases e6:m=6
  ·rw[if_pos e6,if_neg h4,if_neg h1]
  rw[if_neg e6,if_neg (by simp[ho])];by_cases e9:m=9∨m=10
  ·rw[if_pos e9,if_neg h5,if_neg (λh=>h6 h.1),if_neg h6]
  rw[if_neg e9];by_cases e5:m=5
  ·rw[if_pos e5,if_neg h3]
  rw[if_neg e5,if_neg h3,if_neg h7,if_neg (λh=>h2 h.1)]
theorem aC{m f:Nat}{r:List Fr}{b p:Nat}(hm:base m=true)(h:Ky b)(zO:b≠36):zu ((m,f)::r) false b p=⟨(m,f)::r,false⟩:=by
 show(⟨(mv m b false).1.run ((m,f)::r) p,(mv m b false).2⟩:Ms)=_;rw[zhr hm h zO];rfl
theorem zhs{f:Nat}{r:List Fr}{b p:Nat}(hg:good ((12,f)::r))(h:Ky b):yE ⟨(12,f)::r,false⟩ b p=⟨r,false⟩:=by
 obtain⟨h1,h2,h3,h4,h5,h6,h7,h8,h9,h10⟩:=aB h;obtain⟨m2,f2,r2,rfl,ho,hg2⟩:=ZV hg (by decide);unfold yE;simp only[if_true];rw[if_neg h5,if_neg h8];by_cases zO:b=36
 ·rw[if_pos zO]
 ·rw[if_neg zO,aC (Y8 ho) h zO]
theorem zht{m f:Nat}{r:List Fr}{b p:Nat}(hm:base m=true)(h:Ky b)(zO:b≠36):yE ⟨(m,f)::r,false⟩ b p=⟨(m,f)::r,false⟩:=by
 have hm':m≠3∧m≠4∧m≠11∧m≠12∧m≠13∧m≠14∧m≤14:=by unfold base at hm;simpa using hm
 rw[mP hm'.1 hm'.2.2.1 hm'.2.2.2.1,aC hm h zO]
theorem zhu{s:ByteArray}{k i:Nat}(h:i<xX s k):Ky (by8 s (k+i))∧(0<i→by8 s (k+i)≠36):=by
 unfold xX at h;split at h
 ·rename_i hn
  have:=Yz (λi=>qG (cl s (k+i)) i) (z:=s.size-k) (i:=i) h;have h5:cl s (k+i)=5∨(cl s (k+i)=6∧0<i):=by unfold qG at this;simpa using this
  have e:cl s (k+i)=cls (by8 s (k+i)):=rfl;rw[e]at h5;refine⟨?_,λ_ zO=>?_⟩
  ·rcases h5 with h5|h5
   ·exact .inl h5
   ·exact .inr (.inl h5.1)
  ·rw[zO]at h5
   revert h5;have:cls 36=4:=by decide
   omega
 ·split at h
  ·rename_i hx
   obtain rfl:i=0:=by omega
   refine⟨?_,λh=>by omega⟩;rw[Nat.add_zero];rcases hx.2 with h6|h6
   ·exact .inr (.inl h6)
   ·exact .inr (.inr h6)
  ·omega
theorem zhv{s:ByteArray}{k f:Nat}{A R:List Fr}(h:nt s k=A++(12,f)::R):A=[]:=by
 cases hA:A.reverse with
 |nil=>simpa using hA
 |cons a A2=>
  exfalso;have e:A=A2.reverse++ [a]:=by
   have:=congrArg List.reverse hA;simpa using this
  have hg:=(ku s k).good;rw[jy,h,e]at hg;have hd:∀(B:List Fr) (C:List Fr),good (B++a::(12,f)::C)→False:=by
   intro B
   induction B with
   |nil=>
    intro C h;have:=Y8 (JQ (m:=a.1) (f:=a.2) h).1;simp[base]at this
   |cons b B ih=>
    intro C h;refine ih C ?_
    cases hB:B++a::(12,f)::C with
    |nil=>simp at hB
    |cons c D=>
     rw[List.cons_append,hB]at h;exact(JQ (m:=b.1) (f:=b.2) (m2:=c.1) (f2:=c.2) h).2
  refine hd A2.reverse (R++ [(0,0)]) ?_;simpa using hg
theorem zhw{s:ByteArray}{k f:Nat}(h:zI s (k+1) f=true)(hf:f<k)(hm:md s k f=12):md s (k+1) f≠12:=by
 obtain⟨A,R,hA⟩:=GH (QL h hf);rw[hm]at hA;obtain rfl:=zhv hA;rw[List.nil_append]at hA;have hI:=ku s k;have hst:(zL s k).st=(12,f)::(R++ [(0,0)]):=by rw[jy,hA];rfl
 have Xy:∀x∈R,x.2≠f:=by
  have:=Zr s k;rw[hA,List.pairwise_cons]at this;intro x hx e;have:=this.1 x hx;simp at this;omega
 obtain⟨st,fr⟩:∃x,x=zL s k:=⟨_,rfl⟩;have hN:=jy s (k+1);have hsu:=Y7 s k;obtain⟨m',hm'⟩:=jR.1 h;have key:∀b,(yE (zL s k) b k).st=nt s (k+1)++ [(0,0)]→md s (k+1) f≠12:=by
  intro b hb;have hx:zL s k=⟨(12,f)::(R++ [(0,0)]),(zL s k).fresh⟩:=by
   cases hq:zL s k with
   |mk a c=>rw[hq]at hst;simp at hst;rw[hst]
  rw[hx]at hb;unfold yE at hb;simp only[if_true]at hb;have not:∀D:List Fr,D=R→(nt s (k+1)=D∨(∃n,nt s (k+1)=(n,k)::D))→False:=by
   intro D hD hh;subst hD;rcases hh with hh|⟨n,hh⟩
   ·rw[hh]at hm'
    exact Xy _ hm' rfl
   ·rw[hh]at hm'
    rcases List.mem_cons.1 hm' with e|e
    ·simp at e;omega
    ·exact Xy _ e rfl
  split at hb
  ·have e:nt s (k+1)=(3,f)::R:=by
    have:(3,f)::(R++ [(0,0)])=nt s (k+1)++ [(0,0)]:=hb;rw[←List.cons_append]at this;exact(List.append_cancel_right this).symm
   rw[Zq (A:=[]) e];decide
  split at hb
  ·have e:nt s (k+1)=(qh (top (R++ [(0,0)])),f)::R:=by
    have:(qh (top (R++ [(0,0)])),f)::(R++ [(0,0)])=nt s (k+1)++ [(0,0)]:=hb;rw[←List.cons_append]at this;exact(List.append_cancel_right this).symm
   rw[Zq (A:=[]) e];unfold qh;split<;>decide
  split at hb
  ·exact absurd (.inl (List.append_cancel_right (show R++ [(0,0)]=nt s (k+1)++ [(0,0)]from hb)).symm) (λh=>not R rfl h)
  ·
   exfalso;have hgd:=hI.good;rw[hst]at hgd;obtain⟨m2,f2,r2,hr2,ho,hg2⟩:=ZV hgd (by decide);rw[hr2]at hb;have hmem:∀x∈nt s (k+1)++ [(0,0)],x.2=f→x∈nt s (k+1)→False:=by
    intro x hx J5 aF;rw[←hb]at hx;have hsub:∀y∈((m2,f2)::r2),y.2=f→y∈R∨y=(0,0):=by
     intro y hy _;rw[←hr2]at hy;rcases List.mem_append.1 hy with hy|hy
     ·exact .inl hy
     ·exact .inr (by simpa using hy)
    have h00:(0,0)∈nt s (k+1)→False:=by
     intro h0;have hgg:=(ku s (k+1)).good;obtain⟨A2,B2,hAB⟩:=List.append_of_mem h0;rw[jy,hAB]at hgg;have hz:∀(C:List Fr),good (C++(0,0)::(B2++ [(0,0)]))→False:=by
      intro C
      induction C with
      |nil=>
       intro h;have:=Fe h;simp at this
      |cons c C ih=>
       intro h;refine ih ?_
       cases hC:C++(0,0)::(B2++ [(0,0)])with
       |nil=>simp at hC
       |cons d D=>
        rw[List.cons_append,hC]at h;exact(JQ (m:=c.1) (f:=c.2) (m2:=d.1) (f2:=d.2) h).2
     refine hz A2 ?_;simpa using hgg
    have fin:x∈((m2,f2)::r2)→False:=by
     intro hx2;rcases hsub x hx2 J5 with h1|h1
     ·exact Xy x h1 J5
     ·rw[h1]at aF
      exact h00 aF
    rcases TR m2 f2 r2 (zL s k).fresh b k with e|⟨n,e,_⟩|⟨_,e⟩|⟨e9,e⟩
    ·rw[e]at hx;exact fin hx
    ·rw[e]at hx
     rcases List.mem_cons.1 hx with h1|h1
     ·rw[h1]at J5
      simp at J5;omega
     ·exact fin h1
    ·rw[e]at hx;exact fin (List.mem_cons_of_mem _ hx)
    ·rw[e]at hx
     rcases List.mem_cons.1 hx with h1|h1
     ·
      have:f2=f:=by rw[h1]at J5;exact J5
      have hin:(m2,f2)∈R∨(m2,f2)=(0,0):=hsub (m2,f2) (by simp) this;rcases hin with h2|h2
      ·exact Xy _ h2 this
      ·simp at h2;omega
     ·exact fin (List.mem_cons_of_mem _ h1)
   exact hmem (m',f) (List.mem_append_left _ hm') rfl hm'
 have:=key (by8 s k) (by rw[←hsu];exact hN);exact this
theorem zhx{s:ByteArray}{k f:Nat}(h:zI s (k+1) f=true)(hf:f<k)(hm:md s (k+1) f=12):md s k f=12:=by
 obtain⟨j,T,hj,hS,hN0⟩:=MH s k;have hN:=ru hN0;obtain⟨A,R,hA⟩:=GH (QL h hf);obtain⟨A2,hA2⟩:=au (Zr s k) hA ((J6 hS hN hf).1 h);have hT:∃A3,T=A3++(12,f)::R:=by
  have hTe:∃A3 n,T=A3++(n,f)::R:=by
   rcases hS with rfl|⟨m1,n1,f1,r1,hD,rfl,_⟩
   ·exact⟨A2,_,hA2⟩
   ·rw[hD]at hA2
    cases A2 with
    |nil=>simp at hA2;obtain⟨⟨rfl,rfl⟩,rfl⟩:=hA2;exact⟨[],n1,rfl⟩
    |cons a A2=>simp at hA2;obtain⟨rfl,rfl⟩:=hA2;exact⟨(n1,f1)::A2,_,rfl⟩
  obtain⟨A3,n,hT⟩:=hTe;have hn:md s (k+1) f=n:=by
   rcases hN with h|⟨n2,h⟩
   ·exact Zq (by rw[h];exact hT)
   ·exact Zq (A:=(n2,k)::A3) (by rw[h,hT];rfl)
  exact⟨A3,by rw[hT,←hn,hm]⟩
 obtain⟨A3,hT⟩:=hT;rcases hS with rfl|⟨m1,n1,f1,r1,hD,rfl,ht⟩
 ·rw[hA2]at hT
  have h1:=Zq hA;have hp:=Zr s k;have hp2:(A2++(md s k f,f)::R).Pairwise (λa b=>b.2<a.2):=by rw[←hA2];exact hp.sublist (List.drop_sublist _ _)
  have e1:=wJ hp2 rfl;have e2:=wJ hp2 hT;rw[e1]at e2;simpa using e2
 ·rw[hD]at hA2
  cases A2 with
  |nil=>
   simp at hA2;obtain⟨⟨hm1,rfl⟩,rfl⟩:=hA2
   cases A3 with
   |nil=>
    simp at hT;subst hT;unfold qZ at ht;omega
   |cons a A3=>
    simp at hT;have:=congrArg List.length hT.2;simp at this;omega
  |cons a A2=>
   simp at hA2;obtain⟨rfl,rfl⟩:=hA2
   cases A3 with
   |nil=>
    simp at hT;have:=congrArg List.length hT.2;simp at this;omega
   |cons b A3=>
    simp at hT;have hp:=Zr s k;have hp2:(A2++(md s k f,f)::R).Pairwise (λa b=>b.2<a.2):=by
     have h3:=hp.sublist (List.drop_sublist j (nt s k));rw[hD]at h3;exact(List.pairwise_cons.1 h3).2
    have e1:=wJ hp2 rfl;have e2:=wJ hp2 hT.2;rw[e1]at e2;simpa using e2
theorem zhy{s:ByteArray}{k f:Nat}(h:zI s k f=true)(hm:md s k f=12):k=f+1:=by
 have hlt:=jv h;apply Classical.byContradiction;intro g;obtain⟨j,rfl⟩:∃j,k=j+1:=⟨k-1,by omega⟩;have h1:=zhx h (by omega) hm;exact zhw h (by omega) h1 hm
theorem zhz{s:ByteArray}{f:Nat}(hb:born s f=true)(hm:md s (f+1) f=12):∀i,1≤i→i≤xX s (f+1)→zL s (f+1+i)=⟨xg s f++ [(0,0)],false⟩:=by
 have h1:=Y5 hb;rw[hm]at h1;have hI:=ku s (f+1);have hst:(zL s (f+1)).st=(12,f)::(xg s f++ [(0,0)]):=by rw[jy,h1];rfl
 have hfr:(zL s (f+1)).fresh=false:=by
  rw[Bool.eq_false_iff];intro e;have:=hI.fr.2 e;rw[hst]at this;rcases this with h|h|h|h
  ·simp[xI,top]at h
  ·simp[top]at h
  ·simp[top]at h
  ·simp[top]at h
 have hx:zL s (f+1)=⟨(12,f)::(xg s f++ [(0,0)]),false⟩:=by
  cases hq:zL s (f+1)with
  |mk a c=>rw[hq]at hst hfr;simp at hst hfr;rw[hst,hfr]
 have hg:=hI.good;rw[hst]at hg;obtain⟨m2,f2,r2,hr2,ho,hg2⟩:=ZV hg (by decide);intro i
 induction i with
 |zero=>intro h;omega
 |succ i ih=>
  intro _ hi;rw[show f+1+(i+1)=f+1+i+1 by omega,Y7];obtain⟨hp,hne⟩:=zhu (s:=s) (k:=f+1) (i:=i) (by omega);by_cases h0:i=0
  ·subst h0
   rw[Nat.add_zero]at hp ⊢;rw[hx];exact zhs hg hp
  ·rw[ih (by omega) (by omega),hr2]
   exact zht (Y8 ho) hp (hne (by omega))
theorem Fh{s:ByteArray}{f i:Nat}(hb:born s f=true)(hm:md s (f+1) f=12)(h1:1≤i)(h2:i≤xX s (f+1)):nt s (f+1+i)=xg s f:=by
 have:=jy s (f+1+i);rw[zhz hb hm i h1 h2]at this;exact(List.append_cancel_right this).symm
theorem TZ{s:ByteArray}{g:Nat}(hb:born s g=true)(hg:g<s.size)(h:cnt (md s (eK s g s.size) g)=12):eK s g s.size=g+1∧md s (g+1) g=12:=by
 have h12:=zho.1 h;have he:=lZ hb hg;have hp:=JP (s:=s) (f:=g) (k:=s.size) (j:=eK s g s.size) (by omega) (Nat.le_refl _);have e:=zhy hp h12;rw[e]at h12;exact⟨e,h12⟩
theorem aG{s:ByteArray}{g k:Nat}(hk:k≤s.size)(h:zI s k g=true):k≤eK s g s.size:=by
 apply Classical.byContradiction;intro gg;have hlt:=jv h;have h1:=l7 (s:=s) (f:=g) (k:=s.size) (by omega) (by omega);have h0:g≤eK s g s.size:=by unfold eK;omega
 have:=(VS h).2 (eK s g s.size+1) (by omega) (by omega);rw[this]at h1;cases h1
theorem zdd{s:ByteArray}{g f:Nat}(hbg:born s g=true)(hbf:born s f=true)(hgf:g<f)(hf:f<s.size)(h:zI s (f+1) g=true):(prt s f).to≤(prt s g).to:=by
 have hg1:=aG (s:=s) (by omega) h;have hgl:=Gz s (f:=g) (k:=s.size) (by omega);have Vs:¬cnt (md s (eK s g s.size) g)=12:=by
  intro h12;have:=(TZ hbg (by omega) h12).1;omega
 have hgb:∃m,(m,g)∈xg s f:=by
  obtain⟨m,hm⟩:=jR.1 h;rw[Y5 hbf]at hm;rcases List.mem_cons.1 hm with e|e
  ·simp at e;omega
  ·exact⟨m,e⟩
 have aH:∀k,k≤s.size→zI s k f=true∨(∃R,nt s k=R++xg s f)→k≤eK s g s.size:=by
  intro k hk hh;refine aG hk (jR.2 ?_);obtain⟨m,hm⟩:=hgb;rcases hh with hh|⟨R,hh⟩
  ·obtain⟨⟨A,hA⟩,_⟩:=VS hh
   exact⟨m,by rw[hA];simp[hm]⟩
  ·exact⟨m,by rw[hh];simp[hm]⟩
 rw[Y6 hbg (by omega),if_neg Vs,Y6 hbf hf];show _≤(if eK s g s.size=s.size then s.size else eK s g s.size+1);have hfl:=Gz s (f:=f) (k:=s.size) (by omega);have hf1:=lZ hbf hf;by_cases h12:cnt (md s (eK s f s.size) f)=12
 ·obtain⟨he,hm⟩:=TZ hbf hf h12
  rw[if_pos h12];show f+1+xX s (f+1)≤_;have hle:=MC s (f+1) (by omega);have:f+1+xX s (f+1)≤eK s g s.size:=by
   by_cases h0:xX s (f+1)=0
   ·rw[h0,Nat.add_zero];exact hg1
   ·exact aH _ hle (.inr ⟨[],by rw[List.nil_append];exact Fh hbf hm (by omega) (Nat.le_refl _)⟩)
  split<;>omega
 ·rw[if_neg h12]
  show(if eK s f s.size=s.size then s.size else eK s f s.size+1)≤_;have hp:=JP (s:=s) (f:=f) (k:=s.size) (j:=eK s f s.size) (by omega) (Nat.le_refl _);have:=aH _ hfl (.inl hp);split<;>split<;>omega
theorem uV{s:ByteArray}{f:Nat}(hb:born s f=true)(hf:f<s.size):f<(prt s f).to:=by
 have he:=lZ hb hf;rw[Y6 hb hf];split
 ·show f<f+1+_;omega
 ·show f<(if eK s f s.size=s.size then s.size else eK s f s.size+1)
  split<;>omega
open Lib(hid)
set_option maxHeartbeats 8000000
def qJ(m:Nat):Nat:=if m=1∨m=7∨m=8 then 2 else if m=9 then 3 else 1
def YG(m:Nat):Nat:=if m=1∨m=7∨m=8 then 1 else if m=9 then 2 else if m=13∨m=12 then 0 else 1
theorem zgS(m:Nat):qJ m≤3:=by unfold qJ;(repeat' split)<;>omega
theorem zgT(m:Nat):YG m≤2:=by unfold YG;(repeat' split)<;>omega
def yG(p:zJ):Nat:=if p.to≤p.zf+qJ p.mode then p.zf+qJ p.mode else if p.op=true then p.to else if p.zf+qJ p.mode≤p.to-YG p.mode then p.to-YG p.mode else p.zf+qJ p.mode
section
variable(w:World)
theorem zgU(m hd tl:Nat)(hh:Hid (hd=qJ m))(ht:Hid (tl=YG m)):Calls Tryz.prog 184 #[.int .i64 (m:Int)] w λe w'=>e=.returned (.tuple #[.int .i64 (hd:Int),.int .i64 (tl:Int)])∧w'=w:=by
 have h1:=hh.out;have h2:=ht.out;unfold qJ at h1;unfold YG at h2;by_cases e1:m=1
 ·subst e1
  simp at h1 h2;subst h1 h2;go_enter Tryz.func184,Tryz.ntmps184;go_wp2;go_ret2;exact⟨rfl,rfl⟩
 by_cases e7:m=7
 ·subst e7
  simp at h1 h2;subst h1 h2;go_enter Tryz.func184,Tryz.ntmps184;go_wp2;go_ret2;exact⟨rfl,rfl⟩
 by_cases e8:m=8
 ·subst e8
  simp at h1 h2;subst h1 h2;go_enter Tryz.func184,Tryz.ntmps184;go_wp2;go_ret2;exact⟨rfl,rfl⟩
 by_cases e9:m=9
 ·subst e9
  simp at h1 h2;subst h1 h2;go_enter Tryz.func184,Tryz.ntmps184;go_wp2;go_ret2;exact⟨rfl,rfl⟩
 by_cases e13:m=13
 ·subst e13
  simp at h1 h2;subst h1 h2;go_enter Tryz.func184,Tryz.ntmps184;go_wp2;go_ret2;exact⟨rfl,rfl⟩
 by_cases e12:m=12
 ·subst e12
  simp at h1 h2;subst h1 h2;go_enter Tryz.func184,Tryz.ntmps184;go_wp2;go_ret2;exact⟨rfl,rfl⟩
 rw[if_neg (by omega),if_neg e9]at h1;rw[if_neg (by omega),if_neg e9,if_neg (by omega)]at h2;subst h1 h2;have t1:((m:Int)==1)=false:=beq_eq_false_iff_ne.2 (by omega);have t7:((m:Int)==7)=false:=beq_eq_false_iff_ne.2 (by omega);have t8:((m:Int)==8)=false:=beq_eq_false_iff_ne.2 (by omega);have t9:((m:Int)==9)=false:=beq_eq_false_iff_ne.2 (by omega);have t13:((m:Int)==13)=false:=beq_eq_false_iff_ne.2 (by omega);have t12:((m:Int)==12)=false:=beq_eq_false_iff_ne.2 (by omega);go_enter Tryz.func184,Tryz.ntmps184;go_wp2;go_ret2;exact⟨rfl,rfl⟩
theorem TL(m f t:Nat)(up:Int)(op:Bool)(hf:f≤1000000)(ht:t≤1000000):
  Calls Tryz.prog 174 #[.agg #[.int .i64 (m:Int),.int .i64 (f:Int),.int .i64 (t:Int),.int .i64 up,.bool op]] w λe w'=>e=.returned (.tuple #[.int .i64 ((f+qJ m:Nat):Int),.int .i64 ((yG ⟨m,f,t,up,op⟩:Nat):Int)])∧Below w.heap.size w w':=by
 have h3:=zgS m;have h2:=zgT m;obtain⟨T,hT⟩:∃T,yG ⟨m,f,t,up,op⟩=T:=⟨_,rfl⟩;rw[hT];unfold yG at hT;simp only at hT;have II:=λW=>zgU W m (qJ m) (YG m) (hid rfl) (hid rfl);generalize qJ m=hd at*;generalize YG m=tl at*;obtain⟨F,hF⟩:∃F,f+hd=F:=⟨_,rfl⟩;rw[hF]at hT ⊢;have e1:IntKind.i64.wrap ((f:Int)+(hd:Int))=(F:Int):=by rw[IntWalk.i64_in _ (by omega)];omega
 have e2:IntKind.i64.wrap ((t:Int)-(tl:Int))=(t:Int)-(tl:Int):=by rw[IntWalk.i64_in _ (by omega)]
 have PS:=hid II;have HT:=hid hT;have Xr:=hid hF;have hbel:∀W:World,Below w.heap.size w W→∀q,Below w.heap.size w (W.drewN q):=λW h q=>below_drewN h q;clear II hT hF h3;by_cases hle:t≤F
 ·have t1:(t:Int)≤(F:Int):=by omega
  have t1b:decide (t≤F)=true:=by simpa using hle
  have e:T=F:=by rw[←HT.out,if_pos hle]
  subst e;go_enter Tryz.func174,Tryz.ntmps174
  go_wp2_with fail
  refine(PS.out _).mono ?_;rintro e w1 ⟨rfl,rfl⟩;go_wp2;go_ret2;exact⟨rfl,(Below.refl _ _).alloc (Nat.le_refl _) _⟩
 ·have t1:¬(t:Int)≤(F:Int):=by omega
  have t1b:decide (t≤F)=false:=by simpa using hle
  cases op with
  |true=>
   have e:t=T:=by rw[←HT.out,if_neg hle,if_pos rfl]
   subst e;go_enter Tryz.func174,Tryz.ntmps174
   go_wp2_with fail
   refine(PS.out _).mono ?_;rintro e w1 ⟨rfl,rfl⟩;go_wp2
   go_quiet (fail)
   go_wp2;go_ret2;exact⟨rfl,below_drewN ((Below.refl _ _).alloc (Nat.le_refl _) _) _⟩
  |false=>
   have e:T=if F≤t-tl then t-tl else F:=by rw[←HT.out,if_neg hle,if_neg (by simp)]
   have HE:=hid e;clear e HT;go_enter Tryz.func174,Tryz.ntmps174
   go_wp2_with fail
   refine(PS.out _).mono ?_;rintro e w1 ⟨rfl,rfl⟩;go_wp2
   go_quiet (fail)
   go_wp2
   all_goals
    go_ret2;refine⟨?_,below_drewN ((Below.refl _ _).alloc (Nat.le_refl _) _) _⟩
    first
     |(have e3:(T:Int)=(t:Int)-(tl:Int):=(by have:=HE.out;split at this<;>omega)
       rw[e3];rfl)
     |(have e3:(T:Int)=(F:Int):=(by have:=HE.out;split at this<;>omega)
       rw[e3];rfl)
end
end Go.Proofs.YtdjcidackkogjaaGreatDoor

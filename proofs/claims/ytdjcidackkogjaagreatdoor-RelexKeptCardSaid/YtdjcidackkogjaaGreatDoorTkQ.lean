/- Tokens, plainly: where blanks, lines, numbers, wor -/
import Derived.Test.YtdjcidackkogjaaGreatDoorTkE
namespace Go.Proofs.YtdjcidackkogjaaGreatDoor
set_option linter.unusedSectionVars false
set_option linter.unusedVariables false
open Go.RowKit
theorem tK{s:ByteArray}{a c:Nat}:0<zC s a c↔a<s.size∧cl s a=c:=by
 unfold zC;constructor
 ·intro h
  have hle:=Yf (λi=>decide (cl s (a+i)=c)) (s.size-a);have:=Yz (λi=>decide (cl s (a+i)=c)) (z:=s.size-a) (i:=0) h;exact⟨by omega,by simpa using this⟩
 ·rintro⟨h1,h2⟩
  rcases Nat.eq_zero_or_pos (xB (λi=>decide (cl s (a+i)=c)) (s.size-a))with h|h
  ·have:=YA (λi=>decide (cl s (a+i)=c)) (z:=s.size-a) (by omega)
   rw[h]at this;simp[h2]at this
  ·exact h
theorem zlm{s:ByteArray}{a c:Nat}(h:0<zC s a c):zC s a c=zC s (a+1) c+1:=by
 obtain⟨h1,h2⟩:=tK.1 h;have hle:=JE s (a+1) c;have hin:∀i,i<zC s (a+1) c→cl s (a+1+i)=c:=λi hi=>by
  have:=Yz (λi=>decide (cl s (a+1+i)=c)) (z:=s.size-(a+1)) (i:=i) hi;simpa using this
 have hst:zC s (a+1) c<s.size-(a+1)→cl s (a+1+zC s (a+1) c)≠c:=λhi=>by
  have:=YA (λi=>decide (cl s (a+1+i)=c)) (z:=s.size-(a+1)) hi;have e:xB (λi=>decide (cl s (a+1+i)=c)) (s.size-(a+1))=zC s (a+1) c:=rfl;rw[e]at this;simpa using this
 generalize zC s (a+1) c=r at*;unfold zC;refine ZT _ (by omega) (λi hi=>?_) (λhi=>?_)
 ·rcases Nat.eq_zero_or_pos i with rfl|hp
  ·simpa using h2
  ·have:=hin (i-1) (by omega)
   rw[show a+1+(i-1)=a+i by omega]at this;simpa using this
 ·have:=hst (by omega)
  rw[show a+1+r=a+(r+1) by omega]at this;simpa using this
theorem zbh{s:ByteArray}{a c i:Nat}(h:i<zC s a c):cl s (a+i)=c:=by
 have:=Yz (λi=>decide (cl s (a+i)=c)) (z:=s.size-a) (i:=i) h;simpa using this
theorem zln{s:ByteArray}{a c:Nat}(h:a+zC s a c<s.size):cl s (a+zC s a c)≠c:=by
 have h':zC s a c<s.size-a:=by omega
 have:=YA (λi=>decide (cl s (a+i)=c)) (z:=s.size-a) h';have e:xB (λi=>decide (cl s (a+i)=c)) (s.size-a)=zC s a c:=rfl;rw[e]at this;simpa using this
def b1(s:ByteArray)(a:Nat):Nat:=if a<s.size∧cl s a=1 then 1 else if a+1<s.size∧by8 s a=92∧by8 s (a+1)=10 then 2 else 0
theorem tN{s:ByteArray}{a:Nat}:b1 s a=0↔zS s a=0:=by
 have h:=tK (s:=s) (a:=a) (c:=1);unfold b1 zS;by_cases g:a<s.size∧cl s a=1
 ·rw[if_pos g,if_pos (h.2 g)]
  have:=h.2 g;omega
 ·rw[if_neg g,if_neg (λe=>g (h.1 e))]
theorem zlo{s:ByteArray}{a:Nat}(ha:a≤s.size):a+b1 s a≤s.size:=by
 unfold b1;split
 ·omega
 ·split<;>omega
theorem WQ{s:ByteArray}{a:Nat}(h:b1 s a=0):vZ s a=a:=Qp (tN.1 h)
theorem CW{s:ByteArray}{a:Nat}(ha:a≤s.size)(h:b1 s a≠0):vZ s a=vZ s (a+b1 s a):=by
 have hb:zS s a≠0:=λe=>h (tN.2 e);have e:=gm ha hb;by_cases g:a<s.size∧cl s a=1
 ·have hp:=tK.2 g
  have hn:=zlm hp;have e1:b1 s a=1:=by unfold b1;rw[if_pos g]
  have e2:zS s a=zC s (a+1) 1+1:=by unfold zS;rw[if_pos hp,hn]
  rw[e,e1,e2];rcases Nat.eq_zero_or_pos (zC s (a+1) 1)with h0|h0
  ·rw[h0]
  ·have e3:zS s (a+1)=zC s (a+1) 1:=by unfold zS;rw[if_pos h0]
   rw[gm (a:=a+1) (by omega) (by omega),e3];congr 1;omega
 ·have e1:b1 s a=zS s a:=by
   unfold b1 zS;rw[if_neg g,if_neg (λe=>g (tK.1 e))]
  rw[e1];exact e
theorem CX{s:ByteArray}{a:Nat}(ha:a≤s.size)(h:xe s a<s.size):vC (xZ s a 0 (xe s a-a)) (by8 s (xe s a))=true:=by
 have hl:=gW ha;have hs:xB (λi=>!vC (xZ s a 0 i) (by8 s (a+i))) (s.size-a)<s.size-a:=by unfold xe at h;omega
 have:=YA (λi=>!vC (xZ s a 0 i) (by8 s (a+i))) (z:=s.size-a) hs;have e:xe s a-a=xB (λi=>!vC (xZ s a 0 i) (by8 s (a+i))) (s.size-a):=by unfold xe;omega
 have e2:xe s a=a+xB (λi=>!vC (xZ s a 0 i) (by8 s (a+i))) (s.size-a):=rfl;rw[e];rw[e2];simpa using this
theorem zbi{s:ByteArray}{a i:Nat}(h1:a≤i)(h2:i<xe s a):vC (xZ s a 0 (i-a)) (by8 s i)=false:=by
 have:=Yz (λi=>!vC (xZ s a 0 i) (by8 s (a+i))) (z:=s.size-a) (i:=i-a) (by unfold xe at h2;omega);rw[show a+(i-a)=i by omega]at this;simpa using this
structure Jj(s t:ByteArray)(n:Nat):Prop where
 a:n≤s.size
 b:n≤t.size
 e:∀i,i<n→by8 s i=by8 t i
section
variable{s t:ByteArray}{n:Nat}(h:Jj s t n)
include h
theorem Jj.symm:Jj t s n:=⟨h.b,h.a,λi hi=>(h.e i hi).symm⟩
theorem Jj.bt{i:Nat}(hi:i<n):bt s i=bt t i:=UInt8.toNat_inj.1 (h.e i hi)
theorem Jj.cl{i:Nat}(hi:i<n):cl s i=cl t i:=by unfold Go.Proofs.YtdjcidackkogjaaGreatDoor.cl;rw[h.bt hi]
theorem Jj.ext{a b:Nat}(hb:b≤n):s.extract a b=t.extract a b:=by
 have h1:=h.a;have h2:=h.b;refine LZ ?_ (λi hi=>?_)
 ·rw[ByteArray.size_extract,ByteArray.size_extract];omega
 ·rw[ByteArray.size_extract]at hi
  rw[ZU s a b i (by omega) (by omega),ZU t a b i (by omega) (by omega)];exact h.bt (by omega)
theorem zbj{a:Nat}(ha:a+1<n):b1 t a=b1 s a:=by
 have h1:=h.a;have h2:=h.b;unfold b1;rw[h.cl (i:=a) (by omega),h.e a (by omega),h.e (a+1) ha];have p1:a<s.size:=by omega
 have p2:a<t.size:=by omega
 have p3:a+1<s.size:=by omega
 have p4:a+1<t.size:=by omega
 simp only[p1,p2,p3,p4,true_and]
theorem zbk:∀(k a:Nat),n-a≤k→a+1<n→vZ s a+2≤n→vZ t a=vZ s a
 |0,a,hk,ha,_=>by omega
 |k+1,a,hk,ha,he=>by
  have h1:=h.a;have h2:=h.b;have hb:=zbj h ha;by_cases h0:b1 s a=0
  ·rw[WQ h0,WQ (by rw[hb];exact h0)]
  ·have e1:=CW (s:=s) (a:=a) (by omega) h0
   have e2:=CW (s:=t) (a:=a) (by omega) (by rw[hb];exact h0);have hle:=(WB (s:=s) (a:=a+b1 s a) (zlo (by omega))).1;rw[e1]at he;rw[e2,hb,zbk k (a+b1 s a) (by omega) (by omega) he,←e1]
theorem zbl{a:Nat}(ha:a≤n)(he:yO s a<n):yO t a=yO s a:=by
 have h1:=h.a;have h2:=h.b;have hle:=Jz (s:=s) (a:=a) (by omega);refine gV hle.1 (by omega) (λi g1 g2=>?_) (λ_=>?_)
 ·rw[←h.e i (by omega)];exact N7 g1 g2
 ·rw[←h.e _ he];exact dY (by omega)
theorem zlp{a:Nat}(ha:a+3≤n){d:ByteArray}(hd:d.size≤3):yX s a d↔yX t a d:=by
 have h1:=h.a;have h2:=h.b;unfold yX;rw[h.ext (a:=a) (b:=a+d.size) (by omega)];exact⟨λq=>⟨by omega,q.2⟩,λq=>⟨by omega,q.2⟩⟩
theorem zlq{a:Nat}(ha:a+3≤n):yC t a=yC s a:=by
 have:(λk=>decide (yX t a (txt k)))=λk=>decide (yX s a (txt k)):=funext λk=>decide_eq_decide.2 (zlp h ha (wo k)).symm;unfold yC;rw[this]
theorem zlr{a c:Nat}(ha:a+zC s a c<n):zC t a c=zC s a c:=by
 have h1:=h.a;have h2:=h.b
 conv=>lhs;unfold zC
 refine ZT _ (by omega) (λi hi=>?_) (λhi=>?_)
 ·have:=zbh hi
  rw[h.cl (by omega)]at this;simpa using this
 ·have:=zln (s:=s) (a:=a) (c:=c) (by omega)
  rw[h.cl ha]at this;simpa using this
theorem zls{a:Nat}(ha:a+zC s a 6<n):vP t a=vP s a:=by
 have h1:=h.a;have h2:=h.b;unfold vP;rw[zlr h ha,h.e _ ha];have p1:a+zC s a 6<s.size:=by omega
 have p2:a+zC s a 6<t.size:=by omega
 simp only[p1,p2,true_and]
theorem zlt{a:Nat}(ha:a≤n)(he:xe s a<n):xe t a=xe s a:=by
 have h1:=h.a;have h2:=h.b;have hl:=gW (s:=s) (a:=a) (by omega);have hk:∀i,a+i≤n→xZ t a 0 i=xZ s a 0 i:=λi hi=>pI (λj hj=>(h.e _ (by omega)).symm);refine(za0 ⟨hl.1,by omega,λi g1 g2=>?_,λ_=>?_⟩).symm
 ·rw[hk _ (by omega),←h.e i (by omega)]
  exact zbi g1 g2
 ·rw[hk _ (by omega),←h.e _ he]
  exact CX (by omega) (by omega)
theorem zlu{a:Nat}(ha:a<s.size)(he:xe s a+2≤n):a+zC s a 6<n:=by
 have h1:=h.a;have hl:=gW (s:=s) (a:=a) (by omega);rcases Nat.lt_or_ge (a+zC s a 6) n with g|g
 ·exact g
 ·exfalso
  have hc:=zbh (s:=s) (a:=a) (c:=6) (i:=xe s a-a) (by omega);rw[show a+(xe s a-a)=xe s a by omega]at hc;have hs:=CX (s:=s) (a:=a) (by omega) (by omega);unfold vC at hs;rw[Bool.and_eq_true]at hs;have hs1:=hs.1;unfold uG at hs1;have hs2:=of_decide_eq_true hs1;have:cls (by8 s (xe s a))=6:=hc;omega
theorem zlv{a:Nat}(ha:a<s.size)(he:yQ s a+2≤n):xW t a=xW s a∧yQ t a=yQ s a:=by
 have h1:=h.a;have h2:=h.b;have hok:=Di ha;have hb:zS t a=0↔zS s a=0:=by
  rw[←tN,←tN,zbj h (by omega)]
 have hop:=zlq h (a:=a) (by omega);have hby:=h.e a (by omega);have hm:a+3≤n:=by omega
 unfold xW yQ at*;clear hok;by_cases c1:zS s a=0
 ·have c1':=hb.2 c1
  have n1:¬zS s a≠0:=λe=>e c1;have n2:¬zS t a≠0:=λe=>e c1';simp only[if_neg n1]at he;simp only[if_neg n1,if_neg n2,←hby];by_cases c2:by8 s a=10
  ·simp only[if_pos c2]
   exact⟨trivial,trivial⟩
  ·simp only[if_neg c2]at he ⊢
   by_cases c3:by8 s a=35
   ·simp only[if_pos c3]at he ⊢
    exact⟨trivial,zbl h (by omega) (by omega)⟩
   ·simp only[if_neg c3]at he ⊢
    rw[hop];by_cases c4:yC s a≠0
    ·simp only[if_pos c4]
     exact⟨trivial,trivial⟩
    ·simp only[if_neg c4]at he ⊢
     have hnn:a+zC s a 6<n:=by
      by_cases c5:vP s a≠0
      ·simp only[if_pos c5]at he
       have:vP s a=zC s a 6:=by
        unfold vP at c5 ⊢;split
        ·rfl
        ·rename_i g;rw[if_neg g]at c5;exact absurd rfl c5
       omega
      ·simp only[if_neg c5]at he
       exact zlu h ha he
     rw[zls h hnn];by_cases c5:vP s a≠0
     ·simp only[if_pos c5]
      exact⟨trivial,trivial⟩
     ·simp only[if_neg c5]at he ⊢
      exact⟨trivial,zlt h (by omega) (by omega)⟩
 ·have c1':zS t a≠0:=λe=>c1 (hb.1 e)
  simp only[if_pos (show zS s a≠0 from c1)]at he;simp only[if_pos (show zS s a≠0 from c1),if_pos c1'];exact⟨trivial,zbk h n a (by omega) (by omega) he⟩
end
def WR(s:ByteArray)(d:Dl):Nat→Nat→Nat×Bool
 |0,a=>(s.size,false)
 |k+1,a=>if a<s.size then(if Z9 (s.extract a (zG s a)) d=true then(zG s a,true)else WR s d k (zG s a))else(s.size,false)
def dA(s:ByteArray)(d:Dl)(a:Nat):Nat×Bool:=WR s d (s.size-a) a
section
variable(s:ByteArray)(d:Dl)
theorem zbm:∀(k a j:Nat),s.size-a≤k→k≤j→WR s d j a=WR s d k a
 |0,a,0,_,_=>rfl
 |0,a,j+1,h,_=>by
  show(if a<s.size then _ else _)=_;rw[if_neg (by omega)];rfl
 |k+1,a,0,_,h=>by omega
 |k+1,a,j+1,h1,h2=>by
  unfold WR;by_cases h:a<s.size
  ·rw[if_pos h,if_pos h]
   have:=YV h;rw[zbm k (zG s a) j (by omega) (by omega)]
  ·rw[if_neg h,if_neg h]
theorem Gg{a:Nat}(h:a<s.size):dA s d a=if Z9 (s.extract a (zG s a)) d=true then(zG s a,true)else dA s d (zG s a):=by
 have hg:=YV h;unfold dA;obtain⟨k,hk⟩:∃k,s.size-a=k+1:=⟨s.size-a-1,by omega⟩;rw[hk]
 conv=>lhs;unfold WR
 rw[if_pos h,zbm s d _ (zG s a) k (Nat.le_refl _) (by omega)]
theorem WS{a:Nat}(h:¬a<s.size):dA s d a=(s.size,false):=by
 unfold dA;rw[show s.size-a=0 by omega];rfl
theorem tV:∀(k a:Nat),s.size-a≤k→a≤s.size→a≤(dA s d a).1∧(dA s d a).1≤s.size
 |0,a,hk,ha=>by rw[WS s d (by omega)];exact⟨ha,Nat.le_refl _⟩
 |k+1,a,hk,ha=>by
  by_cases h:a<s.size
  ·have hg:=YV h
   rw[Gg s d h];split
   ·exact⟨by show a≤zG s a;omega,by show zG s a≤_;omega⟩
   ·have:=tV k (zG s a) (by omega) (by omega)
    omega
  ·rw[WS s d h];exact⟨ha,Nat.le_refl _⟩
theorem zlw{a c:Nat}(hc:a+c≤s.size):yO (s.extract a s.size) c=yO s (a+c)-a:=by
 have hz:=vk (s:=s) (a:=a) (b:=s.size) (Nat.le_refl _);have hle:=Jz (s:=s) hc;refine gV (by omega) (by omega) (λi g1 hi=>?_) (λhi=>?_)
 ·rw[X5 (Nat.le_refl _) (by omega)]
  exact N7 (a:=a+c) (by omega) (by omega)
 ·rw[X5 (Nat.le_refl _) (by omega),show a+(yO s (a+c)-a)=yO s (a+c) by omega]
  exact dY (by omega)
theorem zlx{a c:Nat}(hc:a+c<s.size):zG (s.extract a s.size) c=zG s (a+c)-a:=by
 have hz:=vk (s:=s) (a:=a) (b:=s.size) (Nat.le_refl _);have hle:=Jz (s:=s) (Nat.le_of_lt hc);unfold zG;rw[zlw s (Nat.le_of_lt hc),hz];by_cases h:yO s (a+c)<s.size
 ·rw[if_pos h,if_pos (by omega)];omega
 ·rw[if_neg h,if_neg (by omega)]
theorem zbn(b:Nat):∀(k c:Nat),s.size-b-c≤k→b+c≤s.size→je d (uD (s.extract b s.size) k c) c=((dA s d (b+c)).1-b,(dA s d (b+c)).2)
 |0,c,hk,hc=>by
  rw[WS s d (by omega)];show(c,false)=(s.size-b,false);rw[show c=s.size-b by omega]
 |k+1,c,hk,hc=>by
  have hz:=vk (s:=s) (a:=b) (b:=s.size) (Nat.le_refl _);unfold uD;by_cases h:b+c<s.size
  ·have hg:=YV h
   rw[if_pos (by omega),zlx s h,Gg s d h];have hx:(s.extract b s.size).extract c (zG s (b+c)-b)=s.extract (b+c) (zG s (b+c)):=by
    rw[ByteArray.extract_extract];congr 1;omega
   rw[hx];show(if Z9 _ d=true then _ else je d _ _)=_;have hz2:c+(s.extract (b+c) (zG s (b+c))).size=zG s (b+c)-b:=by rw[ByteArray.size_extract];omega
   rw[hz2];by_cases hd:Z9 (s.extract (b+c) (zG s (b+c))) d=true
   ·rw[if_pos hd,if_pos hd]
   ·rw[if_neg hd,if_neg hd]
    have:=zbn b k (zG s (b+c)-b) (by omega) (by omega);rw[show b+(zG s (b+c)-b)=zG s (b+c) by omega]at this;exact this
  ·rw[if_neg (by omega),WS s d h]
   show(c,false)=(s.size-b,false);rw[show c=s.size-b by omega]
theorem CY{a:Nat}(ha:a≤s.size)(ds:List Dl):uF (s.extract a s.size) (d::ds)=((dA s d a).1-a,(dA s d a).2):=by
 have hz:=vk (s:=s) (a:=a) (b:=s.size) (Nat.le_refl _);have:=zbn s d a (s.extract a s.size).size 0 (by omega) (by omega);exact this
end
section
variable{s t:ByteArray}{n:Nat}(h:Jj s t n)
include h
theorem zbo(d:Dl):∀(k a:Nat),s.size-a≤k→a<s.size→(dA s d a).1+2≤n→dA t d a=dA s d a
 |0,a,hk,ha,_=>by omega
 |k+1,a,hk,ha,he=>by
  have h1:=h.a;have h2:=h.b;have hg:=YV ha;have hnl:=Jz (s:=s) (Nat.le_of_lt ha);have hle:=tV s d (s.size-zG s a) (zG s a) (Nat.le_refl _) (by omega);have hlt:zG s a+2≤n:=by
   rw[Gg s d ha]at he;split at he
   ·exact he
   ·omega
  have hl:zG s a=yO s a+1∧yO s a<s.size:=by
   unfold zG at hlt ⊢;split
   ·exact⟨rfl,by assumption⟩
   ·rename_i g;rw[if_neg g]at hlt;omega
  have hn:=zbl h (a:=a) (by omega) (by omega);have hl2:zG t a=zG s a:=by
   conv=>lhs;unfold zG
   rw[hn,if_pos (by omega)];omega
  rw[Gg t d (by omega),Gg s d ha,hl2,←h.ext (a:=a) (b:=zG s a) (by omega)];split
  ·rfl
  ·rename_i g
   rw[Gg s d ha,if_neg g]at he;exact zbo d k (zG s a) (by omega) (by omega) he
theorem zjx{a:Nat}(x:Lx)(ha:a<s.size)(he:(zo s a x).en+2≤n):zo t a x=zo s a x∧zy t a x=zy s a x:=by
 have h1:=h.a;have h2:=h.b;have hok:=jB x ha;have hat:a<t.size:=by omega
 have hk:zo t a x=zo s a x:=by
  unfold zo at he ⊢;by_cases hb:x.body=true
  ·rw[if_pos hb]at he
   rw[if_pos hb,if_pos hb]
   match hp:x.pend with
   | []=>
    rw[hp]at he;have hz:=vk (s:=s) (a:=a) (b:=s.size) (Nat.le_refl _);have:(uF (s.extract a s.size) []).1=s.size-a:=hz;dsimp only at he;omega
   |d::ds=>
    rw[hp]at he;rw[CY s d (a:=a) (by omega) ds]at he ⊢;rw[CY t d (a:=a) (by omega) ds];have hle:=tV s d (s.size-a) a (Nat.le_refl _) (by omega);have he':a+((dA s d a).1-a)+2≤n:=he;rw[zbo h d (s.size-a) a (Nat.le_refl _) ha (by omega)]
  ·rw[if_neg hb]at he
   rw[if_neg hb,if_neg hb];obtain⟨e1,e2⟩:=zlv h ha he;rw[e1,e2,h.ext (a:=a) (b:=yQ s a) (by have:yQ s a+2≤n:=he;omega)]
 refine⟨hk,?_⟩;unfold zy;rw[hk,h.ext (a:=(zo s a x).zf) (b:=(zo s a x).en) (by omega)]
end
end Go.Proofs.YtdjcidackkogjaaGreatDoor

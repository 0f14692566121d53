/- Two texts with one end: the tokens there are the s -/
import Derived.Test.YtdjcidackkogjaaGreatDoorTkS
namespace Go.Proofs.YtdjcidackkogjaaGreatDoor
set_option linter.unusedSectionVars false
set_option linter.unusedVariables false
open Go.RowKit
theorem BG{q r:Nat→Bool}{z:Nat}(h:∀i,i<z→q i=r i):xB q z=xB r z:=by
 have hle:=Yf r z;refine ZT q hle (λi hi=>?_) (λhi=>?_)
 ·rw[h i (by omega)];exact Yz r hi
 ·rw[h _ hi];exact YA r hi
structure Tl(s t:ByteArray)(a b:Nat):Prop where
 la:a≤s.size
 lb:b≤t.size
 z:s.size-a=t.size-b
 e:∀i,a+i<s.size→by8 s (a+i)=by8 t (b+i)
section
variable{s t:ByteArray}{a b:Nat}(h:Tl s t a b)
include h
theorem Tl.add{j:Nat}(hj:a+j≤s.size):Tl s t (a+j) (b+j):=
 ⟨hj,by have:=h.z;have:=h.lb;have:=h.la;omega,by have:=h.z;have:=h.la;have:=h.lb;omega,λi hi=>by rw[Nat.add_assoc,Nat.add_assoc];exact h.e _ (by omega)⟩
theorem Tl.lt{j:Nat}:a+j<s.size↔b+j<t.size:=by have:=h.z;have:=h.lb;have:=h.la;omega
theorem Tl.bt{i:Nat}(hi:a+i<s.size):bt s (a+i)=bt t (b+i):=UInt8.toNat_inj.1 (h.e i hi)
theorem Tl.cl{i:Nat}(hi:a+i<s.size):cl s (a+i)=cl t (b+i):=by unfold Go.Proofs.YtdjcidackkogjaaGreatDoor.cl;rw[h.bt hi]
theorem Tl.ext{i j:Nat}(hj:a+j≤s.size):s.extract (a+i) (a+j)=t.extract (b+i) (b+j):=by
 have h1:=h.la;have h2:=h.lb;have h3:=h.z;refine LZ ?_ (λk hk=>?_)
 ·rw[ByteArray.size_extract,ByteArray.size_extract];omega
 ·rw[ByteArray.size_extract]at hk
  rw[ZU s _ _ k (by omega) (by omega),ZU t _ _ k (by omega) (by omega),Nat.add_assoc,Nat.add_assoc];exact h.bt (by omega)
theorem Tl.all:s.extract a s.size=t.extract b t.size:=by
 have h1:=h.la;have h2:=h.lb;have h3:=h.z;have:=h.ext (i:=0) (j:=s.size-a) (by omega);rw[show a+0=a from rfl,show b+0=b from rfl,show a+(s.size-a)=s.size by omega,show b+(s.size-a)=t.size by omega]at this;exact this
theorem zav{c:Nat}:zC s a c=zC t b c:=by
 unfold zC;rw[h.z];refine BG λi hi=>?_;rw[h.cl (by have:=h.z;omega)]
theorem BH:zS s a=zS t b:=by
 unfold zS;rw[zav h];by_cases g:a+1<s.size
 ·have g2:=h.lt.1 g
  have e0:=h.e 0 (by omega);rw[Nat.add_zero,Nat.add_zero]at e0;rw[e0,h.e 1 g];simp only[g,g2,true_and]
 ·have g2:¬b+1<t.size:=λe=>g (h.lt.2 e)
  simp only[g,g2,false_and]
theorem zjs:yO s a+b=yO t b+a:=by
 unfold yO;rw[h.z,BG (r:=λi=>decide (by8 t (b+i)≠10)) (λi hi=>by rw[h.e i (by have:=h.z;omega)])];omega
theorem zjt:vP s a=vP t b:=by
 unfold vP;rw[zav h];by_cases g:a+zC t b 6<s.size
 ·have g2:=h.lt.1 g
  rw[h.e _ g];simp only[g,g2,true_and]
 ·have g2:¬b+zC t b 6<t.size:=λe=>g (h.lt.2 e)
  simp only[g,g2,false_and]
theorem zju:xe s a+b=xe t b+a:=by
 unfold xe;rw[h.z,BG (r:=λi=>!vC (xZ t b 0 i) (by8 t (b+i))) (λi hi=>by
  have e:xZ s a 0 i=xZ t b 0 i:=pI (λj hj=>h.e _ (by have:=h.z;omega));rw[e,h.e i (by have:=h.z;omega)])]
 omega
theorem zjv:yC s a=yC t b:=by
 have:(λk=>decide (yX s a (txt k)))=λk=>decide (yX t b (txt k)):=funext λk=>decide_eq_decide.2 (by
  unfold yX;have h1:=h.la;have h2:=h.lb;have h3:=h.z;constructor
  ·rintro⟨g1,g2⟩
   have:=h.ext (i:=0) (j:=(txt k).size) g1;rw[Nat.add_zero,Nat.add_zero]at this;exact⟨by omega,by rw[←this];exact g2⟩
  ·rintro⟨g1,g2⟩
   have:=h.ext (i:=0) (j:=(txt k).size) (by omega);rw[Nat.add_zero,Nat.add_zero]at this;exact⟨by omega,by rw[this];exact g2⟩)
 unfold yC;rw[this]
end
theorem zaw{s t:ByteArray}:∀(k a b:Nat),Tl s t a b→s.size-a≤k→vZ s a+b=vZ t b+a
 |k,a,b,h,hk=>by
  have h1:=h.la;have h2:=h.lb;by_cases g:zS s a=0
  ·rw[Qp g,Qp ((BH h).symm.trans g)]
   omega
  ·have hs:=BH h
   have hgt:=NL h1 g;have hle:=WB h1;have e1:=gm h1 g;have e2:=gm h2 (by rw[←hs];exact g);have hb:a+zS s a≤s.size:=by
    rcases Nat.lt_or_ge s.size (a+zS s a)with q|q
    ·exfalso
     rw[e1]at hle;have z0:zS s (a+zS s a)=0:=by
      unfold zS;have hr:∀c,zC s (a+(if 0<zC s a 1 then zC s a 1 else if a+1<s.size∧by8 s a=92∧by8 s (a+1)=10 then 2 else 0)) c=0:=λc=>by
       have:=JE s (a+(if 0<zC s a 1 then zC s a 1 else if a+1<s.size∧by8 s a=92∧by8 s (a+1)=10 then 2 else 0)) c;unfold zS at q;omega
      rw[hr];unfold zS at q;rw[if_neg (by omega),if_neg (by omega)]
     rw[Qp z0]at hle;omega
    ·exact q
   match k,hk with
   |0,hk=>omega
   |k+1,hk=>
    have:=zaw k (a+zS s a) (b+zS s a) (h.add hb) (by omega);rw[e1,e2,←hs];omega
def Tk.mv(q:Tk)(a b:Nat):Tk:=⟨q.kind,q.zf+b-a,q.en+b-a,q.op⟩
section
variable{s t:ByteArray}{a b:Nat}(h:Tl s t a b)
include h
theorem zjw(ha:a<s.size):xW s a=xW t b∧yQ s a+b=yQ t b+a:=by
 have hb:=BH h;have hop:=zjv h;have hn:=zjt h;have e0:=h.e 0 (by omega);rw[Nat.add_zero,Nat.add_zero]at e0;unfold xW yQ;rw[hb,hop,hn,e0];refine⟨rfl,?_⟩;split
 ·exact zaw _ _ _ h (Nat.le_refl _)
 ·split
  ·omega
  ·split
   ·exact zjs h
   ·split
    ·omega
    ·split
     ·omega
     ·exact zju h
theorem zan(x:Lx)(ha:a<s.size):zo t b x=(zo s a x).mv a b∧zy t b x=zy s a x:=by
 have h1:=h.la;have h2:=h.lb;have hok:=jB x ha;have hbt:b<t.size:=by have:=(h.lt (j:=0)).1 (by omega);omega
 have hok2:=jB x hbt;have hk:zo t b x=(zo s a x).mv a b:=by
  unfold zo Tk.mv at*;by_cases hx:x.body=true
  ·simp only[if_pos hx,h.all]at*
   congr 1<;>omega
  ·simp only[if_neg hx]at*
   obtain⟨e1,e2⟩:=zjw h ha;have e3:=h.ext (i:=0) (j:=yQ s a-a) (by omega);rw[Nat.add_zero,Nat.add_zero,show a+(yQ s a-a)=yQ s a by omega,show b+(yQ s a-a)=yQ t b by omega]at e3;rw[e1,e3];congr 1<;>omega
 refine⟨hk,?_⟩;have e3:=h.ext (i:=0) (j:=(zo s a x).en-a) (by omega);have hf:(zo t b x).zf=b:=hok2.1;have he:(zo t b x).en=b+((zo s a x).en-a):=by
  rw[hk];show(zo s a x).en+b-a=_;omega
 unfold zy;rw[hf,he,hok.1];rw[Nat.add_zero,Nat.add_zero,show a+((zo s a x).en-a)=(zo s a x).en by omega]at e3;rw[e3,hk];rfl
end
structure Mk where
 await:Nat
 body:Bool
 zf:Nat
 en:Nat
def Mk.zero:Mk:=⟨0,false,0,0⟩
def zi(m:Mk)(D:List Dl):Lx:=⟨m.await,(D.take m.en).drop m.zf,m.body⟩
theorem nX(D:List Dl):zi Mk.zero D=Lx.zero:=by
 unfold zi Mk.zero Lx.zero;rw[List.take_zero];rfl
def jq(s:ByteArray)(a:Nat)(x:Lx):Nat:=if(zo s a x).kind=7∧(zo s a x).op=false then 1 else 0
def uB(s:ByteArray)(a:Nat)(x:Lx):Nat:=if(zo s a x).kind=6∧x.await≠0 then 1 else 0
structure Stp(s:ByteArray)(D:List Dl)(a:Nat)(m n:Mk):Prop where
 le:n.zf≤n.en
 en:n.en≤D.length
 f:n.zf=m.zf+jq s a (zi m D)
 e:n.en=m.en+uB s a (zi m D)
 l:zi n D=zy s a (zi m D)
def zl(s:ByteArray)(D:List Dl):Nat→Mk→List (Tk×Mk)→Nat→Mk→Prop
 |a,m,[],b,n=>a=b∧m=n
 |a,m,q::I,b,n=>a<s.size∧q.2=m∧q.1=zo s a (zi m D)∧∃k,Stp s D a m k∧zl s D q.1.en k I b n
theorem zl.app{s:ByteArray}{D:List Dl}:∀{I J:List (Tk×Mk)} {a b c:Nat} {m n k:Mk},zl s D a m I b n→zl s D b n J c k→zl s D a m (I++J) c k
 | [],J,a,b,c,m,n,k,h1,h2=>by
  obtain⟨rfl,rfl⟩:=h1;exact h2
 |q::I,J,a,b,c,m,n,k,⟨g1,g2,g3,u,g4,g5⟩,h2=>⟨g1,g2,g3,u,g4,zl.app g5 h2⟩
theorem zl.split{s:ByteArray}{D:List Dl}:∀{I J:List (Tk×Mk)} {a c:Nat} {m k:Mk},zl s D a m (I++J) c k→∃b n,zl s D a m I b n∧zl s D b n J c k
 | [],J,a,c,m,k,h=>⟨a,m,⟨rfl,rfl⟩,h⟩
 |q::I,J,a,c,m,k,⟨g1,g2,g3,u,g4,g5⟩=>by
  obtain⟨b,n,h1,h2⟩:=zl.split g5;exact⟨b,n,⟨g1,g2,g3,u,g4,h1⟩,h2⟩
theorem zl.one{s:ByteArray}{D:List Dl}{a:Nat}{m n:Mk}(h:a<s.size)(hs:Stp s D a m n):zl s D a m [(zo s a (zi m D),m)] (zo s a (zi m D)).en n:=
 ⟨h,rfl,rfl,n,hs,rfl,rfl⟩
theorem zl.le{s:ByteArray}{D:List Dl}:∀{I:List (Tk×Mk)} {a b:Nat} {m n:Mk},zl s D a m I b n→m.zf≤n.zf∧m.en≤n.en∧a+I.length≤b∧(a≤s.size→b≤s.size)∧(m.zf≤m.en→m.en≤D.length→n.zf≤n.en∧n.en≤D.length)
 | [],a,b,m,n,h=>by
  obtain⟨rfl,rfl⟩:=h;exact⟨Nat.le_refl _,Nat.le_refl _,Nat.le_refl _,id,λh1 h2=>⟨h1,h2⟩⟩
 |q::I,a,b,m,n,⟨g1,g2,g3,u,g4,g5⟩=>by
  obtain⟨h1,h2,h3,h4,h5⟩:=zl.le g5;have hok:=jB (zi m D) g1;rw[←g3]at hok;have e1:=g4.f;have e2:=g4.e;have:=h4 hok.2.2;rw[List.length_cons];exact⟨by omega,by omega,by omega,λ_=>this,λ_ _=>h5 g4.le g4.en⟩
theorem zl.sum{s:ByteArray}{D:List Dl}:∀{I:List (Tk×Mk)} {a b:Nat} {m n:Mk},zl s D a m I b n→∀(i:Nat) q,I[i]?=some q→a≤q.1.zf∧q.1.zf<q.1.en∧q.1.en≤b∧m.zf≤q.2.zf∧m.en≤q.2.en∧q.2.zf≤n.zf∧q.2.en≤n.en
 | [],a,b,m,n,h,i,q,hi=>by cases hi
 |q0::I,a,b,m,n,⟨g1,g2,g3,u,g4,g5⟩,i,q,hi=>by
  have hok:=jB (zi m D) g1;rw[←g3]at hok;have e1:=g4.f;have e2:=g4.e;have hl:=zl.le g5
  match i,hi with
  |0,hi=>
   have hi':q0=q:=by simpa using hi
   subst hi';rw[g2];omega
  |i+1,hi=>
   have:=zl.sum g5 i q (by simpa using hi);omega
theorem VA{D F:List Dl}{m:Mk}(h:F.take m.en=D.take m.en):zi m F=zi m D:=by unfold zi;rw[h]
theorem BI{α:Type}{D F:List α}{i j:Nat}(h:F.take j=D.take j)(hij:i≤j):F.take i=D.take i:=by
 have:=congrArg (List.take i) h
 rwa [List.take_take,List.take_take,Nat.min_eq_left hij]at this
theorem Stp.take{s:ByteArray}{D F:List Dl}{a:Nat}{m n:Mk}(h:Stp s D a m n)(hF:F.take n.en=D.take n.en)(hl:n.en≤F.length):Stp s F a m n:=by
 have e:zi m F=zi m D:=VA (BI hF (by rw[h.e];exact Nat.le_add_right _ _));exact⟨h.le,hl,by rw[e];exact h.f,by rw[e];exact h.e,by rw[e,VA hF];exact h.l⟩
theorem zl.take{s:ByteArray}{D F:List Dl}:∀{I:List (Tk×Mk)} {a b:Nat} {m n:Mk},zl s D a m I b n→F.take n.en=D.take n.en→n.en≤F.length→zl s F a m I b n
 | [],a,b,m,n,h,_,_=>h
 |q::I,a,b,m,n,⟨g1,g2,g3,u,g4,g5⟩,hF,hl=>by
  have hle:=zl.le g5;have h2:=BI hF hle.2.1;have e:zi m F=zi m D:=VA (BI h2 (by rw[g4.e];exact Nat.le_add_right _ _));exact⟨g1,g2,by rw[e];exact g3,u,g4.take h2 (Nat.le_trans hle.2.1 hl),zl.take g5 hF hl⟩
theorem zl.nV{s:ByteArray}{D:List Dl}:∀{I:List (Tk×Mk)} {a b:Nat} {m n:Mk},zl s D a m I b n→∃L,vO s (s.size-a) a (zi m D)=L++vO s (s.size-b) b (zi n D)∧L.map Prod.fst=I.map Prod.fst∧(∀y,(L.getLast?.map Prod.snd).getD y=if I=[]then y else zi n D)∧(∀(i:Nat) q,I[i+1]?=some q→∃r,L[i]?=some r∧r.2=zi q.2 D)
 | [],a,b,m,n,h=>by
  obtain⟨rfl,rfl⟩:=h;exact⟨[],rfl,rfl,λy=>by simp,λi q hi=>by cases hi⟩
 |q0::I,a,b,m,n,⟨g1,g2,g3,u,g4,g5⟩=>by
  obtain⟨L,h1,h2,h3,h4⟩:=zl.nV g5;refine⟨(zo s a (zi m D),zy s a (zi m D))::L,?_,?_,λy=>?_,λi q hi=>?_⟩
  ·rw[Nh _ g1,←g4.l,←g3,h1]
   rfl
  ·rw[List.map_cons,List.map_cons,h2,g3]
  ·rw[if_neg (by simp)]
   have:=h3 (zi u D);rw[List.getLast?_cons];by_cases hI:I=[]
   ·subst hI
    have hL:L=[]:=List.map_eq_nil_iff.1 h2;subst hL;obtain⟨_,rfl⟩:=g5;simp[g4.l]
   ·rw[if_neg hI]at this
    rw[←this]
    cases hl:L.getLast? with
    |none=>
     exfalso;have hL:L=[]:=List.getLast?_eq_none_iff.1 hl;rw[hL]at h2;exact hI (List.map_eq_nil_iff.1 h2.symm)
    |some z=>rfl
  ·match i with
   |0=>
    refine⟨_,rfl,?_⟩;show zy s a (zi m D)=_;have hi':I[0]?=some q:=by simpa using hi
    match I,g5,hi' with
    |q1::I',⟨k1,k2,k3,k4⟩,hi'=>
     have:q1=q:=by simpa using hi'
     subst this;rw[k2,g4.l]
   |i+1=>
    obtain⟨r,hr1,hr2⟩:=h4 i q (by simpa using hi);exact⟨r,by simpa using hr1,hr2⟩
theorem zl.whole{s:ByteArray}{D:List Dl}{I:List (Tk×Mk)}{n:Mk}(h:zl s D 0 Mk.zero I s.size n):(ui s).map Prod.fst=I.map Prod.fst∧XD (ui s)=zi n D:=by
 obtain⟨L,h1,h2,h3,_⟩:=h.nV;rw[nX,nY _ (Nat.lt_irrefl _),List.append_nil]at h1;have e:ui s=L:=h1;rw[e];refine⟨h2,?_⟩;have h4:=h3 Lx.zero;unfold XD;by_cases hI:I=[]
 ·subst hI
  have hL:L=[]:=List.map_eq_nil_iff.1 h2;subst hL;obtain⟨_,rfl⟩:=h;exact(nX D).symm
 ·rw[if_neg hI]at h4
  rw[←h4];cases L.getLast?<;>rfl
theorem zl.aK{s t:ByteArray}{D:List Dl}{z:Nat}(hb:Jj s t z):∀{I:List (Tk×Mk)} {a b:Nat} {m n:Mk},zl s D a m I b n→(∀q∈I,q.1.en+2≤z)→zl t D a m I b n
 | [],a,b,m,n,h,_=>h
 |q::I,a,b,m,n,⟨g1,g2,g3,u,g4,g5⟩,hz=>by
  have hq:=hz q (List.mem_cons_self);have hq':=hq;rw[g3]at hq';obtain⟨e1,e2⟩:=zjx hb (zi m D) g1 hq';have hok:=jB (zi m D) g1;rw[←g3]at hok;have hlt:a<t.size:=by have:=hb.b;omega
  refine⟨hlt,g2,by rw[e1];exact g3,u,⟨g4.le,g4.en,?_,?_,by rw[e2];exact g4.l⟩,zl.aK hb g5 λq hq=>hz q (List.mem_cons_of_mem _ hq)⟩
  ·unfold jq;rw[e1];exact g4.f
  ·unfold uB;rw[e1];exact g4.e
def Mk.mv(m:Mk)(p q:Nat):Mk:=⟨m.await,m.body,m.zf+p-q,m.en+p-q⟩
theorem zax{D F:List Dl}{m:Mk}{f p q:Nat}(hq:q≤f+p)(hf:f≤m.zf)(hm:m.zf≤m.en)(h:F.drop (f+p-q)=D.drop f):zi (m.mv p q) F=zi m D:=by
 unfold zi Mk.mv;congr 1;show(F.take (m.en+p-q)).drop (m.zf+p-q)=(D.take m.en).drop m.zf;have e1:(F.take (m.en+p-q)).drop (m.zf+p-q)=(F.drop (m.zf+p-q)).take (m.en-m.zf):=by
  rw[List.drop_take];congr 1;omega
 have e2:(D.take m.en).drop m.zf=(D.drop m.zf).take (m.en-m.zf):=List.drop_take;rw[e1,e2];congr 1;have h2:=congrArg (List.drop (m.zf-f)) h;rw[List.drop_drop,List.drop_drop]at h2;rw[show f+p-q+(m.zf-f)=m.zf+p-q by omega,show f+(m.zf-f)=m.zf by omega]at h2;exact h2
theorem zl.mv{s t:ByteArray}{D F:List Dl}{f p q:Nat}(hq:q≤f+p)(hF:F.drop (f+p-q)=D.drop f)(hl:D.length+p≤F.length+q):∀{I:List (Tk×Mk)} {a b c:Nat} {m n:Mk},zl s D a m I c n→Tl s t a b→f≤m.zf→m.zf≤m.en→zl t F b (m.mv p q) (I.map λr=>(r.1.mv a b,r.2.mv p q)) (c+b-a) (n.mv p q)
 | [],a,b,c,m,n,h,_,_,_=>by
  obtain⟨rfl,rfl⟩:=h;exact⟨by omega,rfl⟩
 |r::I,a,b,c,m,n,⟨g1,g2,g3,u,g4,g5⟩,ht,hf,hm=>by
  have e:=zax (F:=F) (D:=D) hq hf hm hF;obtain⟨e1,e2⟩:=zan ht (zi m D) g1;have hok:=jB (zi m D) g1;rw[←g3]at hok;have hbt:b<t.size:=by have:=(ht.lt (j:=0)).1 (by omega);omega
  have h1:=g4.f;have h2:=g4.e;have h3:=g4.le;have h4:=g4.en;have eu:=zax (F:=F) (D:=D) (m:=u) hq (by omega) h3 hF;have hadd:=ht.add (j:=r.1.en-a) (by omega);rw[show a+(r.1.en-a)=r.1.en by omega]at hadd;have hen:(r.1.mv a b).en=b+(r.1.en-a):=by
   show r.1.en+b-a=_;omega
  have hmv:∀z,z+(b+(r.1.en-a))-r.1.en=z+b-a:=λz=>by omega
  have ih:=zl.mv hq hF hl g5 hadd (by omega) h3;have eI:(I.map λr'=>(r'.1.mv r.1.en (b+(r.1.en-a)),r'.2.mv p q))=I.map λr'=>(r'.1.mv a b,r'.2.mv p q):=by
   refine List.map_congr_left λr' _=>?_;unfold Tk.mv;rw[hmv,hmv]
  rw[eI,hmv]at ih;have hp:jq t b (zi m D)=jq s a (zi m D):=by unfold jq;rw[e1];rfl
  have hps:uB t b (zi m D)=uB s a (zi m D):=by unfold uB;rw[e1];rfl
  refine⟨hbt,by show r.2.mv p q=_;rw[g2],?_,u.mv p q,⟨?_,?_,?_,?_,?_⟩,?_⟩
  ·show r.1.mv a b=_
   rw[e,e1,g3]
  ·show u.zf+p-q≤u.en+p-q
   omega
  ·show u.en+p-q≤F.length
   omega
  ·rw[e,hp]
   show u.zf+p-q=m.zf+p-q+_;omega
  ·rw[e,hps]
   show u.en+p-q=m.en+p-q+_;omega
  ·rw[e,eu,e2]
   exact g4.l
  ·show zl t F (r.1.mv a b).en _ _ _ _
   rw[hen];exact ih
theorem dI{s:ByteArray}{a:Nat}{x:Lx}(hb:x.body=true→x.pend≠ []):(zy s a x).pend.length+jq s a x=x.pend.length+uB s a x∧jq s a x+uB s a x≤1∧(jq s a x=1→(zy s a x).pend=x.pend.tail∧x.pend≠ [])∧(jq s a x=0→∃l,(zy s a x).pend=x.pend++l∧l.length=uB s a x):=by
 have h7:(zo s a x).kind=7→x.body=true:=by
  intro h
  cases hx:x.body with
  |true=>rfl
  |false=>
   exfalso;unfold zo at h;rw[if_neg (by rw[hx];simp)]at h;have:=BJ s a;have h':xW s a=7:=h;omega
 unfold zy jq uB xG;generalize(zo s a x).kind=k at h7 ⊢;generalize(zo s a x).op=o;generalize s.extract (zo s a x).zf (zo s a x).en=tx;by_cases k7:k=7
 ·have hp:=hb (h7 k7)
  rw[if_pos k7];subst k7
  cases o with
  |true=>simp
  |false=>
   have hl:0<x.pend.length:=by
    cases hx:x.pend with
    |nil=>exact absurd hx hp
    |cons d l=>simp
   simp[hp];omega
 ·rw[if_neg k7]
  simp only[k7,false_and,if_false];by_cases k1:k=1
  ·subst k1;simp
  rw[if_neg k1];by_cases k2:k=2
  ·subst k2;simp
  rw[if_neg k2];by_cases k4:k=4
  ·subst k4;simp
  rw[if_neg k4];by_cases k6:k=6∧x.await≠0
  ·rw[if_pos k6,if_pos k6];simp
  ·rw[if_neg k6,if_neg k6];simp
theorem zay{s:ByteArray}{a:Nat}{x:Lx}:zo s a ⟨x.await,x.pend.take 2,x.body⟩=zo s a x:=by
 have hd:∀t:ByteArray,uF t (x.pend.take 2)=uF t x.pend:=λt=>by
  cases x.pend with
  |nil=>rfl
  |cons d l=>rfl
 unfold zo;simp only[hd]
theorem zjy{s:ByteArray}{a:Nat}{x:Lx}(hb:x.body=true→x.pend≠ []):(zy s a ⟨x.await,x.pend.take 2,x.body⟩).await=(zy s a x).await∧(zy s a ⟨x.await,x.pend.take 2,x.body⟩).body=(zy s a x).body∧jq s a ⟨x.await,x.pend.take 2,x.body⟩=jq s a x∧uB s a ⟨x.await,x.pend.take 2,x.body⟩=uB s a x∧
  (uB s a x=1→∃d,(zy s a x).pend=x.pend++ [d]∧(zy s a ⟨x.await,x.pend.take 2,x.body⟩).pend=x.pend.take 2++ [d]):=by
 unfold jq uB zy;rw[zay];generalize(zo s a x).kind=k;generalize(zo s a x).op=o;generalize s.extract (zo s a x).zf (zo s a x).en=tx;have h1:(x.pend.take 2).isEmpty=x.pend.isEmpty:=by cases x.pend<;>rfl
 have h2:(x.pend.take 2).tail.isEmpty=x.pend.tail.isEmpty:=by
  match x.pend with
  | []=>rfl
  | [d]=>rfl
  |d::e::l=>rfl
 unfold xG;by_cases k7:k=7
 ·subst k7
  simp only[if_true];cases o<;>simp[h2]
 ·simp only[if_neg k7]
  by_cases k1:k=1
  ·subst k1;simp
  simp only[if_neg k1];by_cases k2:k=2
  ·subst k2;simp[h1]
  simp only[if_neg k2];by_cases k4:k=4
  ·subst k4;simp
  simp only[if_neg k4];by_cases k6:k=6∧x.await≠0
  ·simp only[if_pos k6]
   exact⟨by simp,by simp,by simp,by simp,λ_=>⟨_,rfl,rfl⟩⟩
  ·simp[k6]
end Go.Proofs.YtdjcidackkogjaaGreatDoor

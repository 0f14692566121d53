/- Layer 10 (relex), plain: a path of old tokens, of  -/
import Derived.Test.YtdjcidackkogjaaGreatDoorRxK
namespace Go.Proofs.YtdjcidackkogjaaGreatDoor
set_option linter.unusedSectionVars false
set_option linter.unusedVariables false
open Go
theorem zl.join{s T:ByteArray}{D F:List Dl}{A B C:List (Tk×Mk)}{a0 a1 a2:Nat}{m0 m1 r E:Mk}(hA:zl T D 0 Mk.zero A a0 m0)(hB:zl T F a0 m0 B a1 m1)(hC:zl s D a2 r C s.size E)
 (h1:m1.en=F.length)(hm1:m1.zf≤m1.en)(h2:F.take m0.en=D.take m0.en)(hr:r.zf≤r.en)(hrD:r.en≤D.length)(hE:E.en=D.length)(hx:zi m1 F=zi r D)(hT:Tl s T a2 a1):
  zl T (F++D.drop r.en) 0 Mk.zero (A++B++C.map λq=>(q.1.mv a2 a1,q.2.mv m1.en r.en)) (s.size+a1-a2) (E.mv m1.en r.en)∧(E.mv m1.en r.en).en=(F++D.drop r.en).length:=by
 have hle:=zl.le hB;have zmO:=zl.le hC;have hlen:m1.en-m1.zf=r.en-r.zf:=by
  have:=congrArg (λx=>x.pend.length) hx;simp only[zi,List.length_drop,List.length_take]at this;omega
 have hrm:r.mv m1.en r.en=m1:=by
  have e1:=congrArg Lx.await hx;have e2:=congrArg Lx.body hx;simp only[zi]at e1 e2;obtain⟨x1,x2,x3,x4⟩:=m1;obtain⟨y1,y2,y3,y4⟩:=r;simp only[Mk.mv,Mk.mk.injEq]at*;exact⟨e1.symm,e2.symm,by omega,by omega⟩
 have hdrop:(F++D.drop r.en).drop (r.zf+m1.en-r.en)=D.drop r.zf:=by
  have hp:=congrArg Lx.pend hx;simp only[zi]at hp;rw[h1,List.take_length]at hp;rw[show r.zf+m1.en-r.en=m1.zf by omega,List.drop_append_of_le_length (by omega),hp];rw[←List.drop_append_of_le_length (by rw[List.length_take];omega),List.take_append_drop]
 have hA':zl T (F++D.drop r.en) 0 Mk.zero A a0 m0:=hA.take (by rw[List.take_append_of_le_length (by omega)];exact h2) (by rw[List.length_append];omega);have hB':zl T (F++D.drop r.en) a0 m0 B a1 m1:=hB.take (by rw[List.take_append_of_le_length (by omega)]) (by rw[List.length_append];omega);have hC':=zl.mv (t:=T) (F:=F++D.drop r.en) (f:=r.zf) (p:=m1.en) (q:=r.en) (b:=a1) (by omega) hdrop (by rw[List.length_append,List.length_drop];omega) hC hT (Nat.le_refl _) hr;rw[hrm]at hC';refine⟨(hA'.app hB').app hC',?_⟩;show E.en+m1.en-r.en=_;rw[List.length_append,List.length_drop];omega
theorem Qj.same{o q:Mk}{D F:List Dl}{df zK:Int}(h:Qj o q D (zi q F) df true zK)(ho:o.zf≤o.en)(OJ:o.en≤D.length)(hq:q.zf≤q.en)(OL:q.en≤F.length):zi q F=zi o D:=by
 rcases h with⟨_,h,_⟩|⟨⟨f1,f2,f3⟩,_,n,hn,_,hB,he,_⟩
 ·cases h
 ·have hn2:n=o.en-o.zf:=by simpa using hB
  have hp:(zi q F).pend=(zi o D).pend:=by
   refine List.ext_getElem? λi=>?_;by_cases hi:i<o.en-o.zf
   ·rw[Jo (F:=D) hi]
    exact(he i (by omega)).symm
   ·rw[List.getElem?_eq_none (by simp only[zi,List.length_drop,List.length_take];omega),List.getElem?_eq_none (by simp only[zi,List.length_drop,List.length_take];omega)]
  show(⟨q.await,(zi q F).pend,q.body⟩:Lx)=⟨o.await,(zi o D).pend,o.body⟩;rw[hp,f1,f2]
theorem zl.from{s:ByteArray}{D:List Dl}{I:List (Tk×Mk)}{a b:Nat}{m n:Mk}(h:zl s D a m I b n){k:Nat}{r:Tk×Mk}(hr:I[k]?=some r):zl s D a m (I.take k) r.1.zf r.2∧zl s D r.1.zf r.2 (I.drop k) b n:=by
 rw[←List.take_append_drop k I]at h;obtain⟨c,u,h1,h2⟩:=h.split;have hd:I.drop k=r::I.drop (k+1):=by
  have hl:=(List.getElem?_eq_some_iff.1 hr);rw[List.drop_eq_getElem_cons hl.1,hl.2]
 rw[hd]at h2;have e1:r.2=u:=h2.2.1;have e2:r.1.zf=c:=by rw[h2.2.2.1];exact(jB _ h2.1).1
 rw[e1,e2];refine⟨h1,?_⟩;rw[hd];exact h2
open Go Go.RowKit
theorem zl.cut{s:ByteArray}{D:List Dl}{I:List (Tk×Mk)}{E:Mk}(h:zl s D 0 Mk.zero I s.size E){k:Nat}(hk:k≤I.length):zl s D 0 Mk.zero (I.take k) (kN I k) (zH I E k)∧zl s D (kN I k) (zH I E k) (I.drop k) s.size E:=by
 have h0:=h;rw[←List.take_append_drop k I]at h0;obtain⟨c,u,h1,h2⟩:=h0.split;have hc:kN I k=c:=by
  match k,hk with
  |0,_=>
   obtain⟨e,_⟩:=h1;exact e
  |j+1,hk=>
   have hg:I[j]?=some (I[j]'(by omega)):=List.getElem?_eq_getElem _;have e:I.take (j+1)=I.take j++ [I[j]'(by omega)]:=by simp
   rw[e]at h1;obtain⟨c1,u1,_,g2⟩:=h1.split;obtain⟨_,_,_,_,_,g3,_⟩:=g2;show(match I[j]? with|some q=>q.1.en|none=>0)=c;rw[hg];exact g3
 have hu:zH I E k=u:=by
  unfold zH;rcases Nat.lt_or_ge k I.length with hl|hl
  ·have hg:I[k]?=some (I[k]'hl):=List.getElem?_eq_getElem _
   rw[List.drop_eq_getElem_cons hl]at h2;rw[hg];exact h2.2.1
  ·rw[List.getElem?_eq_none hl]
   rw[List.drop_eq_nil_of_le hl]at h2;exact h2.2.symm
 rw[hc,hu];exact⟨h1,h2⟩
theorem oG{s d n:ByteArray}{k:Nat}(h:k+d.size≤s.size)(i:Nat)(hi:i<s.size-d.size+n.size):
  bt (xP s k d n) i=if i<k then bt s i else if i<k+n.size then bt n (i-k)else bt s (i+d.size-n.size):=by
 have z0:(s.extract 0 k).size=k:=by rw[ByteArray.size_extract];omega
 have z2:(s.extract (k+d.size) s.size).size=s.size-(k+d.size):=by rw[ByteArray.size_extract];omega
 have z1:(s.extract 0 k++n).size=k+n.size:=by rw[ByteArray.size_append,z0]
 unfold xP;rw[pX _ _ _ (by rw[z1,z2];omega),z1];by_cases h1:i<k
 ·rw[if_pos (by omega),if_pos h1,pX _ _ _ (by rw[z0];omega),z0,if_pos h1,ZU _ _ _ _ (by omega) (by omega)]
  simp
 ·rw[if_neg h1]
  by_cases h2:i<k+n.size
  ·rw[if_pos h2,if_pos h2,pX _ _ _ (by rw[z0];omega),z0,if_neg h1]
  ·rw[if_neg h2,if_neg h2,ZU _ _ _ _ (by omega) (by omega)]
   congr 1;omega
theorem zhA{s d n:ByteArray}{k:Nat}(h:k+d.size≤s.size):Jj s (xP s k d n) k:=
 ⟨by omega,by rw[J4 h];omega,λi hi=>by unfold by8;rw[oG h i (by omega),if_pos hi]⟩
theorem aI{s d n:ByteArray}{k a b:Nat}(h:k+d.size≤s.size)(ha:k+d.size≤a)(hs:a≤s.size)(hb:b+d.size=a+n.size):Tl s (xP s k d n) a b:=by
 have hz:=J4 (n:=n) h;refine⟨hs,by omega,by omega,λi hi=>?_⟩;unfold by8;rw[oG h (b+i) (by omega),if_neg (by omega),if_neg (by omega),show b+i+d.size-n.size=a+i by omega]
theorem aJ{s d n:ByteArray}{at':Nat}{D:List Dl}{I:List (Tk×Mk)}{E:Mk}(hP:zl s D 0 Mk.zero I s.size E)(hE:E.en=D.length)(hfit:at'+d.size≤s.size){k:Nat}(hk:k≤I.length)(hlo:∀i q,i<k→I[i]?=some q→qM at' d.size q.1=false)
 {F:List Dl}{its:List (Tk×Mk)}{a1:Nat}{m1:Mk}(hB:zl (xP s at' d n) F (kN I k) (zH I E k) its a1 m1)(hF:F.take (zH I E k).en=D.take (zH I E k).en)(hm:m1.en=F.length){n0 tail:Nat}(hhi:∀i q,n0≤i→I[i]?=some q→qN at' d.size q.1=true)
 (hend:(tail=0∧a1=(xP s at' d n).size)∨(∃q n1 yN n2 zK,n0≤n1∧q.2=m1∧q.1.zf=a1∧Sc I D ((n.size:Int)-(d.size:Int)) q (zi m1 F) n1 yN n2 zK true∧n2<I.length∧tail=I.length-n2)):
  zl (xP s at' d n) (F++D.drop (zH I E (I.length-tail)).en) 0 Mk.zero (I.take k++its++(I.drop (I.length-tail)).map λq=>(q.1.mv s.size (xP s at' d n).size,q.2.mv F.length (zH I E (I.length-tail)).en)) (xP s at' d n).size (if 0<tail then E.mv F.length (zH I E (I.length-tail)).en else m1)∧
  (if 0<tail then E.mv F.length (zH I E (I.length-tail)).en else m1).en=(F++D.drop (zH I E (I.length-tail)).en).length∧k+tail≤I.length∧
  (∀q∈I.drop (I.length-tail),s.size≤q.1.zf+(xP s at' d n).size∧(zH I E (I.length-tail)).en≤q.2.zf+F.length)∧(0<tail→(zH I E (I.length-tail)).en≤E.zf+F.length):=by
 have hz:=J4 (n:=n) hfit;obtain⟨hA0,hAd⟩:=hP.cut hk;have hAt:zl (xP s at' d n) D 0 Mk.zero (I.take k) (kN I k) (zH I E k):=zl.aK (zhA hfit) hA0 λq hq=>by
  obtain⟨i,hi⟩:=List.getElem?_of_mem hq;rw[List.getElem?_take]at hi;by_cases hik:i<k
  ·rw[if_pos hik]at hi
   have:=hlo i q hik hi;unfold qM at this;simp at this;omega
  ·rw[if_neg hik]at hi;cases hi
 have hBl:=zl.le hB;have wK:=(zl.le hA0).2.2.2.2 (Nat.le_refl _) (Nat.zero_le _);rcases hend with⟨rfl,ha1⟩|⟨q,n1,yN,n2,zK,aN,hq2,hq1,hsc,hn2,rfl⟩
 ·have e1:zH I E (I.length-0)=E:=by unfold zH;rw[List.getElem?_eq_none (by omega)]
  rw[e1,hE,List.drop_length,List.append_nil,List.drop_eq_nil_of_le (by omega)];simp only[Nat.lt_irrefl,if_false,List.map_nil,List.append_nil,List.not_mem_nil,false_implies,implies_true,and_true];refine⟨?_,hm,by omega⟩;rw[←ha1];exact(hAt.take hF (by omega)).app hB
 ·have hlt:0<I.length-n2:=by omega
  have e0:I.length-(I.length-n2)=n2:=by omega
  rw[e0];simp only[hlt,if_true];obtain⟨r,oH,hr,hrq,hsa⟩:=hsc.hits;have e1:zH I E n2=r.2:=by unfold zH;rw[hr]
  rw[e1];obtain⟨hC0,hC⟩:=hP.from hr
  have hrl:=(zl.le hC0).2.2.2.2 (Nat.le_refl _) (Nat.zero_le _);have hm1:=hBl.2.2.2.2 wK.1 (by omega);rw[hq1]at hrq;rw[hq2]at hsa;have hx:=hsa.same hrl.1 hrl.2 hm1.1 (by omega);have hle:=hsc.le;have hpr:=hhi n2 r (by omega) hr;unfold qN at hpr;simp only[decide_eq_true_eq]at hpr;have hrs:r.1.zf≤s.size:=by have:=(zl.le hC).2.2.1;omega
  have hT:Tl s (xP s at' d n) r.1.zf a1:=aI hfit hpr hrs (by omega);obtain⟨j1,j2⟩:=zl.join (r:=r.2) hAt hB hC hm hm1.1 hF hrl.1 hrl.2 hE hx hT;have hlen:m1.en-m1.zf=r.2.en-r.2.zf:=by
   have:=congrArg (λx=>x.pend.length) hx;simp only[zi,List.length_drop,List.length_take]at this;omega
  have hsum:∀q∈I.drop n2,r.1.zf≤q.1.zf∧q.1.zf<q.1.en∧r.2.zf≤q.2.zf:=λq hq=>by
   obtain⟨i,hi⟩:=List.getElem?_of_mem hq;have:=zl.sum hC i q hi;exact⟨this.1,this.2.1,this.2.2.2.1⟩
  have eI:(I.drop n2).map (λq=>(q.1.mv r.1.zf a1,q.2.mv m1.en r.2.en))=(I.drop n2).map (λq=>(q.1.mv s.size (xP s at' d n).size,q.2.mv F.length r.2.en)):=by
   refine List.map_congr_left λq hq=>?_;have:=hsum q hq;unfold Tk.mv;rw[hm,show q.1.zf+a1-r.1.zf=q.1.zf+(xP s at' d n).size-s.size by omega,show q.1.en+a1-r.1.zf=q.1.en+(xP s at' d n).size-s.size by omega]
  rw[eI,hm,show s.size+a1-r.1.zf=(xP s at' d n).size by omega]at j1;rw[hm]at j2;refine⟨j1,j2,?_,λq hq=>⟨by have:=hsum q hq;omega,by have:=hsum q hq;omega⟩,λ_=>?_⟩
  ·refine Classical.byContradiction λhn=>?_
   have:=hlo n2 r (by omega) hr;unfold qM at this;simp at this;have h3:=(zl.sum hP n2 r hr).2.1;omega
  ·have:=(zl.le hC).1
   omega
theorem zal(t:ByteArray)(d:Dl):∀(k a:Nat),t.size-a≤k→a≤t.size→(je d (uD t k a) a).2=false→(je d (uD t k a) a).1=t.size
 |0,a,h0,h,_=>by
  show a=t.size;omega
 |k+1,a,h0,h,hf=>by
  unfold uD at hf ⊢;by_cases hl:a<t.size
  ·have hg:=YV hl
   rw[if_pos hl]at hf ⊢;have hz:a+(t.extract a (zG t a)).size=zG t a:=by rw[ByteArray.size_extract];omega
   unfold je at hf ⊢;rw[hz]at hf ⊢;split
   ·rename_i hd
    rw[if_pos hd]at hf;cases hf
   ·rename_i hd
    rw[if_neg hd]at hf;exact zal t d k (zG t a) (by omega) hg.2 hf
  ·rw[if_neg hl]
   show a=t.size;omega
theorem zjh(t:ByteArray)(pend:List Dl)(h:(uF t pend).2=false):(uF t pend).1=t.size:=by
 cases pend with
 |nil=>rfl
 |cons d ds=>exact zal t d t.size 0 (by omega) (Nat.zero_le _) h
theorem zji{s:ByteArray}{a:Nat}{x:Lx}(ha:a<s.size)(hb:x.body=true)(ho:(zo s a x).op=true):(zo s a x).en=s.size:=by
 unfold zo at ho ⊢;rw[if_pos hb]at ho ⊢;have:=zjh (s.extract a s.size) x.pend (by simpa using ho);show a+(uF (s.extract a s.size) x.pend).1=s.size;rw[this,ByteArray.size_extract];omega
theorem zam{α:Type}{l r:List α}(h:l.length=r.length):l.isEmpty=r.isEmpty:=by
 cases l with
 |nil=>cases r with
  |nil=>rfl
  |cons b r=>simp at h
 |cons a l=>cases r with
  |nil=>simp at h
  |cons b r=>rfl
theorem zjj{x y:Lx}(h1:x.await=y.await)(h2:x.body=y.body)(h3:x.pend.length=y.pend.length)(k:Nat)(op:Bool)(t:ByteArray):(xG x k op t).await=(xG y k op t).await∧(xG x k op t).body=(xG y k op t).body:=by
 obtain⟨xa,xp,xb⟩:=x;obtain⟨ya,yp,yb⟩:=y;dsimp only at h1 h2 h3;subst h1 h2;have e1:=zam h3;have e2:xp.tail.isEmpty=yp.tail.isEmpty:=zam (by rw[List.length_tail,List.length_tail,h3]);unfold xG;dsimp only;by_cases k7:k=7
 ·simp only[if_pos k7]
  cases op<;>simp[e2]
 ·simp only[if_neg k7]
  by_cases k1:k=1
  ·simp only[if_pos k1];exact⟨trivial,trivial⟩
  ·simp only[if_neg k1]
   by_cases k2:k=2
   ·simp only[if_pos k2];exact⟨trivial,by rw[e1]⟩
   ·simp only[if_neg k2]
    by_cases k4:k=4
    ·simp only[if_pos k4];exact⟨trivial,trivial⟩
    ·simp only[if_neg k4]
     by_cases k6:k=6∧xa≠0
     ·simp only[if_pos k6];exact⟨trivial,trivial⟩
     ·simp only[if_neg k6];exact⟨trivial,trivial⟩
structure Lk(D F:List Dl)(m k:Mk)(df:Nat):Prop where
 aw:m.await=k.await
 bd:m.body=k.body
 ln:m.en+k.zf=k.en+m.zf
 le:m.zf≤df
 lt:df<m.en
 eq:∀j,m.zf≤j→j<df→D[j]?=F[j+k.zf-m.zf]?
 ne:D[df]?≠F[df+k.zf-m.zf]?
theorem Lk.ne'{D F:List Dl}{m k:Mk}{df:Nat}(h:Lk D F m k df):zi k F≠zi m D:=λe=>by
 have e1:(zi k F).pend[df-m.zf]?=(zi m D).pend[df-m.zf]?:=congrArg (λx:Lx=>x.pend[df-m.zf]?) e;have h1:=h.ln;have h2:=h.le;have h3:=h.lt;rw[Jo (by omega),Jo (by omega),show k.zf+(df-m.zf)=df+k.zf-m.zf by omega,show m.zf+(df-m.zf)=df by omega]at e1;exact h.ne e1.symm
theorem Lk.step{s T:ByteArray}{D F:List Dl}{m k m' k':Mk}{df a b:Nat}(h:Lk D F m k df)(hT:Tl s T a b)(ha:a<s.size)(hm:Stp s D a m m')(hk:Stp T F b k k')(hf:m'.zf≤df)(he:(zo s a (zi m D)).en<s.size)(hD:m.en≤D.length)(hF:k.en≤F.length):
  zo T b (zi k F)=(zo s a (zi m D)).mv a b∧Lk D F m' k' df∧k'.zf+m.zf=k.zf+m'.zf:=by
 obtain⟨t1,t2⟩:=zan hT (zi m D) ha;have hl1:=Vz hD;have hl2:=Vz hF;have i1:=h.ln;have i2:=h.le;have i3:=h.lt;have hlen:(zi k F).pend.length=(zi m D).pend.length:=by rw[hl1,hl2];omega
 have htk:zo T b (zi k F)=zo T b (zi m D):=by
  have hbd:(zi k F).body=(zi m D).body:=h.bd.symm
  cases hb:m.body with
  |false=>
   have q1:(zi k F).body=false:=hbd.trans hb;have q2:(zi m D).body=false:=hb;unfold zo;rw[if_neg (by rw[q1];simp),if_neg (by rw[q2];simp)]
  |true=>
   have q1:(zi k F).body=true:=hbd.trans hb;have q2:(zi m D).body=true:=hb;have hlt:m.zf<df:=by
    refine Classical.byContradiction λhn=>?_;have hfr:m.zf=df:=by omega
    have hpop:=hm.f;unfold jq at hpop;have hkind:(zo s a (zi m D)).kind=7:=by unfold zo;rw[if_pos q2]
    cases hop:(zo s a (zi m D)).op with
    |true=>
     have:=zji ha q2 hop;omega
    |false=>
     rw[if_pos ⟨hkind,hop⟩]at hpop;omega
   have hhd:(zi k F).pend.head?=(zi m D).pend.head?:=by
    rw[List.head?_eq_getElem?,List.head?_eq_getElem?,Jo (by omega),Jo (by omega),Nat.add_zero,Nat.add_zero];have:=h.eq m.zf (Nat.le_refl _) hlt;rw[this];congr 1;omega
   have hdn:∀t,uF t (zi k F).pend=uF t (zi m D).pend:=λt=>by
    revert hhd;generalize(zi k F).pend=l1;generalize(zi m D).pend=l2;intro hhd;cases l1<;>cases l2<;>simp at hhd
    ·rfl
    ·subst hhd;rfl
   unfold zo;simp only[q1,q2,if_true,hdn]
 have BB:zo T b (zi k F)=(zo s a (zi m D)).mv a b:=htk.trans t1;have hpp:jq T b (zi k F)=jq s a (zi m D):=by unfold jq;rw[BB];rfl
 have hps:uB T b (zi k F)=uB s a (zi m D):=by
  unfold uB;rw[BB];have:(zi k F).await=(zi m D).await:=h.aw.symm;rw[this];rfl
 have f1:=hm.f;have f2:=hk.f;have f3:=hm.e;have f4:=hk.e;rw[hpp]at f2;rw[hps]at f4;have hnx:(zy T b (zi k F)).await=(zy s a (zi m D)).await∧(zy T b (zi k F)).body=(zy s a (zi m D)).body:=by
  rw[←t2];unfold zy;rw[htk];exact zjj h.aw.symm h.bd.symm hlen _ _ _
 have g1:=congrArg Lx.await hm.l;have g2:=congrArg Lx.await hk.l;have g3:=congrArg Lx.body hm.l;have g4:=congrArg Lx.body hk.l;refine⟨BB,⟨?_,?_,by omega,hf,by omega,λj h1 h2=>?_,?_⟩,by omega⟩
 ·exact g1.trans (hnx.1.symm.trans g2.symm)
 ·exact g3.trans (hnx.2.symm.trans g4.symm)
 ·rw[h.eq j (by omega) h2,show j+k'.zf-m'.zf=j+k.zf-m.zf by omega]
 ·rw[show df+k'.zf-m'.zf=df+k.zf-m.zf by omega]
  exact h.ne
theorem Lk.path{s T:ByteArray}{D F:List Dl}{df:Nat}:∀{I J:List (Tk×Mk)} {a b a2 b2:Nat} {m k m2 k2:Mk},Lk D F m k df→Tl s T a b→zl s D a m I a2 m2→zl T F b k J b2 k2→b2+a=a2+b→m2.zf≤df→a2<s.size→m.en≤D.length→k.en≤F.length→Lk D F m2 k2 df
 | [],J,a,b,a2,b2,m,k,m2,k2,h,hT,hI,hJ,he,hf,hs,_,_=>by
  obtain⟨rfl,rfl⟩:=hI;have hl:=(zl.le hJ).2.2.1;have:J=[]:=List.eq_nil_of_length_eq_zero (by omega);subst this;obtain⟨_,rfl⟩:=hJ;exact h
 |q::I,J,a,b,a2,b2,m,k,m2,k2,h,hT,⟨g1,g2,g3,u,g4,g5⟩,hJ,he,hf,hs,hD,hF=>by
  have hl:=zl.le g5;have hok:=jB (zi m D) g1;rw[←g3]at hok
  match J,hJ with
  | [],hJ=>
   obtain⟨e,_⟩:=hJ;omega
  |p::J,⟨j1,j2,j3,v,j4,j5⟩=>
   obtain⟨e1,e2,e3⟩:=Lk.step h hT g1 g4 j4 (by omega) (by rw[←g3];omega) hD hF;rw[←j3,←g3]at e1;have hen:p.1.en=b+(q.1.en-a):=by
    rw[e1];show q.1.en+b-a=_;omega
   have hadd:=hT.add (j:=q.1.en-a) (by omega);rw[show a+(q.1.en-a)=q.1.en by omega,←hen]at hadd;exact Lk.path e2 hadd g5 j5 (by omega) hf hs g4.en j4.en
section
variable{s T:ByteArray}{D F:List Dl}{I:List (Tk×Mk)}{E:Mk}(hP:zl s D 0 Mk.zero I s.size E)
include hP
def Yt(s T:ByteArray)(D F:List Dl)(I:List (Tk×Mk))(n:Nat)(df:Int)(b:Nat)(k:Mk):Prop:=
 df= -1∨∃(i0:Nat) (r0:Tk×Mk) (b0:Nat) (k0:Mk) (J:List (Tk×Mk)) (d0:Nat),i0<n∧I[i0]?=some r0∧Tl s T r0.1.zf b0∧Lk D F r0.2 k0 d0∧df=(d0:Int)∧zl T F b0 k0 J b k∧k0.en≤F.length
theorem NF{n:Nat}{r:Tk×Mk}(hr:I[n]?=some r):r.2.zf≤r.2.en∧r.2.en≤D.length∧r.1.zf<s.size:=by
 obtain⟨h1,h2⟩:=hP.from hr
 have h3:=(zl.le h1).2.2.2.2 (Nat.le_refl _) (Nat.zero_le _);have h4:=zl.sum hP n r hr;exact⟨h3.1,h3.2,by omega⟩
theorem Yt.cache{n:Nat}{df:Int}{b:Nat}{k:Mk}(h:Yt s T D F I n df b k){r:Tk×Mk}(hr:I[n]?=some r)(hT:Tl s T r.1.zf b)(hc:(r.2.zf:Int)≤df):zi k F≠zi r.2 D:=by
 rcases h with h|⟨i0,r0,b0,k0,J,d0,h1,h2,h3,h4,h5,h6,h7⟩
 ·omega
 ·obtain⟨p1,p2⟩:=hP.from h2
  obtain⟨o1,o2,o3⟩:=NF hP h2;obtain⟨o4,o5,o6⟩:=NF hP hr;have hr':(I.drop i0)[n-i0]?=some r:=by rw[List.getElem?_drop,show i0+(n-i0)=n by omega];exact hr
  obtain⟨p3,_⟩:zl s D r0.1.zf r0.2 ((I.drop i0).take (n-i0)) r.1.zf r.2∧True:=by
   have:=p2;rw[←List.take_append_drop (n-i0) (I.drop i0)]at this;obtain⟨c,u,q1,q2⟩:=this.split;have hl:=(List.getElem?_eq_some_iff.1 hr');rw[List.drop_eq_getElem_cons hl.1,hl.2]at q2;have e1:r.2=u:=q2.2.1;have e2:r.1.zf=c:=by rw[q2.2.2.1];exact(jB _ q2.1).1
   rw[e1,e2];exact⟨q1,trivial⟩
  have z1:=h3.z;have z2:=hT.z;have z3:=h3.la;have z4:=h3.lb;have z5:=hT.la;have z6:=hT.lb;exact(Lk.path h4 h3 p3 h6 (by omega) (by omega) o6 o2 h7).ne'
theorem Yt.answer{n:Nat}{df yN:Int}{b:Nat}{k:Mk}(h:Yt s T D F I n df b k){r:Tk×Mk}(hr:I[n]?=some r)(hT:Tl s T r.1.zf b)(hk:k.zf≤k.en)(NG:k.en≤F.length)(hsa:Qj r.2 k D (zi k F) df false yN):zi k F≠zi r.2 D∧Yt s T D F I (n+1) yN b k:=by
 obtain⟨o4,o5,o6⟩:=NF hP hr;have hmono:Yt s T D F I (n+1) df b k:=by
  rcases h with h|⟨i0,r0,b0,k0,J,d0,h1,h2⟩
  ·exact .inl h
  ·exact .inr ⟨i0,r0,b0,k0,J,d0,by omega,h2⟩
 rcases hsa with⟨hh,_,rfl⟩|⟨hfit,hlt,m,hm,rfl,hB,he,hne⟩
 ·refine⟨?_,hmono⟩
  rcases hh with hh|hh
  ·intro e
   apply hh;have e1:=congrArg Lx.await e;have e2:=congrArg Lx.body e;have e3:=congrArg (λx=>x.pend.length) e;simp only[Vz NG,Vz o5]at e3;exact⟨e1.symm,e2.symm,by omega⟩
  ·exact h.cache hP hr hT hh
 ·have hm2:m≠r.2.en-r.2.zf:=by simpa using hB
  have hf:=hfit.2.2;have hlk:Lk D F r.2 k (r.2.zf+m):=⟨hfit.1,hfit.2.1,by omega,by omega,by omega,λj h1 h2=>by
   have:=he (j-r.2.zf) (by omega);rw[Jo (by omega),show r.2.zf+(j-r.2.zf)=j by omega,show k.zf+(j-r.2.zf)=j+k.zf-r.2.zf by omega]at this;exact this,by
   have:=hne (by omega);rw[Jo (by omega),show k.zf+m=r.2.zf+m+k.zf-r.2.zf by omega]at this;exact this⟩
  exact⟨hlk.ne',.inr ⟨n,r,b,k,[],_,by omega,hr,hT,hlk,rfl,⟨rfl,rfl⟩,NG⟩⟩
theorem Yt.scan{more:Int}{q:Tk×Mk}{X:Lx}{n n':Nat}{df zK:Int}{B:Bool}(hsc:Sc I D more q X n df n' zK B)(hX:X=zi q.2 F)(hT:∀(i:Nat) (r:Tk×Mk),n≤i→I[i]?=some r→(r.1.zf:Int)+more=(q.1.zf:Int)→Tl s T r.1.zf q.1.zf)(hk:q.2.zf≤q.2.en)(NG:q.2.en≤F.length)(h:Yt s T D F I n df q.1.zf q.2):
  (∀i r,n≤i→i<n'→I[i]?=some r→(r.1.zf:Int)+more≤(q.1.zf:Int)∧((r.1.zf:Int)+more=(q.1.zf:Int)→zi q.2 F≠zi r.2 D))∧
  (B=false→Yt s T D F I n' zK q.1.zf q.2∧∀i r,n'≤i→I[i]?=some r→(q.1.zf:Int)<(r.1.zf:Int)+more):=by
 have BC:∀(i j:Nat) (r u:Tk×Mk),i<j→I[i]?=some r→I[j]?=some u→r.1.zf<u.1.zf:=λi j r u hij hr hu=>by
  have h1:=zl.inc hP i j r u hr hu hij;have h2:=zl.sum hP i r hr;omega
 induction hsc with
 |@stop n df h0=>
  refine⟨λi r h1 h2=>by omega,λ_=>⟨h,λi r h1 hr=>?_⟩⟩;rcases Nat.lt_or_ge n i with hlt|hge
  ·have hl:=(List.getElem?_eq_some_iff.1 hr).1
   have hn:I[n]?=some (I[n]'(by omega)):=List.getElem?_eq_getElem _;have h3:=h0 _ hn;have h4:=BC n i _ r hlt hn hr;omega
  ·have:i=n:=by omega
   subst this;exact h0 r hr
 |@skip n n' df zK B r hr hlt _ ih=>
  have hm:Yt s T D F I (n+1) df q.1.zf q.2:=by
   rcases h with h|⟨i0,r0,b0,k0,J,d0,h1,h2⟩
   ·exact .inl h
   ·exact .inr ⟨i0,r0,b0,k0,J,d0,by omega,h2⟩
  obtain⟨i1,i2⟩:=ih (λi r' h1=>hT i r' (by omega)) hm;refine⟨λi r' h1 h2 hr'=>?_,i2⟩;rcases Nat.lt_or_ge n i with hl|hl
  ·exact i1 i r' (by omega) h2 hr'
  ·have:i=n:=by omega
   subst this;rw[hr]at hr';cases hr';exact⟨by omega,λe=>by omega⟩
 |@diff n n' df yN zK B r hr heq hsa _ ih=>
  subst hX;obtain⟨a1,a2⟩:=h.answer hP hr (hT n r (Nat.le_refl _) hr heq) hk NG hsa;obtain⟨i1,i2⟩:=ih (λi r' h1=>hT i r' (by omega)) a2;refine⟨λi r' h1 h2 hr'=>?_,i2⟩;rcases Nat.lt_or_ge n i with hl|hl
  ·exact i1 i r' (by omega) h2 hr'
  ·have:i=n:=by omega
   subst this;rw[hr]at hr';cases hr';exact⟨by omega,λ_=>a1⟩
 |@hit n df yN r hr heq hsa=>
  exact⟨λi r h1 h2=>by omega,λhB=>by cases hB⟩
theorem zjk{more:Int}{n0:Nat}{a0:Nat}{m0:Mk}(hT:∀(i:Nat) (r:Tk×Mk) (b:Nat),n0≤i→I[i]?=some r→(r.1.zf:Int)+more=(b:Int)→Tl s T r.1.zf b)(hm0:m0.zf≤m0.en)(hm1:m0.en≤F.length):
  ∀{l:List ((Tk×Mk)×Lx)} {n1:Nat} {df yN:Int},Rr I D more l n0 df n1 yN→df= -1→∀{its:List (Tk×Mk)} {a:Nat} {m:Mk},l=(its.map λq=>(q,zi q.2 F))→zl T F a0 m0 its a m→
  Yt s T D F I n1 yN a m∧(∀i r q,n0≤i→I[i]?=some r→q∈its→(r.1.zf:Int)+more=(q.1.zf:Int)→zi q.2 F≠zi r.2 D)∧(∀i r,n0≤i→i<n1→I[i]?=some r→(r.1.zf:Int)+more<(a:Int))∧n0≤n1:=by
 intro l n1 df yN hrr
 induction hrr with
 |@nil n df=>
  intro hdf its a m hl hp;have:its=[]:=by
   cases its with
   |nil=>rfl
   |cons q l=>simp at hl
  subst this;exact⟨.inl hdf,λi r q _ _ hq=>by simp at hq,λi r h1 h2=>by omega,Nat.le_refl _⟩
 |@snoc l q X n n1 n2 df yN df2 hr hsc ih=>
  intro hdf its a m hl hp;rcases List.eq_nil_or_concat its with rfl|⟨zm4,q',rfl⟩
  ·simp at hl
  ·rw[List.concat_eq_append]at hl hp
   rw[List.map_append]at hl;have h2:=List.append_inj' hl rfl;have e2:q=q'∧X=zi q'.2 F:=by
    have:=h2.2;simp at this;exact this
   obtain⟨rfl,rfl⟩:=e2;obtain⟨c,u,p1,p2⟩:=hp.split;obtain⟨i1,i2,i3,i4⟩:=ih hT hdf h2.1 p1;have hc:q.1.zf=c:=by rw[p2.2.2.1];exact(jB _ p2.1).1
   have hu:q.2=u:=p2.2.1;rw[←hc,←hu]at p1 p2 i1;rw[←hc]at i3;have hle:=(zl.le p1).2.2.2.2 hm0 hm1;have hen:=(zl.le hp).2.2.1;have hqe:=zl.sum p2 0 q rfl;obtain⟨s1,s2⟩:=Yt.scan hP hsc rfl (λi r h1 hr he=>hT i r _ (by omega) hr he) hle.1 hle.2 i1;obtain⟨s3,s4⟩:=s2 rfl;have hn:=hsc.le.1;refine⟨?_,λi r p h1 hr' hp' he=>?_,λi r h1 h3 hr'=>?_,by omega⟩
   ·rcases s3 with h|⟨i0,r0,b0,k0,J,d0,g1,g2,g3,g4,g5,g6,g7⟩
    ·exact .inl h
    ·exact .inr ⟨i0,r0,b0,k0,J++ [q],d0,g1,g2,g3,g4,g5,g6.app p2,g7⟩
   ·rw[List.concat_eq_append]at hp'
    rcases List.mem_append.1 hp' with hq|hq
    ·exact i2 i r p h1 hr' hq he
    ·have:p=q:=by simpa using hq
     subst this;rcases Nat.lt_or_ge i n1 with hi|hi
     ·have:=i3 i r h1 hi hr'
      omega
     ·rcases Nat.lt_or_ge i n2 with hi2|hi2
      ·exact(s1 i r hi hi2 hr').2 he
      ·have:=s4 i r hi2 hr'
       omega
   ·rcases Nat.lt_or_ge i n1 with hi|hi
    ·have:=i3 i r h1 hi hr'
     omega
    ·have:=(s1 i r hi h3 hr').1
     omega
theorem zjl{more:Int}{n0:Nat}{a0:Nat}{m0:Mk}(hT:∀(i:Nat) (r:Tk×Mk) (b:Nat),n0≤i→I[i]?=some r→(r.1.zf:Int)+more=(b:Int)→Tl s T r.1.zf b)(hm0:m0.zf≤m0.en)(hm1:m0.en≤F.length)
 {its:List (Tk×Mk)}{n1:Nat}{yN:Int}{a':Nat}{m':Mk}(hr:Rr I D more (its.map λq=>(q,zi q.2 F)) n0 (-1) n1 yN)(hp:zl T F a0 m0 its a' m'):
  (∀i r q,n0≤i→I[i]?=some r→q∈its→(r.1.zf:Int)+more=(q.1.zf:Int)→zi q.2 F≠zi r.2 D)∧
  ∀q n2 zK,q.2=m'→q.1.zf=a'→Sc I D more q (zi m' F) n1 yN n2 zK true→n0≤n2∧(∀i r,n0≤i→i<n2→I[i]?=some r→(r.1.zf:Int)+more≤(a':Int)∧((r.1.zf:Int)+more=(a':Int)→zi m' F≠zi r.2 D))∧∃r,I[n2]?=some r∧(r.1.zf:Int)+more=(a':Int)∧zi m' F=zi r.2 D:=by
 obtain⟨h1,h2,h3,h4⟩:=zjk hP hT hm0 hm1 hr rfl rfl hp;refine⟨h2,λq n2 zK hq1 hq2 hsc=>?_⟩;subst hq1 hq2;have hle:=(zl.le hp).2.2.2.2 hm0 hm1;obtain⟨s1,_⟩:=Yt.scan hP hsc rfl (λi r h1 hr he=>hT i r _ (by omega) hr he) hle.1 hle.2 h1;have hn:=hsc.le.1;obtain⟨r,oH,r1,r2,r3⟩:=hsc.hits;obtain⟨o1,o2,_⟩:=NF hP r1;refine⟨by omega,λi r h5 h6 hr'=>?_,r,r1,r2,r3.same o1 o2 hle.1 hle.2⟩;rcases Nat.lt_or_ge i n1 with hi|hi
 ·have:=h3 i r h5 hi hr'
  exact⟨by omega,λe=>by omega⟩
 ·exact s1 i r hi h6 hr'
end
def OB(I:List (Tk×Mk))(D:List Dl)(I':List (Tk×Mk))(D':List Dl)(at' dl:Nat)(more:Int)(hd tail:Nat):Prop:=
 hd+tail≤I.length∧(∀i q,I[i]?=some q→(i<hd↔q.1.en+2≤at'))∧
 (∀(i j:Nat) (r q:Tk×Mk),i<I.length-tail→at'+dl≤r.1.zf→I[i]?=some r→I'[j]?=some q→(r.1.zf:Int)+more=(q.1.zf:Int)→zi q.2 D'≠zi r.2 D)∧
 (0<tail→∃(r:Tk×Mk) (j:Nat) (q:Tk×Mk),I[I.length-tail]?=some r∧at'+dl≤r.1.zf∧I'[j]?=some q∧(r.1.zf:Int)+more=(q.1.zf:Int)∧zi q.2 D'=zi r.2 D)
theorem zh1{s d n:ByteArray}{at':Nat}{D:List Dl}{I:List (Tk×Mk)}{E:Mk}(hP:zl s D 0 Mk.zero I s.size E)(hE:E.en=D.length)(hfit:at'+d.size≤s.size){k:Nat}(hk:k≤I.length)(hlo:∀i q,i<k→I[i]?=some q→qM at' d.size q.1=false)(hlo2:∀i q,k≤i→I[i]?=some q→qM at' d.size q.1=true)
 {F:List Dl}{its:List (Tk×Mk)}{a1:Nat}{m1:Mk}(hB:zl (xP s at' d n) F (kN I k) (zH I E k) its a1 m1)(hF:F.take (zH I E k).en=D.take (zH I E k).en)(hm:m1.en=F.length){n0 n1 tail:Nat}{yN:Int}(hhi0:∀i q,i<n0→I[i]?=some q→qN at' d.size q.1=false)(hhi:∀i q,n0≤i→I[i]?=some q→qN at' d.size q.1=true)
 (hr:Rr I D ((n.size:Int)-(d.size:Int)) (its.map λq=>(q,zi q.2 F)) n0 (-1) n1 yN)
 (hend:(tail=0∧a1=(xP s at' d n).size)∨(∃q n2 zK,q.2=m1∧q.1.zf=a1∧Sc I D ((n.size:Int)-(d.size:Int)) q (zi m1 F) n1 yN n2 zK true∧n2<I.length∧tail=I.length-n2)):
  OB I D (I.take k++its++(I.drop (I.length-tail)).map λq=>(q.1.mv s.size (xP s at' d n).size,q.2.mv F.length (zH I E (I.length-tail)).en)) (F++D.drop (zH I E (I.length-tail)).en) at' d.size ((n.size:Int)-(d.size:Int)) k tail:=by
 have hz:=J4 (n:=n) hfit;have aN:=hr.le.1;obtain⟨_,_,hkt,hmv,_⟩:=aJ hP hE hfit hk hlo hB hF hm (n0:=n0) (tail:=tail) hhi (by
  rcases hend with h|⟨q,n2,zK,h1,h2,h3,h4,h5⟩
  ·exact .inl h
  ·exact .inr ⟨q,n1,yN,n2,zK,aN,h1,h2,h3,h4,h5⟩)
 obtain⟨hA0,_⟩:=hP.cut hk;have wK:=(zl.le hA0).2.2.2.2 (Nat.le_refl _) (Nat.zero_le _);have hBl:=zl.le hB;have hm1:=hBl.2.2.2.2 wK.1 (by omega);have hT:∀(i:Nat) (r:Tk×Mk) (b:Nat),n0≤i→I[i]?=some r→(r.1.zf:Int)+((n.size:Int)-(d.size:Int))=(b:Int)→Tl s (xP s at' d n) r.1.zf b:=λi r b hi hr' he=>by
  have hpr:=hhi i r hi hr';unfold qN at hpr;simp only[decide_eq_true_eq]at hpr;have:=zl.sum hP i r hr';exact aI hfit hpr (by omega) (by omega)
 obtain⟨h2,h3⟩:=zjl hP hT wK.1 (by omega) hr hB;have hno:∀i r,at'+d.size≤r.1.zf→I[i]?=some r→n0≤i:=λi r h hi=>by
  refine Classical.byContradiction λhn=>?_;have:=hhi0 i r (by omega) hi;unfold qN at this;simp at this;omega
 have BC:∀(i j:Nat) (r u:Tk×Mk),i<j→I[i]?=some r→I[j]?=some u→r.1.zf<u.1.zf:=λi j r u hij hr hu=>by
  have h1:=zl.inc hP i j r u hr hu hij;have h2:=zl.sum hP i r hr;omega
 have hmk:∀m:Mk,m.en≤F.length→zi m (F++D.drop (zH I E (I.length-tail)).en)=zi m F:=λm hm=>VA (by rw[List.take_append_of_le_length hm]);have hsum:=zl.sum hB;refine⟨hkt,λi q hi=>⟨λh=>?_,λh=>?_⟩,λi j r q hi hat hr' hj he=>?_,λhtl=>?_⟩
 ·have:=hlo i q h hi
  unfold qM at this;simp at this;omega
 ·refine Classical.byContradiction λhn=>?_
  have:=hlo2 i q (by omega) hi;unfold qM at this;simp at this;omega
 ·have hin:=hno i r hat hr'
  rw[List.getElem?_append]at hj;by_cases hj1:j<(I.take k++its).length
  ·rw[if_pos hj1,List.getElem?_append]at hj
   by_cases hj2:j<(I.take k).length
   ·rw[if_pos hj2,List.getElem?_take]at hj
    have hjk:j<k:=by rw[List.length_take]at hj2;omega
    rw[if_pos hjk]at hj;have:=hlo j q hjk hj;unfold qM at this;simp at this;have:=zl.sum hP j q hj;omega
   ·rw[if_neg hj2]at hj
    have hq:=List.mem_of_getElem? hj;have hen:=(hsum _ q hj).2.2.2.2.2.2;rw[hmk q.2 (by omega)];exact h2 i r q hin hr' hq he
  ·rw[if_neg hj1,List.getElem?_map]at hj
   rcases hend with⟨rfl,_⟩|⟨q0,n2,zK,e1,e2,hsc,e4,rfl⟩
   ·rw[List.drop_eq_nil_of_le (by omega)]at hj
    simp at hj
   ·rw[show I.length-(I.length-n2)=n2 by omega]at hi hj hmv
    obtain⟨g1,g2,r2,g3,g4,_⟩:=h3 q0 n2 zK e1 e2 hsc
    cases hu:(I.drop n2)[j-(I.take k++its).length]? with
    |none=>rw[hu]at hj;cases hj
    |some u=>
     rw[hu]at hj;simp only[Option.map_some,Option.some.injEq]at hj;subst hj;have hu2:=hu;rw[List.getElem?_drop]at hu;have h5:=BC i _ r u (show i<n2+(j-(I.take k++its).length) by omega) hr' hu;have h6:=(hmv u (List.mem_of_getElem? hu2)).1;simp only[Tk.mv]at he;omega
 ·rcases hend with⟨rfl,_⟩|⟨q0,n2,zK,e1,e2,hsc,e4,rfl⟩
  ·omega
  ·rw[show I.length-(I.length-n2)=n2 by omega]at hmv hmk ⊢
   obtain⟨g1,g2,r2,g3,g4,g5⟩:=h3 q0 n2 zK e1 e2 hsc;have hpr:=hhi n2 r2 g1 g3;unfold qN at hpr;simp only[decide_eq_true_eq]at hpr;have eat:zH I E n2=r2.2:=by unfold zH;rw[g3]
   rw[eat]at hmv hmk ⊢;obtain⟨hC0,hC⟩:=hP.from g3
   have hrl:=(zl.le hC0).2.2.2.2 (Nat.le_refl _) (Nat.zero_le _);have hdr:(I.drop n2)[0]?=some r2:=by rw[List.getElem?_drop];exact g3
   have h7:=(hmv r2 (List.mem_of_getElem? hdr)).1;have hlen:m1.en-m1.zf=r2.2.en-r2.2.zf:=by
    have:=congrArg (λx=>x.pend.length) g5;simp only[zi,List.length_drop,List.length_take]at this;omega
   have hrm:r2.2.mv F.length r2.2.en=m1:=by
    have e1:=congrArg Lx.await g5;have e2:=congrArg Lx.body g5;simp only[zi]at e1 e2;obtain⟨x1,x2,x3,x4⟩:=m1;obtain⟨t2,y1,y2,y3,y4⟩:=r2;simp only[Mk.mv,Mk.mk.injEq]at*;exact⟨e1.symm,e2.symm,by omega,by omega⟩
   refine⟨r2,(I.take k++its).length,(r2.1.mv s.size (xP s at' d n).size,r2.2.mv F.length r2.2.en),g3,hpr,?_,?_,?_⟩
   ·rw[List.getElem?_append_right (Nat.le_refl _),Nat.sub_self,List.getElem?_map,hdr]
    rfl
   ·simp only[Tk.mv]
    omega
   ·show zi (r2.2.mv F.length r2.2.en) _=_
    rw[hrm,hmk m1 (by omega)];exact g5
end Go.Proofs.YtdjcidackkogjaaGreatDoor

/- What reread of a reader of layer 10 (relex) return -/
import Derived.Test.YtdjcidackkogjaaGreatDoorRe
import Derived.Test.YtdjcidackkogjaaGreatDoorRb
namespace Go.Proofs.YtdjcidackkogjaaGreatDoor
set_option linter.unusedSectionVars false
set_option linter.unusedVariables false
open Lib(hid)
set_option maxHeartbeats 8000000
set_option maxRecDepth 100000
open Go.RowKit
attribute [local go_sem] Oper.semAt_some
def UE(w:World)(b rb:Nat)(T:ByteArray)(a0:Nat)(m0:Mk)(F0:List Dl)(I:List (Tk×Mk))(D:List Dl)(more:Int)(n0:Nat)(e:Ending)(w':World):Prop:=
 ∃(its:List (Tk×Mk)) (n1:Nat) (yN:Int) (a':Nat) (m':Mk) (F':List Dl) (jZ:Option Addr) (ZJ YP:Nat) (zK:Int) (fo:Option Addr) (fc tail:Nat),
  e=.returned (.tuple #[.slice fo its.length fc,.int .i64 (tail:Int)])∧w'.ownsRow w.heap.size 82 8 (.slice fo its.length fc) its.length (zF its)∧
  zh w' rb (yT b T a' m' (.slice jZ ZJ YP) zK) 97∧Src w' (.slice jZ ZJ YP) ZJ (zx F')∧ZJ=F'.length∧m'.en=F'.length∧ZJ≤YP∧(∀g,(Value.slice jZ ZJ YP).ownBlock=some g→g≠rb)∧
  zl T F' a0 m0 its a' m'∧F'.take m0.en=F0∧zg (λk=>k=rb) w w'∧Rr I D more (its.map λq=>(q,zi q.2 F')) n0 (-1) n1 yN∧
  ((tail=0∧a'=T.size)∨(∃q n2,q.2=m'∧q.1.zf=a'∧Sc I D more q (zi m' F') n1 yN n2 zK true∧n2<I.length∧tail=I.length-n2))
theorem ziX{p q:Tk×Mk}(h:qQ p=qQ q):p=q:=by
 obtain⟨⟨a1,a2,a3,a4⟩,⟨b1,b2,b3,b4⟩⟩:=p;obtain⟨⟨c1,c2,c3,c4⟩,⟨d1,d2,d3,d4⟩⟩:=q;unfold qQ at h;simp only[Value.agg.injEq,Array.mk.injEq,List.cons.injEq,Value.int.injEq,Value.bool.injEq,true_and,and_true]at h;obtain⟨h1,h2,h3,h4,h5,h6,h7,h8⟩:=h;have e1:a1=c1:=by omega
 have e2:a2=c2:=by omega
 have e3:a3=c3:=by omega
 have e5:b1=d1:=by omega
 have e7:b3=d3:=by omega
 have e8:b4=d4:=by omega
 subst e1 e2 e3 e5 e7 e8 h4 h6;rfl
theorem bC:∀(l k:List (Tk×Mk)),l.map (λq=> #[qQ q])=k.map (λq=> #[qQ q])→l=k
 | [],[],_=>rfl
 | [],_::_,h=>by simp at h
 |_::_,[],h=>by simp at h
 |p::l,q::k,h=>by
  simp only[List.map_cons,List.cons.injEq,Array.mk.injEq,and_true]at h;rw[ziX h.1,bC l k h.2]
theorem ziY{its KQ:List (Tk×Mk)}{pre:List ((Tk×Lx)×Array Value)}{p:(Tk×Lx)×Array Value}(h:pre.map Prod.snd=its.map (λq=> #[qQ q]))(h1:(pre++ [p]).map Prod.snd=KQ.map (λq=> #[qQ q])):∃q,KQ=its++ [q]∧p.2=#[qQ q]:=by
 have hl:=congrArg List.length h1;simp only[List.length_map,List.length_append,List.length_singleton]at hl;rcases List.eq_nil_or_concat KQ with rfl|⟨l,q,rfl⟩
 ·simp at hl
 ·rw[List.concat_eq_append]at h1 ⊢
  rw[List.map_append,h]at h1;simp only[List.map_append,List.map_cons,List.map_nil]at h1;have h2:=List.append_inj' h1 rfl;refine⟨q,by rw[bC _ _ h2.1],?_⟩;simpa using h2.2
theorem UF{T:ByteArray}{a0:Nat}{m0:Mk}{F0:List Dl}{its:List (Tk×Mk)}{a:Nat}{m:Mk}{F:List Dl}{zq:List ((Tk×Lx)×Array Value)}(hp:zl T F a0 m0 its a m)(htk:F.take m0.en=F0)(rU:F0.take m0.en=F0)
 (hv:zq.map Prod.snd=its.map (λq=> #[qQ q]))(hL:vO T (T.size-a0) a0 (zi m0 F0)=zq.map Prod.fst++vO T (T.size-a) a (zi m F)):∀(j:Nat) (q:Tk×Mk),its[j]?=some q→(jL (zi m0 F0) zq)[j]?=some (zi q.2 F):=by
 have hX:zi m0 F=zi m0 F0:=VA (by rw[rU];exact htk.symm)|>.symm;obtain⟨L,h1,h2,_,h4⟩:=zl.nV hp;rw[hX,hL]at h1;have hlen:(zq.map Prod.fst).length=L.length:=by
  have e1:=congrArg List.length h2;have e2:=congrArg List.length hv;simp only[List.length_map]at e1 e2 ⊢;omega
 have Y2:=(List.append_inj h1 hlen).1;intro j q hj
 cases j with
 |zero=>
  cases its with
  |nil=>simp at hj
  |cons p its=>
   simp at hj;subst hj;have:=hp.2.1;show some (zi m0 F0)=some (zi p.2 F);rw[this,hX]
 |succ j=>
  obtain⟨r,hr1,hr2⟩:=h4 j q hj;rw[←Y2]at hr1;show(zq.map λp=>p.1.2)[j]?=some (zi q.2 F);rw[List.getElem?_map]at hr1 ⊢
  cases UG:zq[j]? with
  |none=>rw[UG]at hr1;cases hr1
  |some p9=>
   rw[UG]at hr1;simp only[Option.map_some,Option.some.injEq]at hr1 ⊢;rw[hr1,hr2]
def Nj(w:World)(z y rb:Nat)(I:List (Tk×Mk))(D:List Dl)(M:Int)(X0:Lx)(oi:Option Addr)(ni ci n0:Nat)(pre:List ((Tk×Lx)×Array Value))(TT:Nat→Prop)(W:World):Prop:=
 ∃(its:List (Tk×Mk)) (nn:Nat) (df:Int) (v:Value),zh W z #[.pointer (some ⟨rb,0,none⟩)] 75∧zh W (z+1+1) #[v] 64∧W.ownsRow z 82 8 v its.length (zF its)∧(∀g,v.ownBlock=some g→¬TT g∧y+5≤g)∧
  zh W (z+1+1+1) #[.int .i64 0] 3∧zh W (z+4) #[.slice oi ni ci] 64∧zh W y #[.int .i64 (nn:Int)] 3∧zh W (y+1) #[.int .i64 M] 3∧
  W.cell? ⟨rb,8,none⟩=some (.int .i64 df)∧pre.map Prod.snd=its.map (λq=> #[qQ q])∧Rr I D M (RI X0 its pre) n0 (-1) nn df∧(∀k,TT k→y+5≤k)∧y+5≤W.heap.size∧zg (λk=>k=rb) w W∧nn≤ni
theorem Nj.Zn{w:World}{z y rb:Nat}{I:List (Tk×Mk)}{D:List Dl}{M:Int}{X0:Lx}{oi:Option Addr}{ni ci n0:Nat}(h1:rb<z)(h2:z+4<y)(h3:w.heap.size=z):UH (λk=>k=rb) (wZ rb) (y+4) (Nj w z y rb I D M X0 oi ni ci n0):=by
 rintro pre TT W W' T' ⟨its,nn,df,v,b2,b4,ho,hv,b5,b6,b7,b8,hc,hi,hr,hT,hW,hF,hn⟩ hf hk hT';have no:∀k,k<y+4→k≠rb→¬((TT k∨k=rb)∨k=y+4):=λk a1 a2 hh=>by
  rcases hh with(e|e)|e
  ·have:=hT k e;omega
  ·exact a2 e
  ·omega
 have hs:=hf.size;refine⟨its,nn,df,v,b2.zf hf (no _ (by omega) (by omega)),b4.zf hf (no _ (by omega) (by omega)),zQ hf ho (λg hg hh=>?_),λg hg=>⟨λhh=>?_,(hv g hg).2⟩,b5.zf hf (no _ (by omega) (by omega)),b6.zf hf (no _ (by omega) (by omega)),b7.zf hf (no _ (by omega) (by omega)),b8.zf hf (no _ (by omega) (by omega)),hk _ hc,hi,hr,λk hh=>?_,by omega,?_,hn⟩
 ·have h9:=hv g hg
  rcases hh with(e|e)|e
  ·exact h9.1 e
  ·omega
  ·omega
 ·rcases hT' g hh with e|e
  ·exact(hv g hg).1 e
  ·have:=ji ho g hg;omega
 ·rcases hT' k hh with e|e
  ·exact hT k e
  ·omega
 ·refine hF.trans hf (λk hk2 hh=>?_)
  rcases hh with(e|e)|e
  ·have:=hT k e;omega
  ·exact e
  ·omega
def RJ(w:World)(z y rb b:Nat)(T:ByteArray)(a0:Nat)(m0:Mk)(F0:List Dl)(I:List (Tk×Mk))(D:List Dl)(M:Int)(n0:Nat)(C0:Code)(c:Code)(pre:List ((Tk×Lx)×Array Value))(TT:Nat→Prop)(W:World):Prop:=
 c=C0∧∃(its:List (Tk×Mk)) (nn n2:Nat) (df df2:Int) (v:Value) (q:Tk×Mk) (F:List Dl) (og:Option Addr) (ng cg:Nat),zh W z #[.pointer (some ⟨rb,0,none⟩)] 75∧zh W (z+1+1) #[v] 64∧W.ownsRow z 82 8 v its.length (zF its)∧(∀g,v.ownBlock=some g→y+5≤g)∧
  zh W (z+1+1+1) #[.int .i64 ((I.length:Int)-(n2:Int))] 3∧zh W rb (yT b T q.1.zf q.2 (.slice og ng cg) df2) 97∧Src W (.slice og ng cg) ng (zx F)∧ng=F.length∧ng≤cg∧(∀g,(Value.slice og ng cg).ownBlock=some g→g≠rb∧(z≤g→y+5≤g))∧
  q.2.en≤F.length∧zl T F a0 m0 its q.1.zf q.2∧F.take m0.en=F0∧Rr I D M (its.map λr=>(r,zi r.2 F)) n0 (-1) nn df∧Sc I D M q (zi q.2 F) nn df n2 df2 true∧n2<I.length∧y+5≤W.heap.size∧zg (λk=>k=rb) w W
theorem RJ.Zn{w:World}{z y rb b:Nat}{T:ByteArray}{a0:Nat}{m0:Mk}{F0:List Dl}{I:List (Tk×Mk)}{D:List Dl}{M:Int}{n0:Nat}{C0:Code}(h1:rb<z)(h2:z+4<y)(h3:w.heap.size=z)(c:Code):UI (y+4) (RJ w z y rb b T a0 m0 F0 I D M n0 C0 c):=by
 rintro pre TT W W' ⟨hc,its,nn,n2,df,df2,v,q,F,og,ng,cg,b2,b4,ho,hv,b5,kr,hs,hl,hcap,hg,hq,hp,hF,hr,hsc,hn,hy,hw⟩ hf;have hs':=hf.size;refine⟨hc,its,nn,n2,df,df2,v,q,F,og,ng,cg,b2.zf hf (by omega),b4.zf hf (by omega),zQ hf ho (λg hg e=>by have:=hv g hg;omega),hv,b5.zf hf (by omega),kr.zf hf (by omega),hs.zf hf (λg hg' e=>?_),hl,hcap,hg,hq,hp,hF,hr,hsc,hn,by omega,hw.trans hf (λk hk e=>by omega)⟩;have:=hg g hg';omega
theorem ziZ{T:ByteArray}{a:Nat}{X:Lx}(h:vO T (T.size-a) a X=[])(hle:a≤T.size):a=T.size:=by
 rcases Nat.lt_or_ge a T.size with g|g
 ·rw[Nh X g]at h;cases h
 ·omega
def RN(w:World)(z y rb b:Nat)(T:ByteArray)(a0:Nat)(m0:Mk)(F0:List Dl)(I:List (Tk×Mk))(D:List Dl)(M:Int)(n0:Nat)(v:Value)(its:List (Tk×Mk))(tail:Nat)(a':Nat)(m':Mk)(F:List Dl)(og:Option Addr)(ng cg:Nat)(df2:Int)(W:World):Prop:=
 ∃(nn:Nat) (df:Int),W.ownsRow z 82 8 v its.length (zF its)∧(∀g,v.ownBlock=some g→y+5≤g)∧Src W (.slice og ng cg) ng (zx F)∧ng=F.length∧ng≤cg∧(∀g,(Value.slice og ng cg).ownBlock=some g→g≠rb∧(z≤g→y+5≤g))∧
  m'.en≤F.length∧zl T F a0 m0 its a' m'∧F.take m0.en=F0∧Rr I D M (its.map λr=>(r,zi r.2 F)) n0 (-1) nn df∧((tail=0∧a'=T.size∧m'.en=F.length)∨(∃q n2,q.2=m'∧q.1.zf=a'∧Sc I D M q (zi m' F) nn df n2 df2 true∧n2<I.length∧tail=I.length-n2))∧y+5≤W.heap.size∧zg (λk=>k=rb) w W
theorem zi0{α β:Type}(f:α→β):∀(l:List α) (k:List β),(∀(j:Nat) (q:α),l[j]?=some q→k[j]?=some (f q))→l.zip k=l.map (λr=>(r,f r)):=by
 intro l
 induction l with
 |nil=>intro k _;rfl
 |cons a l ih=>
  intro k h
  cases k with
  |nil=>have:=h 0 a rfl;simp at this
  |cons b k=>
   have h0:=h 0 a rfl;simp at h0;rw[List.zip_cons_cons,List.map_cons,h0,ih k (λj q hj=>by have:=h (j+1) q (by simpa using hj);simpa using this)]
theorem UJ{X0:Lx}{its:List (Tk×Mk)}{zq:List ((Tk×Lx)×Array Value)}{F:List Dl}(h:∀(j:Nat) (q:Tk×Mk),its[j]?=some q→(jL X0 zq)[j]?=some (zi q.2 F)):RI X0 its zq=its.map λr=>(r,zi r.2 F):=
 zi0 (λr:Tk×Mk=>zi r.2 F) its _ h
theorem RN.done{w:World}{z y rb b:Nat}{T:ByteArray}{a0:Nat}{m0:Mk}{F0:List Dl}{I:List (Tk×Mk)}{D:List Dl}{M:Int}{n0:Nat}{its:List (Tk×Mk)}{tail a':Nat}{m':Mk}{F:List Dl}{og:Option Addr}{ng cg:Nat}{df2:Int}{W Wg:World}{fo:Option Addr}{fc:Nat}
 (h:RN w z y rb b T a0 m0 F0 I D M n0 (.slice fo its.length fc) its tail a' m' F og ng cg df2 W)(hf:zg (λk=>k=rb∨k=z+1+1∨k=z+1+1+1∨k=y+3) W Wg)(hzz:w.heap.size=z)(Nk:z+4<y)(hrz:rb<z)(rU:F0.take m0.en=F0)(hm0:m0.zf≤m0.en)(hm1:m0.en=F0.length)
 (kr:zh Wg rb (yT b T a' m' (.slice og m'.en cg) df2) 97):UE w b rb T a0 m0 F0 I D M n0 (.returned (.tuple #[.slice fo its.length fc,.int .i64 (tail:Int)])) Wg:=by
 obtain⟨nn,df,ho,hv,hs,hl,hc,hg,hen,hp,htk,hr,hend,hy,hw⟩:=h;have hle:=zl.le hp;have zmR:m0.en≤F.length:=by
  have:=congrArg List.length htk;rw[List.length_take]at this;omega
 have hno:∀g,z≤g→y+5≤g→¬(g=rb∨g=z+1+1∨g=z+1+1+1∨g=y+3):=λg h1 h2 hh=>by omega
 have Vp:(F.take m'.en).length=m'.en:=by rw[List.length_take];omega
 have hmk:∀r:Mk,r.en≤m'.en→zi r (F.take m'.en)=zi r F:=λr hr=>VA (by rw[List.take_take,Nat.min_eq_left hr]);refine⟨its,nn,df,a',m',F.take m'.en,og,m'.en,cg,df2,fo,fc,tail,rfl,?_,kr,?_,Vp.symm,Vp.symm,by omega,λg hg'=>?_,?_,?_,?_,?_,?_⟩
 ·rw[hzz]
  exact zQ hf ho (λg hg'=>hno g (yH ho g hg') (hv g hg'))
 ·have hs2:Src Wg (.slice og ng cg) ng (zx F):=hs.zf hf (λg hg' hh=>by
   have h1:=hg g (by have h9:=hg';cases og<;>exact h9);rcases Nat.lt_or_ge g z with h2|h2
   ·omega
   ·exact hno g h2 (h1.2 h2) hh)
  have e9:zx (F.take m'.en)=(zx F).take (m'.en*2):=by
   have:=rQ (D:=F) (a:=0) (b:=m'.en) hen;simpa using this
  rw[e9];rcases Nat.eq_zero_or_pos ng with h0|h0
  ·have hz0:m'.en=0:=by omega
   rw[hz0];rcases hs2 with⟨e1,_,_⟩|⟨g,off,c,e1,e2,_⟩
   ·injection e1 with e3 e4 e5
    exact .inl ⟨by rw[e3,e5],rfl,by simp⟩
   ·injection e1 with e3 e4 e5
    exact .inr ⟨g,off,cg,by rw[e3],e2,λj u hj=>by simp at hj⟩
  ·exact Src.take (k:=2) hs2 (by omega) h0
 ·exact(hg g (by have h9:=hg';cases og<;>exact h9)).1
 ·exact zl.take hp (by rw[List.take_take,Nat.min_self]) (by omega)
 ·rw[List.take_take,Nat.min_eq_left hle.2.1];exact htk
 ·refine hw.trans hf (λk hk hh=>?_)
  rcases hh with e|e|e|e
  ·exact e
  ·omega
  ·omega
  ·omega
 ·have:(its.map λq=>(q,zi q.2 (F.take m'.en)))=its.map λq=>(q,zi q.2 F):=List.map_congr_left (λq hq=>by
   obtain⟨i,hi⟩:=List.getElem?_of_mem hq;have h9:=(zl.sum hp i q hi).2.2.2.2.2.2;rw[hmk q.2 h9])
  rw[this];exact hr
 ·rcases hend with⟨h1,h2,_⟩|⟨q,n2,h1,h2,h3,h4,h5⟩
  ·exact .inl ⟨h1,h2⟩
  ·exact .inr ⟨q,n2,h1,h2,by rw[hmk m' (Nat.le_refl _)];exact h3,h4,h5⟩
theorem UK:(Tryz.prog.info? 82).map (λi=>(i.zero,i.size,i.bytes))=some (some (.agg #[.int .i64 0,.int .i64 0,.int .i64 0,.bool false,.int .i64 0,.bool false,.int .i64 0,.int .i64 0]),8,64):=by kernel_rfl
theorem UL{W:World}{b:Nat}{x:Tk×Mk}(h:zh W b #[.int .i64 (x.1.kind:Int),.int .i64 (x.1.zf:Int),.int .i64 (x.1.en:Int),.bool x.1.op,.int .i64 (x.2.await:Int),.bool x.2.body,.int .i64 (x.2.zf:Int),.int .i64 (x.2.en:Int)] 82):Src W (.slice (some ⟨b,0,none⟩) 1 1) 1 (jJ x):=by
 refine .inr ⟨_,0,1,rfl,h.lt,λj u hj=>?_⟩;rw[Nat.zero_add,h.cell j];simpa[jJ]using hj
theorem UM{b b':Nat}{T T':ByteArray}{a a':Nat}{m m':Mk}{pv pv':Value}{df zK:Int}(h:yT b T a m pv df=yT b' T' a' m' pv' zK)(x:Int):yT b T a m pv x=yT b' T' a' m' pv' x:=by
 unfold yT at*
 simp_all
theorem UN{W:World}{b:Nat}{c c':Array Value}{t t':TypeId}(h:zh W b c t)(h':zh W b c' t'):c=c':=by
 have:=Option.some.inj (Eq.trans (Eq.symm h) h');injection this
theorem zi1{F:Fence}{n:Nat}{P:Program}{c:Code}{Q:Exit→Act→World→Prop}{a:Act}{w:World}(WF:World)(h1:∀a',Q .normal a' WF)(h2:c.wpIn F n P (λe _ w'=>e=.normal∧w'=WF) a w):c.wpIn F n P Q a w:=
 wpIn_mono h2 (λe a' w' h=>by
  obtain⟨rfl,rfl⟩:=h;exact h1 a')
def bD(W:World)(b:Nat):Nat:=match W.cell? ⟨b,0,none⟩with
 |some (.int _ i)=>i.toNat
 |_=>0
theorem bG{W:World}{b k:Nat}{t:TypeId}(h:zh W b #[.int .i64 (k:Int)] t):bD W b=k:=by
 unfold bD;have:=h.cell 0;simp at this;rw[this];simp
def UO(I:List (Tk×Mk))(D:List Dl)(M:Int)(q:Tk×Mk)(X:Lx)(nn ni y rb b:Nat)(yN:Int)(T:ByteArray)(a1:Nat)(m1:Mk)(jM:Option Addr)(qC jO:Nat)(W3 wr:World):Prop:=
 ∃(k:Nat) (Yq:Int),nn≤k∧k≤ni∧zh wr y #[.int .i64 (k:Int)] 3∧zh wr rb (yT b T a1 m1 (.slice jM qC jO) Yq) 97∧(∀n' zK B,Sc I D M q X k Yq n' zK B→Sc I D M q X nn yN n' zK B)∧zg (λj=>j=y∨j=rb) W3 wr
theorem zi2(w:World)(c0 c1 c2 c3:Array Value)(t0 t1 t2 t3:TypeId):zh ((((w.alloc (.cells c0 t0)).alloc (.cells c1 t1)).alloc (.cells c2 t2)).alloc (.cells c3 t3)) w.heap.size c0 t0∧zh ((((w.alloc (.cells c0 t0)).alloc (.cells c1 t1)).alloc (.cells c2 t2)).alloc (.cells c3 t3)) (w.heap.size+1) c1 t1∧zh ((((w.alloc (.cells c0 t0)).alloc (.cells c1 t1)).alloc (.cells c2 t2)).alloc (.cells c3 t3)) (w.heap.size+1+1) c2 t2∧zh ((((w.alloc (.cells c0 t0)).alloc (.cells c1 t1)).alloc (.cells c2 t2)).alloc (.cells c3 t3)) (w.heap.size+1+1+1) c3 t3∧
  Below w.heap.size w ((((w.alloc (.cells c0 t0)).alloc (.cells c1 t1)).alloc (.cells c2 t2)).alloc (.cells c3 t3))∧((((w.alloc (.cells c0 t0)).alloc (.cells c1 t1)).alloc (.cells c2 t2)).alloc (.cells c3 t3)).heap.size=w.heap.size+4:=by
 have h1:=zh.new (w.alloc (.cells c0 t0)) c1 t1;have h2:=zh.new ((w.alloc (.cells c0 t0)).alloc (.cells c1 t1)) c2 t2;have h3:=zh.new (((w.alloc (.cells c0 t0)).alloc (.cells c1 t1)).alloc (.cells c2 t2)) c3 t3;simp only[World.size_alloc]at h1 h2 h3;refine⟨(((zh.new w c0 t0).alloc _).alloc _).alloc _,(h1.alloc _).alloc _,h2.alloc _,h3,?_,by simp only[World.size_alloc]⟩;exact((((Below.refl w.heap.size w).alloc (Nat.le_refl _) _).alloc (by rw[World.size_alloc];omega) _).alloc (by rw[World.size_alloc,World.size_alloc];omega) _).alloc (by rw[World.size_alloc,World.size_alloc,World.size_alloc];omega) _
section
variable(w:World)(b:Nat)(s:ByteArray)(I:List (Tk×Mk))(E:Mk)(D:List Dl)(oi:Option Addr)(ni ci:Nat)(od:Option Addr)(nd cd:Nat)(hV:jH w b s I E D oi ni ci od nd cd)
 (rb:Nat)(T:ByteArray)(a0:Nat)(m0:Mk)(F0:List Dl)(og:Option Addr)(ng cg:Nat)(hz:Rz w w.heap.size b rb T a0 m0 F0 [] a0 m0 F0 og ng cg (-1))(Vs:∀g,(Value.slice og ng cg).ownBlock=some g→g<w.heap.size)
 (hbr:b≠rb)(hir:∀g off,oi=some ⟨g,off,none⟩→g≠rb)(hdr:∀g off,od=some ⟨g,off,none⟩→g≠rb)(h0:0<rb)(hT:Tx w)(hs:T.size≤900)
 (at':Nat)(d n:ByteArray)(ha:at'≤1000000)(hd:d.size≤1000000)(hn:n.size≤1000000)
include hV hz Vs hbr hir hdr h0 hT hs ha hd hn
theorem zhZ:Calls Tryz.prog 34 #[.pointer (some ⟨rb,0,none⟩),.agg #[.int .i64 (at':Int),.string d,.string n]] w λe w'=>∃n0:Nat,n0≤ni∧(∀i q,i<n0→I[i]?=some q→qN at' d.size q.1=false)∧(∀i q,n0≤i→I[i]?=some q→qN at' d.size q.1=true)∧UE w b rb T a0 m0 F0 I D ((n.size:Int)-(d.size:Int)) n0 e w':=by
 have HV:=hid hV;have HZ:=hid hz;have hrb:=hz.rd.blk.lt;refine(callsIn_wide (n:=6)).1 ?_;have hfn:Fence.wide.fn 34:=trivial;obtain⟨z,hzz⟩:∃x,w.heap.size=x:=⟨_,rfl⟩;obtain⟨W0,hW0⟩:∃X,(((w.alloc (.cells #[.pointer (some ⟨rb,0,none⟩)] 75)).alloc (.cells #[.int .i64 (at':Int),.string d,.string n] 35)).alloc (.cells #[.slice none 0 0] 64)).alloc (.cells #[.int .i64 0] 3)=X:=⟨_,rfl⟩;have hf4:=zi2 w #[.pointer (some ⟨rb,0,none⟩)] #[.int .i64 (at':Int),.string d,.string n] #[.slice none 0 0] #[.int .i64 0] 75 35 64 3;rw[hW0,hzz]at hf4;obtain⟨k2,k3,k4,k5,hB0,hz0⟩:=hf4;have bH:=hz.rd.blk;unfold yT at bH;have Nl:Below w.heap.size w W0:=by rw[hzz];exact hB0
 have Zi:=bH.below Nl;have hV0:=hV.below Nl;have r0:W0.cell? ⟨rb,0,none⟩=some (.pointer (some ⟨b,0,none⟩)):=Zi.cell 0;have d1:W0.cell? ⟨b,1,none⟩=some (.slice oi ni ci):=hV0.blk.cell 1;have b2:W0.cell? ⟨z,0,none⟩=some (.pointer (some ⟨rb,0,none⟩)):=k2.cell 0;have Qc:=hid hV0;have K2:=hid (And.intro k2 (And.intro k3 (And.intro k4 k5)));have HB0:=hid Nl;have UQ:=hid Zi;clear bH hB0 Nl Zi hV0 k2 k3 k4 k5;refine callsIn_of_wp_marks Tryz.func34 rfl hfn ?_ rfl;refine(wpIn_wide (n:=6)).2 ?_;simp only[Tryz.ntmps34,List.size_toArray,List.length_cons,List.length_nil,Nat.reduceAdd,Nat.reduceSub,Array.replicate_succ,Array.replicate_zero,List.push_toArray,List.append_toArray,List.nil_append,List.cons_append]
 go_wp2_with fail
 go_step3
 go_upto_region 2 with fail
 obtain⟨W1,hW1⟩:∃X,W0.alloc (.cells #[.slice oi ni ci] 64)=X:=⟨_,rfl⟩;have hB1:Below W0.heap.size W0 W1:=by rw[←hW1];exact(Below.refl _ _).alloc (Nat.le_refl _) _
 have k6:zh W1 (z+4) #[.slice oi ni ci] 64:=by rw[←hW1,←hz0];exact zh.new _ _ _
 rw[hW1];have hV1:=Qc.out.below hB1;have yz:=UQ.out.below hB1;have K1:=hid (And.intro (K2.out.1.below hB1) (And.intro (K2.out.2.1.below hB1) (And.intro (K2.out.2.2.1.below hB1) (And.intro (K2.out.2.2.2.below hB1) k6))));have HB1:=hid (HB0.out.trans (hB1.mono HB0.out.size));have r0':W1.cell? ⟨rb,0,none⟩=some (.pointer (some ⟨b,0,none⟩)):=yz.cell 0;have b2':W1.cell? ⟨z,0,none⟩=some (.pointer (some ⟨rb,0,none⟩)):=K1.out.1.cell 0;have HF:=hid (zi3 W1 b s I E D oi ni ci od nd cd hV1 at' d n (z+1) K1.out.2.1 ha hd);have ve:=hid hV1;have UR:=hid yz;have UT:W1.heap.size=z+5:=by rw[←hW1,World.size_alloc,hz0]
 have zi4:=hid UT;clear hW1 hB1 k6 hV1 yz r0 d1 b2 Qc K2 HB0 UQ hz0 hW0 UT
 go_wp2_with fail
 refine HF.out.mono ?_;rintro e W2 ⟨n0,rfl,hn0,hlo,hhi,hb2⟩;have Ku:=hid (And.intro hn0 (And.intro hlo hhi));have UU:=hid (ve.out.below hb2);have UW:=hid (UR.out.below hb2);have K2:=hid (And.intro (K1.out.1.below hb2) (And.intro (K1.out.2.1.below hb2) (And.intro (K1.out.2.2.1.below hb2) (And.intro (K1.out.2.2.2.1.below hb2) (K1.out.2.2.2.2.below hb2)))));have HB2:=hid (HB1.out.trans (hb2.mono HB1.out.size));have hs2:=hb2.size;rw[zi4.out]at hs2;clear hlo hhi hb2 HF ve UR K1 HB1 r0' b2';obtain⟨y,hy⟩:∃y,W2.heap.size=y:=⟨_,rfl⟩;have e1:((W2.alloc (.cells #[.int .i64 (n0:Int)] 3))).cell? ⟨z+1,1,none⟩=some (.string d):=(K2.out.2.1.alloc _).cell 1;have e2:((W2.alloc (.cells #[.int .i64 (n0:Int)] 3))).cell? ⟨z+1,2,none⟩=some (.string n):=(K2.out.2.1.alloc _).cell 2
 go_upto_region 4 with fail
 go_step3
 obtain⟨W3,hW3⟩:∃X,(W2.alloc (.cells #[.int .i64 (n0:Int)] 3)).alloc (.cells #[.int .i64 ((n.size:Int)-(d.size:Int))] 3)=X:=⟨_,rfl⟩;obtain⟨M,hM⟩:∃M,(n.size:Int)-(d.size:Int)=M:=⟨_,rfl⟩;have hMb: -1000000≤M∧M≤1000000:=by omega
 have HM:=hid hM;have k7:zh W3 y #[.int .i64 (n0:Int)] 3:=by rw[←hW3,←hy];exact(zh.new _ _ _).alloc _
 have k8:zh W3 (y+1) #[.int .i64 M] 3:=by
  have:=zh.new (W2.alloc (.cells #[.int .i64 (n0:Int)] 3)) #[.int .i64 ((n.size:Int)-(d.size:Int))] 3;rw[World.size_alloc,hW3,hy,hM]at this;exact this
 have hB3:Below W2.heap.size W2 W3:=by rw[←hW3];exact((Below.refl _ _).alloc (Nat.le_refl _) _).alloc (by rw[World.size_alloc];omega) _
 have hs3:W3.heap.size=y+2:=by rw[←hW3,World.size_alloc,World.size_alloc,hy]
 rw[hW3,hM];have UX:=hid (UU.out.below hB3);have KR3:=hid (UW.out.below hB3);have K3:=hid (And.intro (K2.out.1.below hB3) (And.intro (K2.out.2.1.below hB3) (And.intro (K2.out.2.2.1.below hB3) (And.intro (K2.out.2.2.2.1.below hB3) (And.intro (K2.out.2.2.2.2.below hB3) (And.intro k7 k8))))));have HB3:=hid (HB2.out.trans (hB3.mono HB2.out.size));have b2:W3.cell? ⟨z,0,none⟩=some (.pointer (some ⟨rb,0,none⟩)):=K3.out.1.cell 0;rw[hy]at hs2;clear hW3 hM k7 k8 hB3 UU UW K2 HB2 e1 e2 hy
 go_wp2_with fail
 refine(zi5 W3 rb).mono ?_;rintro e W4 ⟨rfl,ty,rfl⟩;rw[hs3];have k9:zh (W3.alloc (.cells #[.pointer (some ⟨rb,0,none⟩)] ty)) (y+2) #[.pointer (some ⟨rb,0,none⟩)] ty:=by rw[←hs3];exact zh.new _ _ _
 have hB4:Below W3.heap.size W3 (W3.alloc (.cells #[.pointer (some ⟨rb,0,none⟩)] ty)):=(Below.refl _ _).alloc (Nat.le_refl _) _;have hs4:(W3.alloc (.cells #[.pointer (some ⟨rb,0,none⟩)] ty)).heap.size=y+3:=by rw[World.size_alloc,hs3]
 obtain⟨W4,Xp⟩:∃X,W3.alloc (.cells #[.pointer (some ⟨rb,0,none⟩)] ty)=X:=⟨_,rfl⟩;rw[Xp]at k9 hB4 hs4 ⊢;have HV4:=hid (UX.out.below hB4);have HB4:=hid (HB3.out.trans (hB4.mono HB3.out.size));have bI:=hid (HZ.out.below (by exact HB4.out));have K4:=hid (And.intro (K3.out.1.below hB4) (And.intro (K3.out.2.2.1.below hB4) (And.intro (K3.out.2.2.2.1.below hB4) (And.intro (K3.out.2.2.2.2.1.below hB4) (And.intro (K3.out.2.2.2.2.2.1.below hB4) (K3.out.2.2.2.2.2.2.below hB4))))));have HT4:Hid (Tx W4):=hid (hT.b HB4.out);clear Xp hB4 K3 KR3 HB3 UX b2 hs3;rw[hzz]at bI;have hrz:rb<z:=by omega
 have Nk:z+4<y:=by omega
 have YS:=hid k9;have Si:=hid (λW (hW:Below W4.heap.size W4 W)=>ziU 5 (by omega) W z b rb (y+2) T a0 m0 F0 og ng cg (-1) ty hs (bI.out.below hW) (λg hg=>by have:=Vs g hg;omega) hrz h0 (by omega) (YS.out.below hW) (HT4.out.b hW));have bJ:Hid (F0.take m0.en=F0):=hid (by rw[HZ.out.rd.en,List.take_length]);have sH:∀A B:World,(∀k,k=rb→B.heap[k]?=A.heap[k]?)→wZ rb A B:=λA B h v hv=>(O9 (h rb rfl)).trans hv;have hmk:∀A B:World,(∀k,k=rb→B.heap[k]?=A.heap[k]?)→VC rb A B:=λA B h b' T' a' m' pv zK hb=>⟨zK,(h rb rfl).trans hb⟩;have hmt:∀X Y Z,VC rb X Y→VC rb Y Z→VC rb X Z:=λX Y Z h g b' T' a' m' pv zK hb=>by
  obtain⟨d1,h1⟩:=h _ _ _ _ _ _ hb;exact g _ _ _ _ _ _ h1
 have Np:=hid (And.intro sH (And.intro hmk hmt));have hlt4:rb<W4.heap.size:=by omega
 clear sH hmk hmt k9 hV hz
 go_wp2_with fail
 refine(wpIn_wide (n:=6)).1 (zi6 (L:=vO T (T.size-a0) a0 (zi m0 F0)) (St:=Yp z b rb T a0 m0 F0) (C:=Ry z rb (y+2)) (T0:=λ_=>False) (S:=λk=>k=rb) (KI:=wZ rb) (KS:=VC rb) (gf:=67) (lb:=#[.pointer (some ⟨y+2,0,none⟩)]) rfl (enters_of Tryz.func67 (by kernel_rfl) rfl) Si.out (λk hk=>by rcases hk with e|e<;>omega) (λk hk=>by omega) Np.out.1 Np.out.2.1 Np.out.2.2 (λk hk=>hk.elim) ?hps ?hE
  (Nj w z y rb I D M (zi m0 F0) oi ni ci n0) (RJ w z y rb b T a0 m0 F0 I D M n0 (.exit 0)) (by rw[hs4];exact Nj.Zn hrz Nk hzz) (λc=>by rw[hs4];exact RJ.Zn hrz Nk hzz c) ?start ?round ?fin ?stop)
 case hps=>
  rintro pre x TT W vs ⟨KQ,_,_,_,_,_,_,_,_,h1,_⟩;have hm:vs∈(pre++ [(x,vs)]).map Prod.snd:=by simp
  rw[h1]at hm;obtain⟨q,_,hq⟩:=List.mem_map.1 hm;rw[←hq];rfl
 case hE=>
  rintro zq TT W W' ⟨its,a,m,F,jM,qC,jO,yN,hz1,hv1,hg1,hL1⟩ hf hnt;have hno:∀g,(Value.slice jM qC jO).ownBlock=some g→g≠W4.heap.size+1:=λg hg e=>by
   rcases Nat.lt_or_ge g z with h|h
   ·omega
   ·exact hnt (e▸hg1 g hg h)
  exact⟨its,a,m,F,jM,qC,jO,yN,⟨⟨hz1.rd.blk.zf hf (by omega),hz1.rd.del.zf hf hno,hz1.rd.ln,hz1.rd.en,hz1.rd.le,hz1.rd.cap,hz1.rd.ow.elim .inl (λk=> .inr (zQ hf k hno)),hz1.rd.db⟩,hz1.XE,hz1.tk,hz1.le,hz1.en,hz1.aw,hz1.bd⟩,hv1,hg1,hL1⟩
 case start=>
  intro W hB QW;have kr:=bI.out.rd.blk.below hB;unfold yT at kr;exact⟨[],n0,-1,.slice none 0 0,K4.out.1.below hB,K4.out.2.1.below hB,World.ownsRow_nil _ _ _ _,(λg hg=>by cases hg),K4.out.2.2.1.below hB,K4.out.2.2.2.1.below hB,K4.out.2.2.2.2.1.below hB,K4.out.2.2.2.2.2.below hB,kr.cell 8,rfl,Rr.nil,(λk hk=>hk.elim),by omega,(zg.of_below HB4.out).trans (zg.of_below (p:=λk=>k=rb) (hB.mono (Nat.le_refl _))) (λ_ _ h=>h),Ku.out.1⟩
 case round=>
  rintro pre x vs rest TT W hLx ⟨its,nn,df,v,b2,b4,ho,hv,b5,b6,b7,b8,hc,hi,hr,xk,hW,hF,hn⟩ hSt Zp XZ hrec hdef t1 t2;obtain⟨KQ,a1,m1,F1,jM,qC,jO,yN,hz1,hv1,hg1,hL1⟩:=hSt;obtain⟨q,rfl,hvq⟩:=ziY hi hv1;simp only at hvq;subst hvq;have hah:=UF hz1.XE hz1.tk bJ.out hv1 hL1;have hpl:its.length=pre.length:=by
   have:=congrArg List.length hi;simp only[List.length_map]at this;exact this.symm
  have hq0:(its++ [q])[its.length]?=some q:=by simp
  have hX:(jL (zi m0 F0) pre)[pre.length]?=some (zi q.2 F1):=by
   have:=hah its.length q hq0;rw[bu,hpl,List.getElem?_append_left (by simp[jL])]at this;exact this
  have hsum:=zl.sum hz1.XE its.length q hq0;have hle1:=zl.le hz1.XE;obtain⟨bq,nq',hpi,hpq⟩:=zl.split hz1.XE;have hq2:q.2=nq':=hpq.2.1;have hq1:q.1.zf=bq:=by rw[hpq.2.2.1];exact(jB _ hpq.1).1
  rw[←hq2,←hq1]at hpi;have bK:=hz1.rd.blk;unfold yT at bK;have hdd:yN=df:=by
   have:=bK.cell 8;rw[this]at hc;simpa using hc
  subst hdd;have UY:its.length≤900:=by
   have:=hle1.2.2.1;have h9:=hz1.le;rw[List.length_append]at this;omega
  obtain⟨⟨tk,tf,te,top⟩,⟨qA,qB,qf,qe⟩⟩:=q;obtain⟨Q,hQ⟩:∃Q:Tk×Mk,(⟨⟨tk,tf,te,top⟩,⟨qA,qB,qf,qe⟩⟩:Tk×Mk)=Q:=⟨_,rfl⟩;have HS:=hid (And.intro hz1 (And.intro hv1 (And.intro hg1 (And.intro hL1 (And.intro hah (And.intro hX (And.intro hsum (And.intro hle1 (And.intro hpi hpl)))))))));have HI:=hid (And.intro ho (And.intro hv (And.intro hi (And.intro hr (And.intro xk (And.intro hF hn))))));have HB:=hid (And.intro b2 (And.intro b4 (And.intro b5 (And.intro b6 (And.intro b7 b8)))));have UZ:=hid hdef;have hWb:rb<W.heap.size:=hz1.rd.blk.lt;clear hz1 hv1 hg1 hL1 hah hX hsum hle1 hpi hpl hq0 hpq hq2 hq1 bK ho hv hi hr xk hF hn b2 b4 b5 b6 b7 b8 hLx hc;dsimp only[qQ]
  gi_wp2_with fail
  obtain⟨W2,hW2⟩:∃X,W.alloc (.cells #[.int .i64 (tk:Int),.int .i64 (tf:Int),.int .i64 (te:Int),.bool top,.int .i64 (qA:Int),.bool qB,.int .i64 (qf:Int),.int .i64 (qe:Int)] 82)=X:=⟨_,rfl⟩;have hB2:Below W.heap.size W W2:=by rw[←hW2];exact(Below.refl _ _).alloc (Nat.le_refl _) _
  have RP:zh W2 W.heap.size #[.int .i64 (tk:Int),.int .i64 (tf:Int),.int .i64 (te:Int),.bool top,.int .i64 (qA:Int),.bool qB,.int .i64 (qf:Int),.int .i64 (qe:Int)] 82:=by rw[←hW2];exact zh.new _ _ _
  have hz2:W2.heap.size=W.heap.size+1:=by rw[←hW2,World.size_alloc]
  rw[hW2];clear hW2;refine⟨hB2.block _ (by omega),hB2.block _ (by omega),⟨hB2.size,λk hk _=>hB2.block k hk⟩,Np.out.2.1 _ _ (λk hk=>hB2.block k (by omega)),λr=>?_⟩;obtain⟨W3,hW3⟩:∃X,W2.putObj (y+3+1) (.loop r)=X:=⟨_,rfl⟩;have hF3:zg (λk=>k=y+4) W W3:=by
   rw[←hW3];exact(zg.of_below hB2).trans (uH (p:=λk=>k=y+4) W2 _ rfl) (λ_ _ h=>h)
  have hz3:W3.heap.size=W.heap.size+1:=by rw[←hW3,←hz2];simp
  have Wh:zh W3 W.heap.size #[.int .i64 (tk:Int),.int .i64 (tf:Int),.int .i64 (te:Int),.bool top,.int .i64 (qA:Int),.bool qB,.int .i64 (qf:Int),.int .i64 (qe:Int)] 82:=by
   rw[←hW3];exact(World.putObj_heap_other (by omega)).trans RP
  rw[hW3];obtain⟨bz,hbz⟩:∃x,W.heap.size=x:=⟨_,rfl⟩;have YT:=hid hbz;rw[hbz]at Wh;have HF3:=hid hF3;have zmS:y+5≤bz:=by omega
  obtain⟨b2,b4,b5,b6,b7,b8⟩:=HB.out;have b2:=b2.zf hF3 (by omega);have b4:=b4.zf hF3 (by omega);have b5:=b5.zf hF3 (by omega);have b6:=b6.zf hF3 (by omega);have b7:=b7.zf hF3 (by omega);have b8:=b8.zf hF3 (by omega);have yK:=HS.out.1.rd.blk.zf hF3 (by omega);have HB3:=hid (And.intro b2 (And.intro b4 (And.intro b5 (And.intro b6 (And.intro b8 Wh)))));have hst:UO I D M Q (zi Q.2 F1) nn ni y rb b yN T a1 m1 jM qC jO W3 W3:=⟨nn,yN,Nat.le_refl _,HI.out.2.2.2.2.2.2,b7,yK,λ_ _ _ h=>h,zg.refl _ _⟩;have HST:=hid hst;have Nq:Hid (zg (λk=>k=rb) w W3):=hid (HI.out.2.2.2.2.2.1.trans hF3 (λk hk e=>by omega));have h11:1≤4:=by omega
  clear hW3 hB2 RP hz2 b2 b4 b5 b6 b7 b8 yK Wh hst hrec hdef
  gi_wp2_with fail
  gi_loopw [] (λwr=>UO I D M Q (zi Q.2 F1) nn ni y rb b yN T a1 m1 jM qC jO W3 wr) (λwr=>ni+1-bD wr y)
  case atStart=>exact HST.out
  case round=>
   obtain⟨k,Yq,hnk,hkn,kk,kr,hsc,hfr⟩:=hrel;have x7:wr.cell? ⟨y,0,none⟩=some (.int .i64 (k:Int)):=kk.cell 0;have U0:=HB3.out.2.2.2.1.zf hfr (by omega);have U1:=HB3.out.2.2.2.2.1.zf hfr (by omega);have U2:=HB3.out.2.2.2.2.2.zf hfr (by omega);have x6:wr.cell? ⟨z+4,0,none⟩=some (.slice oi ni ci):=U0.cell 0;have x8:wr.cell? ⟨y+1,0,none⟩=some (.int .i64 M):=U1.cell 0;have xz:wr.cell? ⟨bz,1,none⟩=some (.int .i64 (tf:Int)):=U2.cell 1;have hms:=bG kk;have U3:=hid hms;have Nr:=hid hsc;have jT:=hid hfr;have HKK:=hid (And.intro kk kr);clear kk kr hsc hfr U0 U1 U2 hms;have Wj:=hid (HV.out.zf (p:=λj=>j=rb) (Nq.out.trans jT.out (λj hj e=>e.elim (λh=>by omega) id)) hbr hir hdr);by_cases hst:∃r,I[k]?=some r∧(r.1.zf:Int)+M≤(tf:Int)
   ·obtain⟨r,hr,hrm⟩:=hst
    have hkl:k<ni:=by
     have:=(List.getElem?_eq_some_iff.1 hr).1;have:=HV.out.its.len;omega
    obtain⟨g1,o1,hoi,hg1,hit⟩:=Wj.out.its.cells k r hr;obtain⟨⟨rk,rf,re,rop⟩,⟨rA,rB,Ns,ren⟩⟩:=r;have c1:=hit.c1;have c4:=hit.c4;have c5:=hit.c5;have c6:=hit.c6;have c7:=hit.c7;dsimp only at hrm c1 c4 c5 c6 c7;have hsm:=zl.sum HV.out.path k _ hr;have hrf:rf≤900:=by
     have h1:=hsm.2.1;have h2:=hsm.2.2.1;have h9:=HV.out.sz;dsimp only at h1 h2;omega
    have r1:IntKind.i64.wrap ((rf:Int)+M)=(rf:Int)+M:=IntWalk.i64_in _ (by omega);rw[hoi]at x6;have zmT:ni≤900:=by
     have h1:=HV.out.its.len;have h2:=(zl.le HV.out.path).2.2.1;have h9:=HV.out.sz;omega
    have r2:IntKind.i64.wrap ((k:Int)+1)=((k+1:Nat):Int):=by rw[IntWalk.i64_in _ (by omega)];omega
    have t1:(k:Int)<(ni:Int):=by omega
    have t0:(0:Int)≤(k:Int):=by omega
    have t1':decide ((k:Int)<(ni:Int))=true:=by simp;omega
    have t2':decide ((rf:Int)+M≤(tf:Int))=true:=by simp;omega
    have hok:Ns≤ren∧ren≤D.length:=by
     have hm:=ny w b s I E D oi ni ci od nd cd HV.out k;unfold zH at hm;rw[hr]at hm;exact hm
    have U4:qf≤qe∧qe≤F1.length:=by
     have h1:=(zl.le HS.out.2.2.2.2.2.2.2.2.1).2.2.2.2 HZ.out.rd.le (by
      have h2:=congrArg List.length HS.out.1.tk;rw[List.length_take]at h2;have h3:=HZ.out.rd.en;omega)
     exact h1
    have RQ:D.length≤900:=by
     have h1:=zl.Kz HV.out.path;have h2:=YN (hV:=HV.out);have h3:=HV.out.en;have h4:=HV.out.sz;have h5:Mk.zero.en=0:=rfl;omega
    have xw:F1.length≤900:=by
     have h1:=HS.out.1.rd.en;have h2:=HS.out.1.en;have h3:=HS.out.1.le;omega
    have HIT:=hid (And.intro hr (And.intro hit (And.intro hok (And.intro U4 (And.intro RQ xw)))));clear hit hr hsm hok U4 RQ xw
    gi_wp2_with fail
    (refine Nu (by kernel_rfl) (by kernel_rfl) (by kernel_rfl) ?_
     repeat(first
      |gi_big_quiet_step (fail)
      |(refine wpQuietIn_step (λ_ _ _ _=>trivial) (λK hK=>?_);go_simp;refine hK _ ?_;clear hK K))
     refine wpQuietIn_nil ?_;intro _ hw';obtain⟨nq,hw''⟩:=hw';subst hw'')
    obtain⟨W5,xC⟩:∃X,wr.drewN nq=X:=⟨_,rfl⟩;have yA:Below wr.heap.size wr W5:=by rw[←xC];exact below_drewN (Below.refl _ _) nq
    rw[xC];have yM:zg (λj=>j=y∨j=rb) W3 W5:=jT.out.trans (zg.of_below (p:=λ_=>False) yA) (λ_ _ h=>h.elim);have xy:=HKK.out.2.below yA;have uO:=HKK.out.1.below yA;have vg:=HB3.out.2.2.2.2.2.zf yM (by omega);have HV5:=hid (Wj.out.below yA);have Wl:=HIT.out.2.1.of (λj=>(zg.of_below (p:=λ_=>False) yA).cell (a:=⟨g1,j,none⟩) hg1 (λh=>h));have hs5:=yM.size;have U5:=uO.lt;have AY:=xy.lt;have Wn:=hid yM;have VE:=hid (And.intro xy uO);have hsrc:Src W5 (.slice jM qC jO) qC (zx F1):=(HS.out.1.rd.del.zf HF3.out (λg hg e=>by
     rcases Nat.lt_or_ge g z with h|h
     ·omega
     ·have:=HI.out.2.2.2.2.1 g (HS.out.2.2.1 g hg h);omega)).zf yM (λg hg e=>by
     rcases e with e|e
     ·rcases Nat.lt_or_ge g z with h|h
      ·omega
      ·have:=HI.out.2.2.2.2.1 g (HS.out.2.2.1 g hg h);omega
     ·exact HS.out.1.rd.db g hg e)
    have hgr:∀g,(Value.slice jM qC jO).ownBlock=some g→g≠rb:=HS.out.1.rd.db;have Rn:=hid (λW (hW:Below W5.heap.size W5 W)=>zi7 W b rb T a1 m1 F1 jM qC jO Yq s I E D oi ni ci od nd cd (HV5.out.below hW) (VE.out.1.below hW) (hsrc.below hW) HS.out.1.rd.ln hbr hdr hgr ⟨rA,rB,Ns,ren⟩ ⟨qA,qB,qf,qe⟩ HIT.out.2.2.1.1 HIT.out.2.2.2.1.1 HIT.out.2.2.1.2 HIT.out.2.2.2.1.2 HIT.out.2.2.2.2.1 HIT.out.2.2.2.2.2);unfold jY at Rn;dsimp only at Rn;clear x6 x7 x8 xz c1 c4 c5 c6 c7 Wj;have x7:W5.cell? ⟨y,0,none⟩=some (.int .i64 (k:Int)):=uO.cell 0;have f7:W5.frozen? ⟨y,0,none⟩=false:=uO.frozen 0;have x6:W5.cell? ⟨z+4,0,none⟩=some (.slice (some ⟨g1,o1,none⟩) ni ci):=by rw[←hoi];exact(HB3.out.2.2.2.1.zf yM (by omega)).cell 0
    have x8:W5.cell? ⟨y+1,0,none⟩=some (.int .i64 M):=(HB3.out.2.2.2.2.1.zf yM (by omega)).cell 0;have KR:W5.cell? ⟨bz,1,none⟩=some (.int .i64 (tf:Int)):=vg.cell 1;have KT:W5.cell? ⟨bz,4,none⟩=some (.int .i64 (qA:Int)):=vg.cell 4;have KU:W5.cell? ⟨bz,5,none⟩=some (.bool qB):=vg.cell 5;have KW:W5.cell? ⟨bz,6,none⟩=some (.int .i64 (qf:Int)):=vg.cell 6;have KX:W5.cell? ⟨bz,7,none⟩=some (.int .i64 (qe:Int)):=vg.cell 7;have xb2:W5.cell? ⟨z,0,none⟩=some (.pointer (some ⟨rb,0,none⟩)):=(HB3.out.1.zf yM (by omega)).cell 0;have c1:=Wl.c1;have c4:=Wl.c4;have c5:=Wl.c5;have c6:=Wl.c6;have c7:=Wl.c7;dsimp only at c1 c4 c5 c6 c7;have qK:=hid yA;clear xC yA yM xy uO vg Wl hsrc hgr t1' t2'
    gi_wp2_with fail
    by_cases heq:(rf:Int)+M=(tf:Int)
    ·have t3:decide ((rf:Int)+M=(tf:Int))=true:=by simp;omega
     have t3':((rf:Int)+M==(tf:Int))=true:=by simp;omega
     (refine rV 21 (by decide) (by kernel_rfl) (by kernel_rfl) (by kernel_rfl) (by kernel_rfl) ?_
      dsimp only[List.take_succ_cons,List.take_zero]
      repeat(first
       |gi_big_quiet_step (fail)
       |(refine wpQuietIn_step (λ_ _ _ _=>trivial) (λK hK=>?_);go_simp;refine hK _ ?_;clear hK K))
      refine wpQuietIn_nil ?_;intro _ hw';obtain⟨nq,hw''⟩:=hw';subst hw'')
     obtain⟨W7,bM⟩:∃X,W5.drewN nq=X:=⟨_,rfl⟩;have Nv:Below W5.heap.size W5 W7:=by rw[←bM];exact below_drewN (Below.refl _ _) nq
     rw[bM];have U6:=Rn.out W7 Nv;clear bM;refine wpAnyIn_ready (rs:=[21]) (by kernel_rfl) (by simp) ?_;refine AllReadyIn.cons rfl (λK hK=>?_) AllReadyIn.nil
     go_simp
     refine⟨trivial,((callsIn_wide.2 U6).inRound _).mono ?_⟩;rintro e6 W6 ⟨B,RS,rfl,bP,jP,Rx⟩;dsimp only;refine hK _ _ ?_;clear hK K;refine wpAnyIn_ready (rs:=[22]) (by kernel_rfl) (by simp) ?_;refine AllReadyIn.cons rfl (λK hK=>?_) AllReadyIn.nil
     go_simp
     refine hK _ _ ?_;clear hK K;refine wpAnyIn_done (by kernel_rfl) ?_ _;have Ql:zg (λj=>j=y∨j=rb) W3 W6:=(Wn.out.trans (zg.of_below (p:=λ_=>False) Nv) (λ_ _ h=>h.elim)).trans jP (λj _ e=> .inr e);have VF:=(VE.out.2.below Nv).zf jP (by omega);have bQ:=hid (And.intro bP VF);have bT:=hid Ql;have hs6:=Ql.size;have U7:=VF.lt;have U8:Qj ⟨rA,rB,Ns,ren⟩ ⟨qA,qB,qf,qe⟩ D (zi ⟨qA,qB,qf,qe⟩ F1) Yq B RS:=ziW Rx HIT.out.2.2.1.1 HIT.out.2.2.2.1.1;have U9:=hid U8;have bU:=HB3.out.2.2.2.2.2.zf Ql (by omega);have jo:=HB3.out.2.2.1.zf Ql (by omega);have bV:=(HB3.out.2.2.2.1.zf Ql (by omega)).cell 0;have bW:=(HB3.out.1.zf Ql (by omega)).cell 0;clear x6 x7 x8 KR KT KU KW KX xb2 c1 c4 c5 c6 c7 f7 U8 Rx jP Nv U6;have x7:W6.cell? ⟨y,0,none⟩=some (.int .i64 (k:Int)):=VF.cell 0;have f7:W6.frozen? ⟨y,0,none⟩=false:=VF.frozen 0;cases B
     ·clear bU jo bV bW VF Ql bP
      gi_wp2_with fail
      have RU:=bQ.out.2.set 0 (.int .i64 ((k:Int)+1));have RX:=bQ.out.1.other 0 (.int .i64 ((k:Int)+1)) (b':=y) (by omega);have RY:zg (λj=>j=y∨j=rb) W3 (W6.setCell ⟨y,0,none⟩ (.int .i64 ((k:Int)+1))):=zg.setCell (p:=λj=>j=y∨j=rb) bT.out 0 (.inl (.inl rfl)) _;obtain⟨WN,RZ⟩:∃X,W6.setCell ⟨y,0,none⟩ (.int .i64 ((k:Int)+1))=X:=⟨_,rfl⟩;rw[RZ]at RU RX RY ⊢;clear RZ;have dh:zh WN y #[.int .i64 ((k+1:Nat):Int)] 3:=by
       rw[show((k+1:Nat):Int)=(k:Int)+1 from by omega];exact RU
      refine⟨?_,?zi8⟩
      (repeat apply Exists.intro)
      refine⟨?zi9,by first|(rw[YT.out,hoi];done)|(rw[YT.out,hoi];rfl)|(rw[hoi];rfl)⟩
      case zi9=>
       exact⟨k+1,RS,by omega,by omega,dh,RX,λn' zK B' h=>Nr.out n' zK B' (Sc.diff HIT.out.1 (by rw[←hQ];exact heq) (by rw[←hQ];exact U9.out) h),RY⟩
      case zi8=>
       rw[bG dh,U3.out];omega
     ·have x6:W6.cell? ⟨z+4,0,none⟩=some (.slice oi ni ci):=bV
      have xb2:W6.cell? ⟨z,0,none⟩=some (.pointer (some ⟨rb,0,none⟩)):=bW;have f5:W6.frozen? ⟨z+1+1+1,0,none⟩=false:=jo.frozen 0;have x5:=jo.cell 0;have r3:IntKind.i64.wrap ((ni:Int)-(k:Int))=(ni:Int)-(k:Int):=IntWalk.i64_in _ (by omega);have Qd:=hid (And.intro bU jo);clear bU jo bV bW VF Ql bP
      gi_wp2_with fail
      have bY:=Qd.out.2.set 0 (.int .i64 ((ni:Int)-(k:Int)));have qP:zg (λj=>j=z+1+1+1) W6 (W6.setCell ⟨z+1+1+1,0,none⟩ (.int .i64 ((ni:Int)-(k:Int)))):=zg.setCell (p:=λj=>j=z+1+1+1) (zg.refl _ _) 0 (.inl rfl) _;obtain⟨W8,hW8⟩:∃X,W6.setCell ⟨z+1+1+1,0,none⟩ (.int .i64 ((ni:Int)-(k:Int)))=X:=⟨_,rfl⟩;rw[hW8]at bY qP ⊢;clear hW8 x6 xb2 x5 f5 x7 f7;have uJ:=bQ.out.1.zf qP (by omega);have Wp:=Qd.out.1.zf qP (by omega);have bZ:=(HB3.out.1.zf bT.out (by omega)).zf qP (by omega);have xb2:W8.cell? ⟨z,0,none⟩=some (.pointer (some ⟨rb,0,none⟩)):=bZ.cell 0;have KR:W8.cell? ⟨bz,1,none⟩=some (.int .i64 (tf:Int)):=Wp.cell 1;have KT:W8.cell? ⟨bz,4,none⟩=some (.int .i64 (qA:Int)):=Wp.cell 4;have KU:W8.cell? ⟨bz,5,none⟩=some (.bool qB):=Wp.cell 5;have KW:W8.cell? ⟨bz,6,none⟩=some (.int .i64 (qf:Int)):=Wp.cell 6;have KX:W8.cell? ⟨bz,7,none⟩=some (.int .i64 (qe:Int)):=Wp.cell 7;have HR8:=hid uJ;unfold yT at uJ;have y2:=uJ.cell 2;have y3:=uJ.cell 3;have y4:=uJ.cell 4;have y5:=uJ.cell 5;have y6:=uJ.cell 6;have g2:=uJ.frozen 2;have g3:=uJ.frozen 3;have g4:=uJ.frozen 4;have g5:=uJ.frozen 5;have g6:=uJ.frozen 6;have Bc:=hid (And.intro bY (And.intro qP bZ));have zmU:rb≠z:=by omega
      have zmV:rb≠bz:=by omega
      have zmW:z≠rb:=by omega
      have zmX:bz≠rb:=by omega
      clear bY qP uJ Wp bZ Qd;have hsz:∀(X:World) (o:Nat) (u:Value),(X.setCell ⟨rb,o,none⟩ u).cell? ⟨z,0,none⟩=X.cell? ⟨z,0,none⟩:=λX o u=>World.cell?_setCell_other _ _ _ _ (by intro e;injection e;omega);have hsb:∀(X:World) (o o':Nat) (u:Value),(X.setCell ⟨rb,o,none⟩ u).cell? ⟨bz,o',none⟩=X.cell? ⟨bz,o',none⟩:=λX o o' u=>World.cell?_setCell_other _ _ _ _ (by intro e;injection e;omega);obtain⟨WF,Nw⟩:∃X,(((((W8.setCell ⟨rb,2,none⟩ (.int .i64 (tf:Int))).setCell ⟨rb,3,none⟩ (.int .i64 (qA:Int))).setCell ⟨rb,4,none⟩ (.bool qB)).setCell ⟨rb,5,none⟩ (.int .i64 (qf:Int))).setCell ⟨rb,6,none⟩ (.int .i64 (qe:Int))).drew=X:=⟨_,rfl⟩;have krF:zh WF rb (yT b T tf ⟨qA,qB,qf,qe⟩ (.slice jM qC jO) RS) 97:=by
       have h1:=HR8.out;unfold yT at h1;rw[←Nw];exact(((((h1.set 2 (.int .i64 (tf:Int))).set 3 (.int .i64 (qA:Int))).set 4 (.bool qB)).set 5 (.int .i64 (qf:Int))).set 6 (.int .i64 (qe:Int))).below (Below.refl _ _).drew
      have XG:zg (λj=>j=rb) W8 WF:=by
       rw[←Nw];exact(zg.setCell (p:=λj=>j=rb) (zg.setCell (p:=λj=>j=rb) (zg.setCell (p:=λj=>j=rb) (zg.setCell (p:=λj=>j=rb) (zg.setCell (p:=λj=>j=rb) (zg.refl _ W8) 2 (.inl rfl) _) 3 (.inl rfl) _) 4 (.inl rfl) _) 5 (.inl rfl) _) 6 (.inl rfl) _).trans (zg.of_below (p:=λ_=>False) (Below.refl _ _).drew) (λ_ _ h=>h.elim)
      have VG:zg (λj=>(j=y∨j=rb)∨j=z+1+1+1) W3 WF:=((bT.out.mono (q:=λj=>(j=y∨j=rb)∨j=z+1+1+1) (λj _ e=> .inl e)).trans Bc.out.2.1 (λj _ e=> .inr e)).trans XG (λj _ e=> .inl (.inr e));have hn3:∀j,j≠y→j≠rb→j≠z+1+1+1→¬((j=y∨j=rb)∨j=z+1+1+1):=λj h1 h2 h3 hh=>by
       rcases hh with(e|e)|e
       ·exact h1 e
       ·exact h2 e
       ·exact h3 e
      have xk:=HI.out.2.2.2.2.1;have hsF:=VG.size;have hP:WF.heap[y+3+1]?=W3.heap[y+3+1]?∧WF.heap[y+3]?=W3.heap[y+3]?∧zM (Ry z rb (y+2)) TT W3 WF∧∀xs,RJ w z y rb b T a0 m0 F0 I D M n0 (.exit 0) (.exit 0) xs TT WF:=by
       refine⟨VG.block _ (by omega) (hn3 _ (by omega) (by omega) (by omega)),VG.block _ (by omega) (hn3 _ (by omega) (by omega) (by omega)),zM.lS VG (λj _ hj=>⟨λht=>?_,λhc=>?_⟩),λxs=>⟨rfl,its,nn,k,yN,RS,v,⟨⟨tk,tf,te,top⟩,⟨qA,qB,qf,qe⟩⟩,F1,jM,qC,jO,HB3.out.1.zf VG (hn3 _ (by omega) (by omega) (by omega)),HB3.out.2.1.zf VG (hn3 _ (by omega) (by omega) (by omega)),?_,λg hg=>(HI.out.2.1 g hg).2,?_,krF,?_,HS.out.1.rd.ln,HS.out.1.rd.cap,λg hg=>⟨HS.out.1.rd.db g hg,λh=>xk g (HS.out.2.2.1 g hg h)⟩,HIT.out.2.2.2.1.2,HS.out.2.2.2.2.2.2.2.2.1,HS.out.1.tk,?_,?_,?_,by omega,?_⟩⟩
       ·have h5:=xk j ht
        rcases hj with(e|e)|e<;>omega
       ·rcases hj with(e|e)|e
        ·rcases hc with q9|q9<;>omega
        ·rcases hc with q9|q9<;>omega
        ·rcases hc with q9|q9<;>omega
       ·exact zQ VG (zQ HF3.out HI.out.1 (λg hg e=>by have:=(HI.out.2.1 g hg).2;omega)) (λg hg e=>by have:=(HI.out.2.1 g hg).2;rcases e with(e|e)|e<;>omega)
       ·have h1:=Bc.out.1.zf XG (by omega)
        rw[HV.out.its.len]at h1;exact h1
       ·have hgz:∀g,(Value.slice jM qC jO).ownBlock=some g→g<z∨y+5≤g:=λg hg=>by
         rcases Nat.lt_or_ge g z with h|h
         ·exact .inl h
         ·exact .inr (xk g (HS.out.2.2.1 g hg h))
        exact(HS.out.1.rd.del.zf HF3.out (λg hg e=>by have:=hgz g hg;omega)).zf VG (λg hg e=>by
         have h1:=hgz g hg;have h2:=HS.out.1.rd.db g hg;rcases e with(e|e)|e<;>omega)
       ·have h1:=HI.out.2.2.2.1
        rw[UJ (F:=F1) (λj q hj=>by
         have hjl:=(List.getElem?_eq_some_iff.1 hj).1;have h2:=HS.out.2.2.2.2.1 j q (by rw[List.getElem?_append_left hjl];exact hj);rw[bu,List.getElem?_append_left (by have:=HS.out.2.2.2.2.2.2.2.2.2;simp[jL];omega)]at h2;exact h2)]at h1
        exact h1
       ·have h1:=Nr.out k RS true
        rw[←hQ]at h1;exact h1 (Sc.hit HIT.out.1 heq U9.out)
       ·have:=(List.getElem?_eq_some_iff.1 HIT.out.1).1
        exact this
       ·refine Nq.out.trans VG (λj hj e=>?_)
        rcases e with(e|e)|e
        ·omega
        ·exact e
        ·omega
      have HP:=hid hP;have HWF:=hid Nw;clear Nw hP krF XG VG hn3 xk hsF HR8 Bc;refine zi1 WF (λa'=>?_) ?_
      ·refine ‹∀(a:Act) (w:World),_→_› _ _ ?_
       refine wpIn_exit ?_;exact And.intro HP.out.1 (And.intro HP.out.2.1 (And.intro HP.out.2.2.1 (HP.out.2.2.2 _)))
      refine zja (S:=(λW=>W.cell? ⟨z,0,none⟩=some (.pointer (some ⟨rb,0,none⟩))∧W.cell? ⟨bz,1,none⟩=some (.int .i64 (tf:Int))∧W.cell? ⟨bz,4,none⟩=some (.int .i64 (qA:Int))∧W.cell? ⟨bz,5,none⟩=some (.bool qB)∧W.cell? ⟨bz,6,none⟩=some (.int .i64 (qf:Int))∧W.cell? ⟨bz,7,none⟩=some (.int .i64 (qe:Int)))) (by kernel_rfl) (by kernel_rfl) ?_ (λhHeld=>?_)
      ·(simp only[World.cell?_drew];exact⟨xb2,KR,KT,KU,KW,KX⟩)
      refine wpAnyH_take (i:=0) (oi:={ dst:=some 80,op:=Op.load 75 (Operand.tmp 2),type:=75,pos:= "relex.go:120",after:=#[],guard:=none }) (v:=?vv0) rfl (by kernel_rfl) (by kernel_rfl) (by kernel_rfl) (λ_ _ _ h=>h) (Or.inl ⟨by rfl,?hy0⟩) (by assumption) ?more0;case hy0=>((intro w hSw;(try dsimp only at hSw);go_simp);try(with_reducible rfl))
      (try simp only[Act.put,List.setIfInBounds_toArray,List.set_cons_zero,List.set_cons_succ])
      refine wpAnyH_take (i:=1) (oi:={ dst:=some 81,op:=Op.load 75 (Operand.tmp 2),type:=75,pos:= "relex.go:120",after:=#[{ on:=9,ground:=Ground.gcOnly Departure.lateStores }],guard:=none }) (v:=?vv1) rfl (by kernel_rfl) (by kernel_rfl) (by kernel_rfl) (λ_ _ _ h=>h) (Or.inl ⟨by rfl,?hy1⟩) (by assumption) ?more1;case hy1=>((intro w hSw;(try dsimp only at hSw);go_simp);try(with_reducible rfl))
      (try simp only[Act.put,List.setIfInBounds_toArray,List.set_cons_zero,List.set_cons_succ])
      refine wpAnyH_take (i:=2) (oi:={ dst:=some 82,op:=Op.fieldAddr 82 (Operand.tmp 9) 0,type:=0,pos:= "relex.go:120",after:=#[],guard:=none }) (v:=?vv2) rfl (by kernel_rfl) (by kernel_rfl) (by kernel_rfl) (λ_ _ _ h=>h) (Or.inl ⟨by rfl,?hy2⟩) (by assumption) ?more2;case hy2=>((intro w hSw;(try dsimp only at hSw);go_simp);try(with_reducible rfl))
      (try simp only[Act.put,List.setIfInBounds_toArray,List.set_cons_zero,List.set_cons_succ])
      refine wpAnyH_take (i:=3) (oi:={ dst:=some 83,op:=Op.fieldAddr 44 (Operand.tmp 82) 1,type:=0,pos:= "relex.go:120",after:=#[{ on:=2,ground:=Ground.data }],guard:=none }) (v:=?vv3) rfl (by kernel_rfl) (by kernel_rfl) (by kernel_rfl) (λ_ _ _ h=>h) (Or.inl ⟨by rfl,?hy3⟩) (by assumption) ?more3;case hy3=>((intro w hSw;(try dsimp only at hSw);go_simp);try(with_reducible rfl))
      (try simp only[Act.put,List.setIfInBounds_toArray,List.set_cons_zero,List.set_cons_succ])
      refine wpAnyH_take (i:=4) (oi:={ dst:=some 84,op:=Op.load 3 (Operand.tmp 83),type:=3,pos:= "relex.go:120",after:=#[{ on:=3,ground:=Ground.data }],guard:=none }) (v:=?vv4) rfl (by kernel_rfl) (by kernel_rfl) (by kernel_rfl) (λ_ _ _ h=>h) (Or.inl ⟨by rfl,?hy4⟩) (by assumption) ?more4;case hy4=>((intro w hSw;(try dsimp only at hSw);go_simp);try(with_reducible rfl))
      (try simp only[Act.put,List.setIfInBounds_toArray,List.set_cons_zero,List.set_cons_succ])
      refine wpAnyH_take (i:=5) (oi:={ dst:=some 85,op:=Op.fieldAddr 82 (Operand.tmp 9) 1,type:=0,pos:= "relex.go:120",after:=#[{ on:=9,ground:=Ground.gcOnly Departure.lateStores }],guard:=none }) (v:=?vv5) rfl (by kernel_rfl) (by kernel_rfl) (by kernel_rfl) (λ_ _ _ h=>h) (Or.inl ⟨by rfl,?U5⟩) (by assumption) ?more5;case U5=>((intro w hSw;(try dsimp only at hSw);go_simp);try(with_reducible rfl))
      (try simp only[Act.put,List.setIfInBounds_toArray,List.set_cons_zero,List.set_cons_succ])
      refine wpAnyH_take (i:=6) (oi:={ dst:=some 86,op:=Op.load 66 (Operand.tmp 85),type:=66,pos:= "relex.go:120",after:=#[{ on:=5,ground:=Ground.data },{ on:=9,ground:=Ground.gcOnly Departure.lateStores }],guard:=none }) (v:=?vv6) rfl (by kernel_rfl) (by kernel_rfl) (by kernel_rfl) (λ_ _ _ h=>h) (Or.inl ⟨by rfl,?U7⟩) (by assumption) ?more6;case U7=>((intro w hSw;(try dsimp only at hSw);go_simp);try(with_reducible rfl))
      (try simp only[Act.put,List.setIfInBounds_toArray,List.set_cons_zero,List.set_cons_succ])
      refine wpAnyH_take (i:=7) (oi:={ dst:=some 87,op:=Op.nilCheck (Operand.tmp 80),type:=0,pos:= "relex.go:120",after:=#[{ on:=0,ground:=Ground.data },{ on:=0,ground:=Ground.phase },{ on:=1,ground:=Ground.textOnly Departure.lateStores },{ on:=2,ground:=Ground.phase },{ on:=3,ground:=Ground.phase },{ on:=4,ground:=Ground.phase },{ on:=5,ground:=Ground.textOnly Departure.lateStores },{ on:=6,ground:=Ground.textOnly Departure.lateStores }],guard:=none }) (v:=?vv7) rfl (by kernel_rfl) (by kernel_rfl) (by kernel_rfl) (λ_ _ _ h=>h) (Or.inl ⟨by rfl,?hy7⟩) (by assumption) ?more7;case hy7=>((intro w hSw;(try dsimp only at hSw);go_simp);try(with_reducible rfl))
      (try simp only[Act.put,List.setIfInBounds_toArray,List.set_cons_zero,List.set_cons_succ])
      refine wpAnyH_take (i:=8) (oi:={ dst:=some 88,op:=Op.fieldAddr 97 (Operand.tmp 87) 2,type:=0,pos:= "relex.go:120",after:=#[{ on:=7,ground:=Ground.data },{ on:=0,ground:=Ground.phase },{ on:=1,ground:=Ground.textOnly Departure.lateStores },{ on:=2,ground:=Ground.phase },{ on:=3,ground:=Ground.phase },{ on:=4,ground:=Ground.phase },{ on:=5,ground:=Ground.textOnly Departure.lateStores },{ on:=6,ground:=Ground.textOnly Departure.lateStores }],guard:=none }) (v:=?vv8) rfl (by kernel_rfl) (by kernel_rfl) (by kernel_rfl) (λ_ _ _ h=>h) (Or.inl ⟨by rfl,?hy8⟩) (by assumption) ?zmY;case hy8=>((intro w hSw;(try dsimp only at hSw);go_simp);try(with_reducible rfl))
      (try simp only[Act.put,List.setIfInBounds_toArray,List.set_cons_zero,List.set_cons_succ])
      refine wpAnyH_ready (rs:=[9]) (by kernel_rfl) (by simp) ?_;refine AllReadyH.cons (o:={ dst:=none,op:=Op.store 3 (Operand.tmp 88) (Operand.tmp 84),type:=0,pos:= "relex.go:120",after:=#[{ on:=8,ground:=Ground.data },{ on:=4,ground:=Ground.data },{ on:=0,ground:=Ground.phase },{ on:=1,ground:=Ground.textOnly Departure.lateStores },{ on:=2,ground:=Ground.phase },{ on:=3,ground:=Ground.phase },{ on:=4,ground:=Ground.phase },{ on:=5,ground:=Ground.textOnly Departure.lateStores },{ on:=6,ground:=Ground.textOnly Departure.lateStores }],guard:=none }) rfl (λK hK=>?_) AllReadyH.nil
      go_simp
      refine hK.out _ _ ?_ (λhHeld=>?_)
      ·(try dsimp only);(simp only[World.cell?_drew,hsz,hsb];exact⟨xb2,KR,KT,KU,KW,KX⟩)
      clear hK K
      (try simp only[Act.put,List.setIfInBounds_toArray,List.set_cons_zero,List.set_cons_succ])
      refine wpAnyH_take (i:=10) (oi:={ dst:=some 89,op:=Op.nilCheck (Operand.tmp 81),type:=0,pos:= "relex.go:120",after:=#[{ on:=1,ground:=Ground.data },{ on:=0,ground:=Ground.phase },{ on:=1,ground:=Ground.phase },{ on:=2,ground:=Ground.phase },{ on:=3,ground:=Ground.phase },{ on:=4,ground:=Ground.phase },{ on:=5,ground:=Ground.phase },{ on:=6,ground:=Ground.phase },{ on:=7,ground:=Ground.phase },{ on:=8,ground:=Ground.phase },{ on:=9,ground:=Ground.phase }],guard:=none }) (v:=?vv9) rfl (by kernel_rfl) (by kernel_rfl) (by kernel_rfl) (λ_ _ _ h=>h) (Or.inl ⟨by rfl,?lC⟩) (by assumption) ?zmZ;case lC=>((intro w hSw;(try dsimp only at hSw);go_simp);try(with_reducible rfl))
      (try simp only[Act.put,List.setIfInBounds_toArray,List.set_cons_zero,List.set_cons_succ])
      refine wpAnyH_take (i:=11) (oi:={ dst:=some 90,op:=Op.fieldAddr 97 (Operand.tmp 89) 3,type:=0,pos:= "relex.go:120",after:=#[{ on:=10,ground:=Ground.data },{ on:=0,ground:=Ground.phase },{ on:=1,ground:=Ground.phase },{ on:=2,ground:=Ground.phase },{ on:=3,ground:=Ground.phase },{ on:=4,ground:=Ground.phase },{ on:=5,ground:=Ground.phase },{ on:=6,ground:=Ground.phase },{ on:=7,ground:=Ground.phase },{ on:=8,ground:=Ground.phase },{ on:=9,ground:=Ground.phase }],guard:=none }) (v:=?zm0) rfl (by kernel_rfl) (by kernel_rfl) (by kernel_rfl) (λ_ _ _ h=>h) (Or.inl ⟨by rfl,?zjb⟩) (by assumption) ?zm1;case zjb=>((intro w hSw;(try dsimp only at hSw);go_simp);try(with_reducible rfl))
      (try simp only[Act.put,List.setIfInBounds_toArray,List.set_cons_zero,List.set_cons_succ])
      refine wpAnyH_ready (rs:=[12]) (by kernel_rfl) (by simp) ?_;refine AllReadyH.cons (o:={ dst:=none,op:=Op.store 66 (Operand.tmp 90) (Operand.tmp 86),type:=0,pos:= "relex.go:120",after:=#[{ on:=11,ground:=Ground.data },{ on:=6,ground:=Ground.data },{ on:=9,ground:=Ground.chain },{ on:=0,ground:=Ground.phase },{ on:=1,ground:=Ground.phase },{ on:=2,ground:=Ground.phase },{ on:=3,ground:=Ground.phase },{ on:=4,ground:=Ground.phase },{ on:=5,ground:=Ground.phase },{ on:=6,ground:=Ground.phase },{ on:=7,ground:=Ground.phase },{ on:=8,ground:=Ground.phase },{ on:=9,ground:=Ground.phase }],guard:=none }) rfl (λK hK=>?_) AllReadyH.nil
      go_simp
      refine hK.out _ _ ?_ (λhHeld=>?_)
      ·(try dsimp only);(simp only[World.cell?_drew,hsz,hsb];exact⟨xb2,KR,KT,KU,KW,KX⟩)
      clear hK K
      (try simp only[Act.put,List.setIfInBounds_toArray,List.set_cons_zero,List.set_cons_succ])
      refine wpAnyH_done (by kernel_rfl) ?_ _;refine VH.normal ?_;all_goals exact⟨rfl,HWF.out⟩
    ·have t3:decide ((rf:Int)+M=(tf:Int))=false:=by simp;omega
     have t3':((rf:Int)+M==(tf:Int))=false:=by simp;omega
     (refine Nu (by kernel_rfl) (by kernel_rfl) (by kernel_rfl) ?_
      repeat(first
       |gi_big_quiet_step (fail)
       |(refine wpQuietIn_step (λ_ _ _ _=>trivial) (λK hK=>?_);go_simp;refine hK _ ?_;clear hK K))
      refine wpQuietIn_nil ?_;intro _ hw';obtain⟨nq,hw''⟩:=hw';subst hw'')
     gi_wp2_with fail
     have hd5:Below W5.heap.size W5 (W5.drewN nq):=below_drewN (Below.refl _ _) nq;have RU:=(VE.out.2.below hd5).set 0 (.int .i64 ((k:Int)+1));have RX:=(VE.out.1.below hd5).other 0 (.int .i64 ((k:Int)+1)) (b':=y) (by omega);have RY:zg (λj=>j=y∨j=rb) W3 ((W5.drewN nq).setCell ⟨y,0,none⟩ (.int .i64 ((k:Int)+1))):=zg.setCell (p:=λj=>j=y∨j=rb) (Wn.out.trans (zg.of_below (p:=λ_=>False) hd5) (λ_ _ h=>h.elim)) 0 (.inl (.inl rfl)) _;obtain⟨WN,RZ⟩:∃X,(W5.drewN nq).setCell ⟨y,0,none⟩ (.int .i64 ((k:Int)+1))=X:=⟨_,rfl⟩;rw[RZ]at RU RX RY ⊢;clear RZ;have dh:zh WN y #[.int .i64 ((k+1:Nat):Int)] 3:=by
      rw[show((k+1:Nat):Int)=(k:Int)+1 from by omega];exact RU
     refine⟨?_,?zjc⟩
     (repeat apply Exists.intro)
     refine⟨?zjd,by first|(rw[YT.out,hoi];done)|(rw[YT.out,hoi];rfl)|(rw[hoi];rfl)⟩
     case zjd=>
      exact⟨k+1,Yq,by omega,by omega,dh,RX,λn' zK B' h=>Nr.out n' zK B' (Sc.skip HIT.out.1 (by rw[←hQ];dsimp only;omega) h),RY⟩
     case zjc=>
      rw[bG dh,U3.out];omega
   ·have zaa:Hid (Sc I D M Q (zi Q.2 F1) nn yN k Yq false):=hid (Nr.out _ _ _ (Sc.stop (λr hr=>by
     by_cases g:(Q.1.zf:Int)<(r.1.zf:Int)+M
     ·exact g
     ·exact absurd ⟨r,hr,by rw[←hQ]at g;dsimp only at g;omega⟩ hst)))
    obtain⟨HIo,HBo⟩:True∧True:=⟨trivial,trivial⟩;have x4:wr.cell? ⟨z+1+1,0,none⟩=some v:=(HB3.out.2.1.zf jT.out (by omega)).cell 0;have f4:wr.frozen? ⟨z+1+1,0,none⟩=false:=(HB3.out.2.1.zf jT.out (by omega)).frozen 0;by_cases hkl:k<ni
    ·obtain⟨r,hr⟩:∃r,I[k]?=some r:=⟨I[k]'(by have:=HV.out.its.len;omega),List.getElem?_eq_getElem _⟩
     have hrm:¬(r.1.zf:Int)+M≤(tf:Int):=λh=>hst ⟨r,hr,h⟩;obtain⟨g1,o1,hoi,hg1,hit⟩:=Wj.out.its.cells k r hr;obtain⟨⟨rk,rf,re,rop⟩,⟨rA,rB,Ns,ren⟩⟩:=r;have c1:=hit.c1;dsimp only at hrm c1;have hrf:rf≤900:=by
      have h1:=(zl.sum HV.out.path k _ hr).2.1;have h2:=(zl.sum HV.out.path k _ hr).2.2.1;have h9:=HV.out.sz;dsimp only at h1 h2;omega
     have r1:IntKind.i64.wrap ((rf:Int)+M)=(rf:Int)+M:=IntWalk.i64_in _ (by omega);rw[hoi]at x6;have t1:(k:Int)<(ni:Int):=by omega
     have t1':decide ((k:Int)<(ni:Int))=true:=by simp;omega
     have t2':decide ((rf:Int)+M≤(tf:Int))=false:=by simp;omega
     clear hit hr Wj
     gi_wp2_with fail
     (refine Nu (by kernel_rfl) (by kernel_rfl) (by kernel_rfl) ?_
      repeat(first
       |gi_big_quiet_step (fail)
       |(refine wpQuietIn_step (λ_ _ _ _=>trivial) (λK hK=>?_);go_simp;refine hK _ ?_;clear hK K))
      refine wpQuietIn_nil ?_;intro _ hw';obtain⟨nq,hw''⟩:=hw';subst hw'')
     clear x4 f4 x6 x7 x8 xz c1 t1' t2' r1;obtain⟨W5,xC⟩:∃X,wr.drewN nq=X:=⟨_,rfl⟩;have yA:Below wr.heap.size wr W5:=by rw[←xC];exact below_drewN (Below.refl _ _) nq
     rw[xC];have yM:zg (λj=>j=y∨j=rb) W3 W5:=jT.out.trans (zg.of_below (p:=λ_=>False) yA) (λ_ _ h=>h.elim);have xy:=HKK.out.2.below yA;have uO:=HKK.out.1.below yA;have vg:=HB3.out.2.2.2.2.2.zf yM (by omega);have Jr:=HB3.out.2.1.zf yM (by omega);have Wq:W5.ownsRow z 82 8 v its.length (zF its):=zQ yM (zQ HF3.out HI.out.1 (λg hg e=>by have:=(HI.out.2.1 g hg).2;omega)) (λg hg e=>by have:=(HI.out.2.1 g hg).2;rcases e with e|e<;>omega);have hs5:=yM.size;have Wn:=hid yM;have di:=hid Wq;have VE:=hid (And.intro xy (And.intro uO Jr));have xz0:=vg.cell 0;have KR:=vg.cell 1;have xz2:=vg.cell 2;have xz3:=vg.cell 3;have KT:=vg.cell 4;have KU:=vg.cell 5;have KW:=vg.cell 6;have KX:=vg.cell 7;have x4:=Jr.cell 0;have Bg:=hid (zh.new W5 #[.int .i64 (tk:Int),.int .i64 (tf:Int),.int .i64 (te:Int),.bool top,.int .i64 (qA:Int),.bool qB,.int .i64 (qf:Int),.int .i64 (qe:Int)] 82);have HVV:=hid HI.out.2.1;obtain⟨zp,hzp⟩:∃zp,its.length=zp:=⟨_,rfl⟩;have Yl:=hid hzp;rw[hzp]at di UY;have hzs:z≤W5.heap.size:=by omega
     have Bh:=hid Jr;clear xC yA yM xy uO vg Jr Wq hzp
     gi_wp2_with (gi_at_builtin;refine zab rfl _ _ 64 82 8 64 _ rfl Tryz.underlying64 UK rfl (by omega) (by omega) z v zp (zF its) rfl (jS di.out _) _ 1 (jJ ⟨⟨tk,tf,te,top⟩,⟨qA,qB,qf,qe⟩⟩) rfl (UL (x:=⟨⟨tk,tf,te,top⟩,⟨qA,qB,qf,qe⟩⟩) Bg.out) rfl (Bi _) (by omega) (by rw[World.size_alloc];omega) (zp+1) rfl ?_;intro Yr c8 W8 XH jC Z7;have b8:=(Bh.out.alloc (.cells #[.int .i64 (tk:Int),.int .i64 (tf:Int),.int .i64 (te:Int),.bool top,.int .i64 (qA:Int),.bool qB,.int .i64 (qf:Int),.int .i64 (qe:Int)] 82)).grown jC (λe=>by have:=(HVV.out _ e.symm).2;omega);have ef8:=b8.frozen 0;have e8:=b8.cell 0)
     have qP:zg (λj=>v.ownBlock=some j∨j=z+1+1) W5 W8:=((zg.refl (λj=>v.ownBlock=some j∨j=z+1+1) W5).alloc _).grown jC (λk hk=> .inl (.inl hk));have vY:zg (λj=>j=z+1+1) W8 (W8.setCell ⟨z+1+1,0,none⟩ (.slice Yr (zp+1) c8)):=zg.setCell (p:=λj=>j=z+1+1) (zg.refl _ W8) 0 (.inl rfl) _;have b9:=b8.set 0 (.slice Yr (zp+1) c8);obtain⟨Wf,hWf⟩:∃Y,W8.setCell ⟨z+1+1,0,none⟩ (.slice Yr (zp+1) c8)=Y:=⟨_,rfl⟩;rw[hWf]at vY b9 ⊢;clear hWf;have Js:=qP.trans vY (λj _ e=> .inr e);have xw:zg (λj=>(v.ownBlock=some j∨j=z+1+1)∨(j=y∨j=rb)) W3 Wf:=(Wn.out.mono (q:=λj=>(v.ownBlock=some j∨j=z+1+1)∨(j=y∨j=rb)) (λj _ e=> .inr e)).trans Js (λj _ e=> .inl e);have KY:∀j,j<y+5→j≠z+1+1→¬(v.ownBlock=some j∨j=z+1+1):=λj h1 h2 hh=>by
      rcases hh with e|e
      ·have:=(HVV.out j e).2;omega
      ·exact h2 e
     have hno:∀j,j<y+5→j≠z+1+1→j≠y→j≠rb→¬((v.ownBlock=some j∨j=z+1+1)∨(j=y∨j=rb)):=λj h1 h2 h3 h4 hh=>by
      rcases hh with e|e|e
      ·exact KY j h1 h2 e
      ·exact h3 e
      ·exact h4 e
     have VI:=VE.out.1.zf Js (KY _ (by omega) (by omega));have Bj:=VE.out.2.1.zf Js (KY _ (by omega) (by omega));have xk:=HI.out.2.2.2.2.1;have hs9:=xw.size;have hs8:=Js.size;refine⟨xw.block _ (by omega) (hno _ (by omega) (by omega) (by omega) (by omega)),xw.block _ (by omega) (hno _ (by omega) (by omega) (by omega) (by omega)),zM.lS xw (λj _ hj=>⟨λht=>?_,λhc=>?_⟩),λb' T' a' m' pv' zK hb=>⟨Yq,?_⟩,⟨its++ [⟨⟨tk,tf,te,top⟩,⟨qA,qB,qf,qe⟩⟩],k,Yq,.slice Yr (zp+1) c8,HB3.out.1.zf xw (hno _ (by omega) (by omega) (by omega) (by omega)),b9,?_,λg hg=>?_,HB3.out.2.2.1.zf xw (hno _ (by omega) (by omega) (by omega) (by omega)),HB3.out.2.2.2.1.zf xw (hno _ (by omega) (by omega) (by omega) (by omega)),Bj,HB3.out.2.2.2.2.1.zf xw (hno _ (by omega) (by omega) (by omega) (by omega)),?_,?_,?_,xk,by omega,?_,hkn⟩⟩
     ·have h5:=xk j ht
      rcases hj with(e|e)|e|e
      ·exact(HVV.out j e).1 ht
      ·omega
      ·omega
      ·omega
     ·rcases hj with(e|e)|e|e
      ·have h5:=(HVV.out j e).2
       rcases hc with q9|q9<;>omega
      ·rcases hc with q9|q9<;>omega
      ·rcases hc with q9|q9<;>omega
      ·rcases hc with q9|q9<;>omega
     ·have k0:=HS.out.1.rd.blk.zf HF3.out (by omega)
      exact UM (UN k0 hb) Yq▸VI
     ·rw[List.length_append,Yl.out,nK]
      have:=zQ vY XH (λg hg e=>by
       rcases Z7 with e2|e2
       ·have:=(HVV.out g (e2.symm.trans hg)).2;omega
       ·rw[World.size_alloc]at e2
        rw[e2]at hg;injection hg with hg;omega)
      simpa[zF]using this
     ·rcases Z7 with e2|e2
      ·exact HVV.out g (e2.symm.trans hg)
      ·rw[World.size_alloc]at e2
       rw[e2]at hg;injection hg with hg;refine⟨λht=>?_,by omega⟩;have:=Zp g ht;omega
     ·unfold yT at VI
      exact VI.cell 8
     ·rw[List.map_append,List.map_append,HI.out.2.2.1]
      rfl
     ·have h9:=zaa.out
      rw[←hQ]at h9;rw[UD HS.out.2.2.2.2.2.2.2.2.2 _ _ _ HS.out.2.2.2.2.2.1];exact Rr.snoc HI.out.2.2.2.1 h9
     ·refine Nq.out.trans xw (λj hj e=>?_)
      rcases e with(e|e)|e|e
      ·have:=(HVV.out j e).2;omega
      ·omega
      ·omega
      ·exact e
    ·have t1:¬(k:Int)<(ni:Int):=by omega
     have t1':decide ((k:Int)<(ni:Int))=false:=by simp;omega
     clear Wj
     gi_wp2_with fail
     (refine Nu (by kernel_rfl) (by kernel_rfl) (by kernel_rfl) ?_
      repeat(first
       |gi_big_quiet_step (fail)
       |(refine wpQuietIn_step (λ_ _ _ _=>trivial) (λK hK=>?_);go_simp;refine hK _ ?_;clear hK K))
      refine wpQuietIn_nil ?_;intro _ hw';obtain⟨nq,hw''⟩:=hw';subst hw'')
     clear x4 f4 x6 x7 x8 xz t1';obtain⟨W5,xC⟩:∃X,wr.drewN nq=X:=⟨_,rfl⟩;have yA:Below wr.heap.size wr W5:=by rw[←xC];exact below_drewN (Below.refl _ _) nq
     rw[xC];have yM:zg (λj=>j=y∨j=rb) W3 W5:=jT.out.trans (zg.of_below (p:=λ_=>False) yA) (λ_ _ h=>h.elim);have xy:=HKK.out.2.below yA;have uO:=HKK.out.1.below yA;have vg:=HB3.out.2.2.2.2.2.zf yM (by omega);have Jr:=HB3.out.2.1.zf yM (by omega);have Wq:W5.ownsRow z 82 8 v its.length (zF its):=zQ yM (zQ HF3.out HI.out.1 (λg hg e=>by have:=(HI.out.2.1 g hg).2;omega)) (λg hg e=>by have:=(HI.out.2.1 g hg).2;rcases e with e|e<;>omega);have hs5:=yM.size;have Wn:=hid yM;have di:=hid Wq;have VE:=hid (And.intro xy (And.intro uO Jr));have xz0:=vg.cell 0;have KR:=vg.cell 1;have xz2:=vg.cell 2;have xz3:=vg.cell 3;have KT:=vg.cell 4;have KU:=vg.cell 5;have KW:=vg.cell 6;have KX:=vg.cell 7;have x4:=Jr.cell 0;have Bg:=hid (zh.new W5 #[.int .i64 (tk:Int),.int .i64 (tf:Int),.int .i64 (te:Int),.bool top,.int .i64 (qA:Int),.bool qB,.int .i64 (qf:Int),.int .i64 (qe:Int)] 82);have HVV:=hid HI.out.2.1;obtain⟨zp,hzp⟩:∃zp,its.length=zp:=⟨_,rfl⟩;have Yl:=hid hzp;rw[hzp]at di UY;have hzs:z≤W5.heap.size:=by omega
     have Bh:=hid Jr;clear xC yA yM xy uO vg Jr Wq hzp
     gi_wp2_with (gi_at_builtin;refine zab rfl _ _ 64 82 8 64 _ rfl Tryz.underlying64 UK rfl (by omega) (by omega) z v zp (zF its) rfl (jS di.out _) _ 1 (jJ ⟨⟨tk,tf,te,top⟩,⟨qA,qB,qf,qe⟩⟩) rfl (UL (x:=⟨⟨tk,tf,te,top⟩,⟨qA,qB,qf,qe⟩⟩) Bg.out) rfl (Bi _) (by omega) (by rw[World.size_alloc];omega) (zp+1) rfl ?_;intro Yr c8 W8 XH jC Z7;have b8:=(Bh.out.alloc (.cells #[.int .i64 (tk:Int),.int .i64 (tf:Int),.int .i64 (te:Int),.bool top,.int .i64 (qA:Int),.bool qB,.int .i64 (qf:Int),.int .i64 (qe:Int)] 82)).grown jC (λe=>by have:=(HVV.out _ e.symm).2;omega);have ef8:=b8.frozen 0;have e8:=b8.cell 0)
     have qP:zg (λj=>v.ownBlock=some j∨j=z+1+1) W5 W8:=((zg.refl (λj=>v.ownBlock=some j∨j=z+1+1) W5).alloc _).grown jC (λk hk=> .inl (.inl hk));have vY:zg (λj=>j=z+1+1) W8 (W8.setCell ⟨z+1+1,0,none⟩ (.slice Yr (zp+1) c8)):=zg.setCell (p:=λj=>j=z+1+1) (zg.refl _ W8) 0 (.inl rfl) _;have b9:=b8.set 0 (.slice Yr (zp+1) c8);obtain⟨Wf,hWf⟩:∃Y,W8.setCell ⟨z+1+1,0,none⟩ (.slice Yr (zp+1) c8)=Y:=⟨_,rfl⟩;rw[hWf]at vY b9 ⊢;clear hWf;have Js:=qP.trans vY (λj _ e=> .inr e);have xw:zg (λj=>(v.ownBlock=some j∨j=z+1+1)∨(j=y∨j=rb)) W3 Wf:=(Wn.out.mono (q:=λj=>(v.ownBlock=some j∨j=z+1+1)∨(j=y∨j=rb)) (λj _ e=> .inr e)).trans Js (λj _ e=> .inl e);have KY:∀j,j<y+5→j≠z+1+1→¬(v.ownBlock=some j∨j=z+1+1):=λj h1 h2 hh=>by
      rcases hh with e|e
      ·have:=(HVV.out j e).2;omega
      ·exact h2 e
     have hno:∀j,j<y+5→j≠z+1+1→j≠y→j≠rb→¬((v.ownBlock=some j∨j=z+1+1)∨(j=y∨j=rb)):=λj h1 h2 h3 h4 hh=>by
      rcases hh with e|e|e
      ·exact KY j h1 h2 e
      ·exact h3 e
      ·exact h4 e
     have VI:=VE.out.1.zf Js (KY _ (by omega) (by omega));have Bj:=VE.out.2.1.zf Js (KY _ (by omega) (by omega));have xk:=HI.out.2.2.2.2.1;have hs9:=xw.size;have hs8:=Js.size;refine⟨xw.block _ (by omega) (hno _ (by omega) (by omega) (by omega) (by omega)),xw.block _ (by omega) (hno _ (by omega) (by omega) (by omega) (by omega)),zM.lS xw (λj _ hj=>⟨λht=>?_,λhc=>?_⟩),λb' T' a' m' pv' zK hb=>⟨Yq,?_⟩,⟨its++ [⟨⟨tk,tf,te,top⟩,⟨qA,qB,qf,qe⟩⟩],k,Yq,.slice Yr (zp+1) c8,HB3.out.1.zf xw (hno _ (by omega) (by omega) (by omega) (by omega)),b9,?_,λg hg=>?_,HB3.out.2.2.1.zf xw (hno _ (by omega) (by omega) (by omega) (by omega)),HB3.out.2.2.2.1.zf xw (hno _ (by omega) (by omega) (by omega) (by omega)),Bj,HB3.out.2.2.2.2.1.zf xw (hno _ (by omega) (by omega) (by omega) (by omega)),?_,?_,?_,xk,by omega,?_,hkn⟩⟩
     ·have h5:=xk j ht
      rcases hj with(e|e)|e|e
      ·exact(HVV.out j e).1 ht
      ·omega
      ·omega
      ·omega
     ·rcases hj with(e|e)|e|e
      ·have h5:=(HVV.out j e).2
       rcases hc with q9|q9<;>omega
      ·rcases hc with q9|q9<;>omega
      ·rcases hc with q9|q9<;>omega
      ·rcases hc with q9|q9<;>omega
     ·have k0:=HS.out.1.rd.blk.zf HF3.out (by omega)
      exact UM (UN k0 hb) Yq▸VI
     ·rw[List.length_append,Yl.out,nK]
      have:=zQ vY XH (λg hg e=>by
       rcases Z7 with e2|e2
       ·have:=(HVV.out g (e2.symm.trans hg)).2;omega
       ·rw[World.size_alloc]at e2
        rw[e2]at hg;injection hg with hg;omega)
      simpa[zF]using this
     ·rcases Z7 with e2|e2
      ·exact HVV.out g (e2.symm.trans hg)
      ·rw[World.size_alloc]at e2
       rw[e2]at hg;injection hg with hg;refine⟨λht=>?_,by omega⟩;have:=Zp g ht;omega
     ·unfold yT at VI
      exact VI.cell 8
     ·rw[List.map_append,List.map_append,HI.out.2.2.1]
      rfl
     ·have h9:=zaa.out
      rw[←hQ]at h9;rw[UD HS.out.2.2.2.2.2.2.2.2.2 _ _ _ HS.out.2.2.2.2.2.1];exact Rr.snoc HI.out.2.2.2.1 h9
     ·refine Nq.out.trans xw (λj hj e=>?_)
      rcases e with(e|e)|e|e
      ·have:=(HVV.out j e).2;omega
      ·omega
      ·omega
      ·exact e
 case' fin=>
  rintro zq TT W hmap ⟨its,nn,df,v,b2,b4,ho,hv,b5,b6,b7,b8,hc,hi,hr,xk,hW,hF,hn⟩ hSt XZ hWd;obtain⟨KQ,a1,m1,F1,jM,qC,jO,yN,hz1,hv1,hg1,hL1⟩:=hSt;have hits:its=KQ:=bC _ _ (hi.symm.trans hv1);subst hits;rw[hmap]at hL1;have hT0:vO T (T.size-a1) a1 (zi m1 F1)=[]:=by
   have h9:=congrArg List.length hL1;rw[List.length_append]at h9;exact List.eq_nil_of_length_eq_zero (by omega)
  have ha1:=ziZ hT0 hz1.le;have hL2:vO T (T.size-a0) a0 (zi m0 F0)=zq.map Prod.fst++vO T (T.size-a1) a1 (zi m1 F1):=by rw[hT0,List.append_nil,hmap]
  have hah:=UF hz1.XE hz1.tk bJ.out hv1 hL2;rw[UJ hah]at hr;have kr:=hz1.rd.blk;have hE:RN w z y rb b T a0 m0 F0 I D M n0 v its 0 a1 m1 F1 jM qC jO yN W:=⟨nn,df,ho,λg hg=>(hv g hg).2,hz1.rd.del,hz1.rd.ln,hz1.rd.cap,λg hg=>⟨hz1.rd.db g hg,λh=>xk g (hg1 g hg h)⟩,by have:=hz1.rd.en;omega,hz1.XE,hz1.tk,hr,.inl ⟨rfl,ha1,hz1.rd.en⟩,hW,hF⟩;have HE:=hid hE;have HWd:=hid hWd;obtain⟨tl,htl⟩:∃tl:Nat,0=tl:=⟨0,rfl⟩;rw[htl]at HE;rw[show(0:Int)=(tl:Int)from by omega]at b5;clear hE hah hL2 ha1 hT0 hL1 hr hi hv1 hg1 hmap hz1 ho hv hc hF xk htl b6 b7 b8;dsimp only
 case' stop=>
  rintro c pre TT W ⟨rfl,its,nn,n2,df,yN,v,q,F1,jM,qC,jO,b2,b4,ho,hv,b5,kr,hs1,hl1,hc1,hg1,hq1,hp1,zac,hr1,hsc1,hn1,hW,hF⟩ XZ hWd;have hE:RN w z y rb b T a0 m0 F0 I D M n0 v its (I.length-n2) q.1.zf q.2 F1 jM qC jO yN W:=⟨nn,df,ho,hv,hs1,hl1,hc1,hg1,hq1,hp1,zac,hr1,.inr ⟨q,n2,rfl,rfl,hsc1,hn1,rfl⟩,hW,hF⟩;obtain⟨tl,htl⟩:∃tl:Nat,I.length-n2=tl:=⟨_,rfl⟩;rw[htl]at hE;rw[show(I.length:Int)-(n2:Int)=(tl:Int)from by omega]at b5;obtain⟨a1,ha1⟩:∃a1,q.1.zf=a1:=⟨_,rfl⟩;obtain⟨m1,hm1⟩:∃m1,q.2=m1:=⟨_,rfl⟩;rw[ha1,hm1]at hE kr;have HE:=hid hE;have HWd:=hid hWd;clear hE ho hv hs1 hl1 hc1 hg1 hq1 hp1 zac hr1 hsc1 hn1 hF htl ha1 hm1;refine(wpIn_wide (n:=6)).2 ?_
 all_goals
  unfold yT at kr;obtain⟨fo,fc,rfl⟩:∃fo fc,v=.slice fo its.length fc:=by
   obtain⟨nn9,df9,ho,_⟩:=HE.out;rcases ho.2 with⟨g1,g2⟩|⟨g,cap,cur,g1,_⟩
   ·exact⟨none,0,by rw[g1,g2]⟩
   ·exact⟨_,_,g1⟩
  have r7:W.cell? ⟨rb,7,none⟩=some (.slice jM qC jO):=kr.cell 7;have r6:W.cell? ⟨rb,6,none⟩=some (.int .i64 (m1.en:Int)):=kr.cell 6;have f7:=kr.frozen 7;have c2:W.cell? ⟨z,0,none⟩=some (.pointer (some ⟨rb,0,none⟩)):=b2.cell 0;have p0:(0:Int)≤(m1.en:Int):=by omega
  have p1:(m1.en:Int)≤(jO:Int):=by
   obtain⟨_,_,_,_,_,g1,g2,_,g3,_⟩:=HE.out;omega
  have Jt:=hid kr;have HB:=hid (And.intro b4 b5);have zm2:=kr.lt;have hsrc:(jM=none∧jO=0∧m1.en=0)∨∃g off,jM=some ⟨g,off,none⟩:=by
   obtain⟨_,_,_,_,g0,g1,g2,_,g3,_⟩:=HE.out;rcases g0 with⟨e1,e2,_⟩|⟨g,off,c,e1,_⟩
   ·injection e1 with e3 e4 e5
    exact .inl ⟨e3,e5,by omega⟩
   ·injection e1 with e3 e4 e5
    exact .inr ⟨g,off,e3⟩
  clear kr b2 b4 b5;generalize hEN:m1.en=en at*
  go_wp2_with fail
  go_cut []from 95 to 107 (λwx=>(∃dv,wx.cell? ⟨rb,7,none⟩=some dv∧dv=.slice jM en jO∧zh wx rb #[.pointer (some ⟨b,0,none⟩),.string T,.int .i64 (a1:Int),.int .i64 (m1.await:Int),.bool m1.body,.int .i64 (m1.zf:Int),.int .i64 (en:Int),dv,.int .i64 yN] 97)∧zg (λk=>k=rb) W wx)
  case first=>
   rcases hsrc with⟨rfl,rfl,rfl⟩|⟨g9,zm3,rfl⟩
   all_goals
    go_region
    all_goals
     go_wp2_with fail
     go_meet;case rel=>exact⟨⟨_,(Jt.out.set 7 _).drew.cell 7,rfl,(Jt.out.set 7 _).drew⟩,(zg.setCell (p:=λk=>k=rb) (zg.refl _ W) 7 (.inl rfl) _).drew⟩
  case rest=>
   obtain⟨⟨dv,hdv,rfl,xy⟩,yM⟩:=hcut;have k4:=HB.out.1.zf yM (by omega);have k5:=HB.out.2.zf yM (by omega);have x4:wc.cell? ⟨z+1+1,0,none⟩=some (.slice fo its.length fc):=k4.cell 0;have x5:wc.cell? ⟨z+1+1+1,0,none⟩=some (.int .i64 (tl:Int)):=k5.cell 0;have f4:=k4.frozen 0;have f5:=k5.frozen 0;have HK:=hid (And.intro xy (And.intro yM (And.intro k4 k5)));clear xy yM k4 k5 r7 r6 f7 c2 hdv hsrc
   go_wp2_with fail
   go_region
   all_goals
    go_wp2_with fail
    rw[Exit.noGoto_ret];obtain⟨xy,yM,k4,k5⟩:=HK.out;have nP:=(k4.set 0 (.slice fo its.length fc)).other (b':=z+1+1+1) 0 (.int .i64 (tl:Int)) (by omega);have k5':=(k5.other (b':=z+1+1) 0 (.slice fo its.length fc) (by omega)).set 0 (.int .i64 (tl:Int));have kr':=(xy.other (b':=z+1+1) 0 (.slice fo its.length fc) (by omega)).other (b':=z+1+1+1) 0 (.int .i64 (tl:Int)) (by omega);have vY:zg (λk=>k=z+1+1∨k=z+1+1+1) wc (((wc.setCell ⟨z+1+1,0,none⟩ (.slice fo its.length fc)).setCell ⟨z+1+1+1,0,none⟩ (.int .i64 (tl:Int))).drew):=((zg.setCell (p:=λk=>k=z+1+1∨k=z+1+1+1) (zg.refl _ wc) 0 (.inl (.inl rfl)) _).setCell 0 (.inl (.inr rfl)) _).drew;obtain⟨Wf,hWf⟩:∃X,((wc.setCell ⟨z+1+1,0,none⟩ (.slice fo its.length fc)).setCell ⟨z+1+1+1,0,none⟩ (.int .i64 (tl:Int))).drew=X:=⟨_,rfl⟩;have k4f:=nP.drew;have k5f:=k5'.drew;have VI:=kr'.drew;rw[hWf]at vY k4f k5f VI ⊢;have XG:zg (λk=>k=rb∨k=z+1+1∨k=z+1+1+1) W Wf:=(yM.mono (λ_ _ e=> .inl e)).trans vY (λk _ e=> .inr e);have hdW:=HWd.out;have hdl:W4.heap.size<W.heap.size:=by omega
    have hdf:Wf.heap[W4.heap.size]?=some (.deferred (some [])):=(XG.block _ hdl (λe=>by rcases e with e|e|e<;>omega)).trans hdW;have hFg:zg (λk=>k=y+3) Wf (Wf.putObj W4.heap.size (.deferred none)):=uH Wf _ (by omega);have k4g:=k4f.zf hFg (by omega);have k5g:=k5f.zf hFg (by omega);have krg:=VI.zf hFg (by omega);refine⟨by simp,.inl ⟨_,_,rfl,run_takeDeferred hdf,?_⟩⟩;refine⟨.tuple #[.slice fo its.length fc,.int .i64 (tl:Int)],?_,n0,Ku.out.1,Ku.out.2.1,Ku.out.2.2,?_⟩
    ·have e4:(Wf.putObj W4.heap.size (.deferred none)).cell? ⟨z+1+1,0,none⟩=some (.slice fo its.length fc):=k4g.cell 0
     have e5:(Wf.putObj W4.heap.size (.deferred none)).cell? ⟨z+1+1+1,0,none⟩=some (.int .i64 (tl:Int)):=k5g.cell 0;simp[results,Tryz.f34,go_sem,e4,e5]
    ·rw[HM.out]
     refine RN.done HE.out (XG.mono (q:=λk=>k=rb∨k=z+1+1∨k=z+1+1+1∨k=y+3) (λ_ _ e=>by rcases e with e|e|e;exact .inl e;exact .inr (.inl e);exact .inr (.inr (.inl e)))|>.trans hFg (λk _ e=> .inr (.inr (.inr e)))) hzz Nk hrz bJ.out HZ.out.rd.le HZ.out.rd.en ?_;unfold yT;rw[hEN];exact krg
end
end Go.Proofs.YtdjcidackkogjaaGreatDoor

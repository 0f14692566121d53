/- Marks and items of layer 10 (relex) in memory; wha -/
import Derived.Test.YtdjcidackkogjaaGreatDoorRa
import Derived.Test.YtdjcidackkogjaaGreatDoorQr
namespace Go.Proofs.YtdjcidackkogjaaGreatDoor
set_option linter.unusedSectionVars false
set_option linter.unusedVariables false
set_option maxHeartbeats 8000000
set_option maxRecDepth 100000
open Go.RowKit
def jY(m:Mk):Value:=.agg #[.int .i64 (m.await:Int),.bool m.body,.int .i64 (m.zf:Int),.int .i64 (m.en:Int)]
def jJ(q:Tk×Mk):List Value:=[.int .i64 (q.1.kind:Int),.int .i64 (q.1.zf:Int),.int .i64 (q.1.en:Int),.bool q.1.op,.int .i64 (q.2.await:Int),.bool q.2.body,.int .i64 (q.2.zf:Int),.int .i64 (q.2.en:Int)]
def zF(l:List (Tk×Mk)):List Value:=l.flatMap jJ
theorem nK(l k:List (Tk×Mk)):zF (l++k)=zF l++zF k:=by unfold zF;rw[List.flatMap_append]
theorem Bi(x:Tk×Mk):∀u∈jJ x,u.oneCell'=true:=by
 intro u hu;simp[jJ]at hu;rcases hu with rfl|rfl|rfl|rfl|rfl|rfl|rfl|rfl<;>rfl
theorem wO(l:List (Tk×Mk)):∀v∈zF l,v.oneCell'=true:=by
 intro v hv;obtain⟨q,_,hq⟩:=List.mem_flatMap.1 hv;exact Bi q v hq
theorem jc(l:List (Tk×Mk)):(zF l).length=l.length*8:=by
 induction l with
 |nil=>rfl
 |cons a l ih=>
  have e:zF (a::l)=jJ a++zF l:=by unfold zF;rw[List.flatMap_cons]
  rw[e,List.length_append,ih,List.length_cons];show 8+l.length*8=_;omega
theorem rY:∀(l:List (Tk×Mk)) (j k:Nat) (t:Tk×Mk),l[j]?=some t→k<8→(zF l)[j*8+k]?=(jJ t)[k]?
 | [],j,k,t,h,_=>by cases h
 |a::l,0,k,t,h,hk=>by
  cases h;show(jJ a++zF l)[0*8+k]?=_;rw[List.getElem?_append_left (by show 0*8+k<8;omega),Nat.zero_mul,Nat.zero_add]
 |a::l,j+1,k,t,h,hk=>by
  show(jJ a++zF l)[(j+1)*8+k]?=_;rw[List.getElem?_append_right (by show 8≤_;omega),show(j+1)*8+k-(jJ a).length=j*8+k from by show(j+1)*8+k-8=_;omega];exact rY l j k t h hk
structure NH(W:World)(b o:Nat)(q:Tk×Mk):Prop where
 c0:W.cell? ⟨b,o,none⟩=some (.int .i64 (q.1.kind:Int))
 c1:W.cell? ⟨b,o+1,none⟩=some (.int .i64 (q.1.zf:Int))
 c2:W.cell? ⟨b,o+2,none⟩=some (.int .i64 (q.1.en:Int))
 c3:W.cell? ⟨b,o+3,none⟩=some (.bool q.1.op)
 c4:W.cell? ⟨b,o+4,none⟩=some (.int .i64 (q.2.await:Int))
 c5:W.cell? ⟨b,o+5,none⟩=some (.bool q.2.body)
 c6:W.cell? ⟨b,o+6,none⟩=some (.int .i64 (q.2.zf:Int))
 c7:W.cell? ⟨b,o+7,none⟩=some (.int .i64 (q.2.en:Int))
theorem NH.of{W W':World}{b o:Nat}{q:Tk×Mk}(h:NH W b o q)(e:∀k,W'.cell? ⟨b,k,none⟩=W.cell? ⟨b,k,none⟩):NH W' b o q:=
 ⟨(e _).trans h.c0,(e _).trans h.c1,(e _).trans h.c2,(e _).trans h.c3,(e _).trans h.c4,(e _).trans h.c5,(e _).trans h.c6,(e _).trans h.c7⟩
structure ZI(W:World)(oa:Option Addr)(n:Nat)(l:List (Tk×Mk)):Prop where
 len:n=l.length
 cells:∀(j:Nat) q,l[j]?=some q→∃b off,oa=some ⟨b,off,none⟩∧b<W.heap.size∧NH W b (off+j*8) q
theorem ZI.zf{p:Nat→Prop}{W W':World}{oa:Option Addr}{n:Nat}{l:List (Tk×Mk)}(h:ZI W oa n l)(hf:zg p W W')(hp:∀g off,oa=some ⟨g,off,none⟩→¬p g):ZI W' oa n l:=
 ⟨h.len,λj d hj=>by
  obtain⟨b,off,h1,h2,h3⟩:=h.cells j d hj;exact⟨b,off,h1,Nat.lt_of_lt_of_le h2 hf.size,h3.of λk=>hf.cell (a:=⟨b,k,none⟩) h2 (hp b off h1)⟩⟩
theorem ZI.below{W W':World}{oa:Option Addr}{n:Nat}{l:List (Tk×Mk)}(h:ZI W oa n l)(hb:Below W.heap.size W W'):ZI W' oa n l:=h.zf (zg.of_below (p:=λ_=>False) hb) (λ_ _ _ h=>h)
theorem ZI.wW{W:World}{oa:Option Addr}{n c:Nat}{l:List (Tk×Mk)}(hn:n=l.length)(h:Src W (.slice oa n c) n (zF l)):ZI W oa n l:=by
 refine⟨hn,λj t hj=>?_⟩;rcases h with⟨h1,h2,h3⟩|⟨b,off,c',h1,h2,h3⟩
 ·rw[hn]at h2
  have:=List.eq_nil_of_length_eq_zero h2;subst this;cases hj
 ·have g:=λk hk=>rY l j k t hj hk
  cases h1;have g':∀k u,k<8→(jJ t)[k]?=some u→W.cell? ⟨b,off+j*8+k,none⟩=some u:=λk u hk hu=>by
   have:=h3 (j*8+k) u ((g k hk).trans hu)
   rwa [←Nat.add_assoc]at this
  exact⟨b,off,rfl,h2,⟨g' 0 _ (by omega) rfl,g' 1 _ (by omega) rfl,g' 2 _ (by omega) rfl,g' 3 _ (by omega) rfl,g' 4 _ (by omega) rfl,g' 5 _ (by omega) rfl,g' 6 _ (by omega) rfl,g' 7 _ (by omega) rfl⟩⟩
section
variable(w:World)
theorem Ai(m:Mk)(p q:Nat)(hp:p≤1000000)(hq:q≤m.zf+p)(hm:m.zf≤m.en)(he:m.en≤1000000):
  Calls Tryz.prog 51 #[jY m,.int .i64 ((p:Int)-(q:Int))] w λe w'=>e=.returned (jY (m.mv p q))∧Below w.heap.size w w':=by
 obtain⟨A,bd,f,e⟩:=m;dsimp only at hq hm he;unfold jY Mk.mv;dsimp only;have r1:IntKind.i64.wrap ((f:Int)+((p:Int)-(q:Int)))=((f+p-q:Nat):Int):=by rw[IntWalk.i64_in _ (by omega)];omega
 have r2:IntKind.i64.wrap ((e:Int)+((p:Int)-(q:Int)))=((e+p-q:Nat):Int):=by rw[IntWalk.i64_in _ (by omega)];omega
 obtain⟨P,hP⟩:∃P:Int,(p:Int)-(q:Int)=P:=⟨_,rfl⟩;rw[hP]at r1 r2 ⊢;obtain⟨F,hF⟩:∃F,f+p-q=F:=⟨_,rfl⟩;obtain⟨E,hE⟩:∃E,e+p-q=E:=⟨_,rfl⟩;rw[hF]at r1 ⊢;rw[hE]at r2 ⊢;clear hP hF hE hq hm he hp;have hB:=jd w (.cells #[.int .i64 (A:Int),.bool bd,.int .i64 (F:Int),.int .i64 (E:Int)] 66) (.cells #[.int .i64 (A:Int),.bool bd,.int .i64 (F:Int),.int .i64 (E:Int)] 66);go_enter Tryz.func51,Tryz.ntmps51;go_wp2;have k2:=xU w (.cells #[.int .i64 (A:Int),.bool bd,.int .i64 (F:Int),.int .i64 (E:Int)] 66) #[.int .i64 (A:Int),.bool bd,.int .i64 (F:Int),.int .i64 (E:Int)] 66;have h0:=k2.cell 0;have h1:=k2.cell 1;have h2:=k2.cell 2;have h3:=k2.cell 3;refine bodyPost_ret (v:=.agg #[.int .i64 (A:Int),.bool bd,.int .i64 (F:Int),.int .i64 (E:Int)]) (by simp[results,Tryz.results51,go_sem,h0,h1,h2,h3]) rfl ?_;exact⟨rfl,hB⟩
theorem Vz{m:Mk}{D:List Dl}(h2:m.en≤D.length):(zi m D).pend.length=m.en-m.zf:=by
 show((D.take m.en).drop m.zf).length=_;rw[List.length_drop,List.length_take];omega
theorem rQ{D:List Dl}{a b:Nat}(h:b≤D.length):zx ((D.take b).drop a)=((zx D).drop (a*2)).take ((b-a)*2):=by
 have hd:∀(l:List Dl) (k:Nat),zx (l.drop k)=(zx l).drop (k*2):=by
  intro l
  induction l with
  |nil=>intro k;simp[zx]
  |cons x l ih=>
   intro k
   cases k with
   |zero=>simp
   |succ k=>
    rw[List.drop_succ_cons,ih,qR];rw[show(k+1)*2=k*2+1+1 by omega];rfl
 have ht:∀(l:List Dl) (k:Nat),zx (l.take k)=(zx l).take (k*2):=by
  intro l
  induction l with
  |nil=>intro k;simp[zx]
  |cons x l ih=>
   intro k
   cases k with
   |zero=>simp[zx]
   |succ k=>
    rw[List.take_succ_cons,qR,qR,ih];rw[show(k+1)*2=k*2+1+1 by omega];rfl
 rw[hd,ht,List.drop_take];congr 1;omega
theorem zao(m:Mk)(D:List Dl)(oa:Option Addr)(n c:Nat)(hD:Src w (.slice oa n c) n (zx D))(hn:n=D.length)(hnc:n≤c)(hm:m.zf≤m.en)(he:m.en≤n):
  Calls Tryz.prog 60 #[jY m,.slice oa n c] w λe w'=>∃yD c',e=.returned (zD (zi m D) (.slice yD (m.en-m.zf) c'))∧yR w' (.slice yD (m.en-m.zf) c') (zi m D)∧Below w.heap.size w w':=by
 have hlen:=Vz (m:=m) (D:=D) (by omega);have hcs:zx (zi m D).pend=((zx D).drop (m.zf*2)).take ((m.en-m.zf)*2):=rQ (by omega);have hL1:(zi m D).await=m.await:=rfl;have hL2:(zi m D).body=m.body:=rfl;unfold zD;rw[hL1,hL2];generalize zi m D=X at*;have HX:=Lib.hid (And.intro hlen hcs);obtain⟨A,bd,f,e⟩:=m;unfold jY;dsimp only at*;have kb:=(zh.new w #[.int .i64 (A:Int),.bool bd,.int .i64 (f:Int),.int .i64 (e:Int)] 66).alloc (.cells #[.int .i64 0,.slice none 0 0,.bool false] 50);have kl:=xU w (.cells #[.int .i64 (A:Int),.bool bd,.int .i64 (f:Int),.int .i64 (e:Int)] 66) #[.int .i64 0,.slice none 0 0,.bool false] 50;have hB:=jd w (.cells #[.int .i64 (A:Int),.bool bd,.int .i64 (f:Int),.int .i64 (e:Int)] 66) (.cells #[.int .i64 0,.slice none 0 0,.bool false] 50);have a0:=kb.cell 0;have a1:=kb.cell 1;have a2:=kb.cell 2;have a3:=kb.cell 3;have q0:(0:Int)≤(f:Int):=by omega
 have q1:(f:Int)≤(e:Int):=by omega
 have q2:(e:Int)≤(c:Int):=by omega
 clear hL1 hL2 hlen hcs;rcases hD with⟨h1,h2,h3⟩|⟨b,off,c2,h1,h2,h3⟩
 ·cases h1
  have e1:f=0:=by omega
  have e2:e=0:=by omega
  subst e1 e2;clear hn hnc hm he;go_enter Tryz.func60,Tryz.ntmps60
  go_upto_region 1 with fail
  go_region
  go_wp2
  all_goals
   have hB2:=(jd w (.cells #[.int .i64 (A:Int),.bool bd,.int .i64 ((0:Nat):Int),.int .i64 ((0:Nat):Int)] 66) (.cells #[.int .i64 (A:Int),.slice none 0 0,.bool bd] 50)).drew;refine bodyPost_ret (v:=.agg #[.int .i64 (A:Int),.slice none 0 0,.bool bd]) (by simp[results,Tryz.results60,go_sem]) rfl ?_;refine⟨none,0,rfl,⟨?_,⟨none,0,by rw[HX.out.1],by rw[HX.out.1];exact Nat.le_refl _⟩⟩,hB2⟩;rw[HX.out.1,HX.out.2];exact .inl ⟨rfl,rfl,by simp⟩
 ·cases h1
  have H3:=Lib.hid h3;have HN:=Lib.hid hn;have hq:(e:Int)-(f:Int)=((e-f:Nat):Int):=by omega
  clear h3 hn;go_enter Tryz.func60,Tryz.ntmps60
  go_upto_region 1 with fail
  go_region
  go_wp2
  ·have hn:=HN.out
   have k2:=(xU w (.cells #[.int .i64 (A:Int),.bool bd,.int .i64 (f:Int),.int .i64 (e:Int)] 66) #[.int .i64 (A:Int),.slice (some ⟨b,off,none⟩) (e-f) 0,.bool bd] 50).drew;have h20:=k2.cell 0;have h21:=k2.cell 1;have h22:=k2.cell 2;have hB2:=(jd w (.cells #[.int .i64 (A:Int),.bool bd,.int .i64 (f:Int),.int .i64 (e:Int)] 66) (.cells #[.int .i64 (A:Int),.slice (some ⟨b,off,none⟩) (e-f) 0,.bool bd] 50)).drew;refine bodyPost_ret (v:=.agg #[.int .i64 (A:Int),.slice (some ⟨b,off,none⟩) (e-f) 0,.bool bd]) (by simp[results,Tryz.results60,go_sem,h20,h21,h22]) rfl ?_;have hef:e-f=0:=by omega
   refine⟨some ⟨b,off,none⟩,0,rfl,⟨?_,⟨some ⟨b,off,none⟩,0,by rw[HX.out.1],by rw[HX.out.1];omega⟩⟩,hB2⟩;rw[HX.out.1,HX.out.2];refine .inr ⟨b,off,0,rfl,Nat.lt_of_lt_of_le h2 hB2.size,λj u hj=>?_⟩;rw[hef,Nat.zero_mul,List.take_zero]at hj;cases hj
  ·have hn:=HN.out
   have k2:=(xU w (.cells #[.int .i64 (A:Int),.bool bd,.int .i64 (f:Int),.int .i64 (e:Int)] 66) #[.int .i64 (A:Int),.slice (some ⟨b,off+f*2,none⟩) (e-f) (c-f),.bool bd] 50).drew;have h20:=k2.cell 0;have h21:=k2.cell 1;have h22:=k2.cell 2;have hB2:=(jd w (.cells #[.int .i64 (A:Int),.bool bd,.int .i64 (f:Int),.int .i64 (e:Int)] 66) (.cells #[.int .i64 (A:Int),.slice (some ⟨b,off+f*2,none⟩) (e-f) (c-f),.bool bd] 50)).drew;refine bodyPost_ret (v:=.agg #[.int .i64 (A:Int),.slice (some ⟨b,off+f*2,none⟩) (e-f) (c-f),.bool bd]) (by simp[results,Tryz.results60,go_sem,h20,h21,h22]) rfl ?_;refine⟨some ⟨b,off+f*2,none⟩,c-f,rfl,⟨?_,⟨some ⟨b,off+f*2,none⟩,c-f,by rw[HX.out.1],by rw[HX.out.1];omega⟩⟩,hB2⟩;rw[HX.out.1,HX.out.2];refine .inr ⟨b,off+f*2,c-f,rfl,Nat.lt_of_lt_of_le h2 hB2.size,λj u hj=>?_⟩;rw[List.getElem?_take]at hj;split at hj
   ·rw[List.getElem?_drop]at hj
    have:=H3.out (f*2+j) u hj;rw[←Nat.add_assoc]at this;exact(hB2.cell (p:=⟨b,_,none⟩) h2).trans this
   ·cases hj
end
open Lib(hid)
structure jH(W:World)(b:Nat)(s:ByteArray)(I:List (Tk×Mk))(E:Mk)(D:List Dl)(oi:Option Addr)(ni ci:Nat)(od:Option Addr)(nd cd:Nat):Prop where
 blk:zh W b #[.string s,.slice oi ni ci,.int .i64 (E.await:Int),.bool E.body,.int .i64 (E.zf:Int),.int .i64 (E.en:Int),.slice od nd cd] 68
 its:ZI W oi ni I
 del:Src W (.slice od nd cd) nd (zx D)
 ln:nd=D.length
 cap:nd≤cd
 il:∀g off,oi=some ⟨g,off,none⟩→g<W.heap.size
 ib:∀g off,oi=some ⟨g,off,none⟩→g≠b
 db:∀g off,od=some ⟨g,off,none⟩→g≠b
 path:zl s D 0 Mk.zero I s.size E
 en:E.en=D.length
 sz:s.size≤900
theorem jH.zf{p:Nat→Prop}{W W':World}{b:Nat}{s:ByteArray}{I:List (Tk×Mk)}{E:Mk}{D:List Dl}{oi:Option Addr}{ni ci:Nat}{od:Option Addr}{nd cd:Nat}(h:jH W b s I E D oi ni ci od nd cd)(hf:zg p W W')(hb:¬p b)(hi:∀g off,oi=some ⟨g,off,none⟩→¬p g)(hd:∀g off,od=some ⟨g,off,none⟩→¬p g):jH W' b s I E D oi ni ci od nd cd:=
 ⟨h.blk.zf hf hb,h.its.zf hf hi,h.del.zf hf (λk hk=>by
  rcases od with _|⟨g,off,sp⟩
  ·cases hk
  ·rcases h.del with q|⟨b',off',c',q,_⟩
   ·cases q.1
   ·cases q
    injection hk with hk;subst hk;exact hd _ _ rfl),h.ln,h.cap,λg off hg=>Nat.lt_of_lt_of_le (h.il g off hg) hf.size,h.ib,h.db,h.path,h.en,h.sz⟩
theorem jH.below{W W':World}{b:Nat}{s:ByteArray}{I:List (Tk×Mk)}{E:Mk}{D:List Dl}{oi:Option Addr}{ni ci:Nat}{od:Option Addr}{nd cd:Nat}(h:jH W b s I E D oi ni ci od nd cd)(hb:Below W.heap.size W W'):jH W' b s I E D oi ni ci od nd cd:=h.zf (zg.of_below (p:=λ_=>False) hb) id (λ_ _ _=>id) (λ_ _ _=>id)
theorem zl.Kz{s:ByteArray}{D:List Dl}:∀{I:List (Tk×Mk)} {a b:Nat} {m n:Mk},zl s D a m I b n→n.en≤m.en+I.length
 | [],a,b,m,n,h=>by
  obtain⟨_,rfl⟩:=h;exact Nat.le_refl _
 |q::I,a,b,m,n,⟨g1,g2,g3,u,g4,g5⟩=>by
  have h:=zl.Kz g5;have h2:=g4.e;have h3:uB s a (zi m D)≤1:=by
   unfold uB;split
   ·exact Nat.le_refl _
   ·exact Nat.zero_le _
  rw[List.length_cons];omega
theorem jH.dl{W:World}{b:Nat}{s:ByteArray}{I:List (Tk×Mk)}{E:Mk}{D:List Dl}{oi:Option Addr}{ni ci:Nat}{od:Option Addr}{nd cd:Nat}(h:jH W b s I E D oi ni ci od nd cd):∀g off,od=some ⟨g,off,none⟩→g<W.heap.size:=λg off hg=>by
 rcases h.del with q|⟨b',off',c',q,h2,_⟩
 ·have:=q.1
  rw[hg]at this;cases this
 ·rw[hg]at q
  cases q;exact h2
def zH(I:List (Tk×Mk))(E:Mk)(n:Nat):Mk:=match I[n]? with
 |some q=>q.2
 |none=>E
section
variable(w:World)(b:Nat)(s:ByteArray)(I:List (Tk×Mk))(E:Mk)(D:List Dl)(oi:Option Addr)(ni ci:Nat)(od:Option Addr)(nd cd:Nat)(hV:jH w b s I E D oi ni ci od nd cd)
include hV
theorem YN:I.length≤s.size:=by
 have:=hV.path.le.2.2.1;omega
theorem ny(n:Nat):(zH I E n).zf≤(zH I E n).en∧(zH I E n).en≤D.length:=by
 have hE:=hV.path.le.2.2.2.2 (Nat.le_refl _) (Nat.zero_le _);unfold zH
 cases h:I[n]? with
 |none=>exact hE
 |some q=>
  obtain⟨I1,I2,rfl,hl⟩:∃I1 I2,I=I1++I2∧I1.length=n:=⟨I.take n,I.drop n,(List.take_append_drop _ _).symm,by rw[List.length_take];have:=(List.getElem?_eq_some_iff.1 h).1;omega⟩;obtain⟨c,m,h1,h2⟩:=hV.path.split;rw[List.getElem?_append_right (by omega),hl,Nat.sub_self]at h
  match I2,h,h2 with
  |q'::r,h,⟨_,g2,_⟩=>
   have e:q'=q:=by simpa using h
   subst e;show q'.2.zf≤q'.2.en∧q'.2.en≤D.length;rw[g2];exact h1.le.2.2.2.2 (Nat.le_refl _) (Nat.zero_le _)
theorem aU(n:Nat)(hn:n≤I.length):Calls Tryz.prog 44 #[.pointer (some ⟨b,0,none⟩),.int .i64 (n:Int)] w λe w'=>e=.returned (jY (zH I E n))∧Below w.heap.size w w':=by
 have hlen:=hV.its.len;have hle:=YN w b s I E D oi ni ci od nd cd hV;have hsz:=hV.sz;have hB:=(Below.refl w.heap.size w).alloc (Nat.le_refl _) (.cells #[.int .i64 0,.bool false,.int .i64 0,.int .i64 0] 66);have k:=(hV.blk).below hB;have a1:=k.cell 1;by_cases he:n=I.length
 ·have hm:zH I E n=E:=by unfold zH;rw[List.getElem?_eq_none (by omega)]
  rw[hm];have a2:=k.cell 2;have a3:=k.cell 3;have a4:=k.cell 4;have a5:=k.cell 5;have hq:n=ni:=by omega
  subst hq;have hbl:b<w.heap.size:=hV.blk.lt;clear hm he hlen hV;obtain⟨A,bd,f,e⟩:=E;unfold jY;dsimp only at*;go_enter Tryz.func44,Tryz.ntmps44;go_wp2;have k2:=zh.new w #[.int .i64 (A:Int),.bool bd,.int .i64 (f:Int),.int .i64 (e:Int)] 66;have h20:=k2.cell 0;have h21:=k2.cell 1;have h22:=k2.cell 2;have h23:=k2.cell 3;refine bodyPost_ret (v:=.agg #[.int .i64 (A:Int),.bool bd,.int .i64 (f:Int),.int .i64 (e:Int)]) (by simp[results,Tryz.results44,go_sem,h20,h21,h22,h23]) rfl ?_;exact⟨rfl,(Below.refl w.heap.size w).alloc (Nat.le_refl _) _⟩
 ·have hlt:n<I.length:=by omega
  have hg:I[n]?=some I[n]:=List.getElem?_eq_getElem _;generalize I[n]=q at hg;have hm:zH I E n=q.2:=by unfold zH;rw[hg]
  rw[hm];obtain⟨g1,o1,rfl,h1,hi⟩:=hV.its.cells n q hg;have hi':=hi.of (λk=>hB.cell (p:=⟨g1,k,none⟩) h1);obtain⟨⟨tk,tf,te,top⟩,⟨A,bd,f,e⟩⟩:=q;have c4:=hi'.c4;have c5:=hi'.c5;have c6:=hi'.c6;have c7:=hi'.c7;dsimp only at c4 c5 c6 c7;unfold jY;dsimp only;have q1:(n:Int)<(ni:Int):=by omega
  have q0:(0:Int)≤(n:Int):=by omega
  have q2:((n:Int)==(ni:Int))=false:=beq_eq_false_iff_ne.2 (by omega);clear hm hi hi' hV hg hlt he;go_enter Tryz.func44,Tryz.ntmps44;go_wp2;have k2:=zh.new w #[.int .i64 (A:Int),.bool bd,.int .i64 (f:Int),.int .i64 (e:Int)] 66;have h20:=k2.cell 0;have h21:=k2.cell 1;have h22:=k2.cell 2;have h23:=k2.cell 3;refine bodyPost_ret (v:=.agg #[.int .i64 (A:Int),.bool bd,.int .i64 (f:Int),.int .i64 (e:Int)]) (by simp[results,Tryz.results44,go_sem,h20,h21,h22,h23]) rfl ?_;exact⟨rfl,(Below.refl w.heap.size w).alloc (Nat.le_refl _) _⟩
def NI(V W:World)(A:Nat)(bd:Bool)(k:Nat)(X:Lx)(v:Value):Prop:=
 ∃(bx:Nat) (o:Option Addr) (c:Nat),v=.pointer (some ⟨bx,0,none⟩)∧zh W bx #[.int .i64 (A:Int),.slice o k c,.bool bd] 50∧yR W (.slice o k c) X∧Below V.heap.size V W∧V.heap.size≤bx
omit hV in
theorem zaq{V X:World}{A:Nat}{bd:Bool}{k:Nat}{x:Lx}{o:Option Addr}{c:Nat}(hb:Below V.heap.size V X)(hL:yR X (.slice o k c) x):
  NI V (X.alloc (.cells #[.int .i64 (A:Int),.slice o k c,.bool bd] 50)) A bd k x (.pointer (some ⟨X.heap.size,0,none⟩)):=
 ⟨X.heap.size,o,c,rfl,zh.new X _ _,hL.below ((Below.refl _ _).alloc (Nat.le_refl _) _),hb.alloc hb.size _,hb.size⟩
omit hV in
theorem zar{V X:World}{bx A:Nat}{bd:Bool}{k:Nat}{x:Lx}{o:Option Addr}{c:Nat}{a0:Int}{q0:Option Addr}{q1 q2:Nat}{e0:Bool}(hb:Below V.heap.size V X)(hL:yR X (.slice o k c) x)
 (kx:zh X bx #[.int .i64 a0,.slice q0 q1 q2,.bool e0] 50)(h2:V.heap.size≤bx):
  NI V (((X.setCell ⟨bx,0,none⟩ (.int .i64 (A:Int))).setCell ⟨bx,1,none⟩ (.slice o k c)).setCell ⟨bx,2,none⟩ (.bool bd)) A bd k x (.pointer (some ⟨bx,0,none⟩)):=by
 have hF:zg (λk=>k=bx) X (((X.setCell ⟨bx,0,none⟩ (.int .i64 (A:Int))).setCell ⟨bx,1,none⟩ (.slice o k c)).setCell ⟨bx,2,none⟩ (.bool bd)):=
  zg.setCell (p:=λk=>k=bx) (zg.setCell (p:=λk=>k=bx) (zg.setCell (p:=λk=>k=bx) (zg.refl _ X) 0 (.inl rfl) _) 1 (.inl rfl) _) 2 (.inl rfl) _
 exact⟨bx,o,c,rfl,((kx.set 0 _).set 1 _).set 2 _,hL.Y9 kx NJ hF,hb.trans (hF.below hb.size (λk hk=>by rw[hk];exact h2)),h2⟩
omit hV in
end
theorem zjo{arr:Array Value}{n i:Nat}(hs:arr.size=n*4)(hi:i<n)(v0 v1 v2 v3:Value):∃qx:Array Value,(((arr.setIfInBounds (i*4) v0).setIfInBounds (i*4+1) v1).setIfInBounds (i*4+2) v2).setIfInBounds (i*4+3) v3=qx∧qx.size=n*4∧(∀o,o<i*4→qx[o]?=arr[o]?)∧qx[i*4]?=some v0∧qx[i*4+1]?=some v1∧qx[i*4+2]?=some v2∧qx[i*4+3]?=some v3:=by
 refine⟨_,rfl,by simp[hs],λo ho=>?_,?_,?_,?_,?_⟩
 ·rw[Array.getElem?_setIfInBounds_ne (by omega),Array.getElem?_setIfInBounds_ne (by omega),Array.getElem?_setIfInBounds_ne (by omega),Array.getElem?_setIfInBounds_ne (by omega)]
 ·rw[Array.getElem?_setIfInBounds_ne (by omega),Array.getElem?_setIfInBounds_ne (by omega),Array.getElem?_setIfInBounds_ne (by omega),Array.getElem?_setIfInBounds_self_of_lt (by omega)]
 ·rw[Array.getElem?_setIfInBounds_ne (by omega),Array.getElem?_setIfInBounds_ne (by omega),Array.getElem?_setIfInBounds_self_of_lt (by simp;omega)]
 ·rw[Array.getElem?_setIfInBounds_ne (by omega),Array.getElem?_setIfInBounds_self_of_lt (by simp;omega)]
 ·rw[Array.getElem?_setIfInBounds_self_of_lt (by simp;omega)]
def zjq(l:List Tk)(W:World)(z n:Nat)(v:Value)(wr:World):Prop:=
 ∃(i:Nat) (arr:Array Value),i≤n∧v=.int .i64 (i:Int)∧zh wr z arr 44∧arr.size=n*4∧(∀(j:Nat) t,j<i→l[j]?=some t→arr[j*4]?=some (.int .i64 (t.kind:Int))∧arr[j*4+1]?=some (.int .i64 (t.zf:Int))∧arr[j*4+2]?=some (.int .i64 (t.en:Int))∧arr[j*4+3]?=some (.bool t.op))∧zg (λk=>k=z) W wr
section
variable(w:World)(b:Nat)(s:ByteArray)(I:List (Tk×Mk))(E:Mk)(D:List Dl)(oi:Option Addr)(ni ci:Nat)(od:Option Addr)(nd cd:Nat)(hV:jH w b s I E D oi ni ci od nd cd)
include hV
theorem OO:Calls Tryz.prog 16 #[.pointer (some ⟨b,0,none⟩)] w λe w'=>∃z c,e=.returned (.slice (some ⟨z,0,none⟩) ni c)∧ZL w' (some ⟨z,0,none⟩) ni (I.map Prod.fst)∧w.heap.size≤z∧Below w.heap.size w w'∧ni≤c:=by
 have hln:=hV.its.len;have hle:=YN w b s I E D oi ni ci od nd cd hV;have hsz:=hV.sz;have dF:ni≤900:=by omega
 obtain⟨i0,hi0,hz0,hs0,hb0⟩:=info_parts zat
 have Jl:=λW=>run_make (P:=Tryz.prog) W 39 44 i0 _ Tryz.underlying39 hi0 hz0 .i64 .i64 (ni:Int) (ni:Int) (by omega) (Int.le_refl _) (by rw[hb0];omega) (by omega);simp only[Int.toNat_natCast,hs0]at Jl;obtain⟨M0,hM0⟩:∃M,madeCells (Value.agg #[.int .i64 0,.int .i64 0,.int .i64 0,.bool false]).cells (ni*4)=M:=⟨_,rfl⟩;have hM1:M0.size=ni*4:=by rw[←hM0,size_madeCells]
 rw[hM0]at Jl;clear hM0;have hmk:∀W,(Instr.makeSlice 39 (.int .i64 (ni:Int)) (.int .i64 (ni:Int))).run Tryz.prog W=.ok (.slice (some ⟨W.heap.size,0,none⟩) ni ni) (W.alloc (.cells M0 44)):=Jl;have hB:=(Below.refl w.heap.size w).alloc (Nat.le_refl _) (.cells M0 44);have kz:=zh.new w M0 44;have hV1:=hV.below hB;have a1:=hV.blk.cell 1;have a1':=hV1.blk.cell 1;have HV:=hid hV;have HI:=hid hV1.its;have HB:=hid hB;have uo:=hid hln;have YF:=hid hM1;have HI0:=hid (And.intro hi0 (And.intro hz0 (And.intro hs0 hb0)));clear Jl hV hV1 hln hle hM1 hi0 hz0 hs0 hb0 hB;go_enter Tryz.func16,Tryz.ntmps16;go_wp2;obtain⟨W1,hW1⟩:∃Z,w.alloc (.cells M0 44)=Z:=⟨_,rfl⟩;rw[hW1]at kz HI HB a1' ⊢;obtain⟨z,hz⟩:∃z,w.heap.size=z:=⟨_,rfl⟩;rw[hz]at kz ⊢;have HZ:=hid hz;clear hW1 hz
 go_loopw [17] (λv wr=>zjq (I.map Prod.fst) W1 z ni v wr) (λv _=>ni-(intOf v).toNat)
 case atStart=>exact⟨0,M0,Nat.zero_le _,rfl,kz,YF.out,λj t hj=>by omega,zg.refl _ _⟩
 case round=>
  obtain⟨i,arr,hi,rfl,dG,hsz',hcs,hF⟩:=hrel;have HF:=hid hF;have HCS:=hid hcs;have KH:=hid hsz';by_cases hlt:i<ni
  ·have q1:(i:Int)<(ni:Int):=by omega
   have q0:(0:Int)≤(i:Int):=by omega
   have hg:I[i]?=some (I[i]'(by have:=uo.out;omega)):=List.getElem?_eq_getElem _;generalize I[i]'(by have:=uo.out;omega)=q at hg;obtain⟨g1,o1,rfl,h1,hit⟩:=HV.out.its.cells i q hg;have hgz:g1≠z:=by have:=HZ.out;omega
   have hg1:g1<W1.heap.size:=Nat.lt_of_lt_of_le h1 HB.out.size;have hit2:=hit.of (λk=>(hF.cell (a:=⟨g1,k,none⟩) hg1 hgz).trans (HB.out.cell (p:=⟨g1,k,none⟩) h1));obtain⟨⟨tk,tf,te,top⟩,⟨A,bd,f,e⟩⟩:=q;obtain⟨c0,c1,c2,c3,c4,c5,c6,c7⟩:=hit2;dsimp only at c0 c1 c2 c3 c4 c5 c6 c7;have HG:=hid hg;have hex:∀k,k<4→∃u,arr[i*4+k]?=some u:=λk hk=>⟨_,Array.getElem?_eq_getElem (by omega)⟩;obtain⟨u0,hu0⟩:=hex 0 (by omega);obtain⟨u1,hu1⟩:=hex 1 (by omega);obtain⟨u2,hu2⟩:=hex 2 (by omega);obtain⟨u3,hu3⟩:=hex 3 (by omega);rw[Nat.add_zero]at hu0;have k0:=dG;have k1:=k0.set (i*4) (.int .i64 (tk:Int));have k2:=k1.set (i*4+1) (.int .i64 (tf:Int));have k3:=k2.set (i*4+2) (.int .i64 (te:Int));have g1':(arr.setIfInBounds (i*4) (.int .i64 (tk:Int)))[i*4+1]?=some u1:=by rw[Array.getElem?_setIfInBounds_ne (by omega)];exact hu1
   have g2':((arr.setIfInBounds (i*4) (.int .i64 (tk:Int))).setIfInBounds (i*4+1) (.int .i64 (tf:Int)))[i*4+2]?=some u2:=by rw[Array.getElem?_setIfInBounds_ne (by omega),Array.getElem?_setIfInBounds_ne (by omega)];exact hu2
   have g3':(((arr.setIfInBounds (i*4) (.int .i64 (tk:Int))).setIfInBounds (i*4+1) (.int .i64 (tf:Int))).setIfInBounds (i*4+2) (.int .i64 (te:Int)))[i*4+3]?=some u3:=by rw[Array.getElem?_setIfInBounds_ne (by omega),Array.getElem?_setIfInBounds_ne (by omega),Array.getElem?_setIfInBounds_ne (by omega)];exact hu3
   have d0:=(k0.cell (i*4)).trans hu0;have d1:=(k1.cell (i*4+1)).trans g1';have d2:=(k2.cell (i*4+2)).trans g2';have d3:=(k3.cell (i*4+3)).trans g3';have f0:=k0.frozen (i*4);have f1:=k1.frozen (i*4+1);have f2:=k2.frozen (i*4+2);have f3:=k3.frozen (i*4+3);have e1:=((k1.alloc (.cells #[.int .i64 (tk:Int),.int .i64 (tf:Int),.int .i64 (te:Int),.bool top,.int .i64 (A:Int),.bool bd,.int .i64 (f:Int),.int .i64 (e:Int)] 82)).cell (i*4+1)).trans g1';have e2:=((k2.alloc (.cells #[.int .i64 (tk:Int),.int .i64 (tf:Int),.int .i64 (te:Int),.bool top,.int .i64 (A:Int),.bool bd,.int .i64 (f:Int),.int .i64 (e:Int)] 82)).cell (i*4+2)).trans g2';have e3:=((k3.alloc (.cells #[.int .i64 (tk:Int),.int .i64 (tf:Int),.int .i64 (te:Int),.bool top,.int .i64 (A:Int),.bool bd,.int .i64 (f:Int),.int .i64 (e:Int)] 82)).cell (i*4+3)).trans g3';have p1:=(k1.alloc (.cells #[.int .i64 (tk:Int),.int .i64 (tf:Int),.int .i64 (te:Int),.bool top,.int .i64 (A:Int),.bool bd,.int .i64 (f:Int),.int .i64 (e:Int)] 82)).frozen (i*4+1);have p2:=(k2.alloc (.cells #[.int .i64 (tk:Int),.int .i64 (tf:Int),.int .i64 (te:Int),.bool top,.int .i64 (A:Int),.bool bd,.int .i64 (f:Int),.int .i64 (e:Int)] 82)).frozen (i*4+2);have p3:=(k3.alloc (.cells #[.int .i64 (tk:Int),.int .i64 (tf:Int),.int .i64 (te:Int),.bool top,.int .i64 (A:Int),.bool bd,.int .i64 (f:Int),.int .i64 (e:Int)] 82)).frozen (i*4+3);have HKA:=hid k3;have hzl:z<wr.heap.size:=dG.lt;clear hit hg hex hu0 hu1 hu2 hu3 g1' g2' g3' k0 k1 k2 k3 dG hF hcs hsz';go_wp2
   go_roundw
   case rel=>
    obtain⟨qx,h0,h1',h2,h3,h4,h5,h6⟩:=zjo KH.out hlt (.int .i64 (tk:Int)) (.int .i64 (tf:Int)) (.int .i64 (te:Int)) (.bool top);have k4:=(HKA.out.set (i*4+3) (.bool top)).alloc (.cells #[.int .i64 (tk:Int),.int .i64 (tf:Int),.int .i64 (te:Int),.bool top,.int .i64 (A:Int),.bool bd,.int .i64 (f:Int),.int .i64 (e:Int)] 82);rw[h0]at k4;refine⟨i+1,qx,by omega,by go_num,k4,h1',λj t hj ht=>?_,?_⟩
    ·rcases Nat.lt_or_ge j i with g|g
     ·obtain⟨e0,e1,e2,e3⟩:=HCS.out j t g ht
      exact⟨(h2 _ (by omega)).trans e0,(h2 _ (by omega)).trans e1,(h2 _ (by omega)).trans e2,(h2 _ (by omega)).trans e3⟩
     ·have hji:j=i:=by omega
      subst hji;rw[List.getElem?_map,HG.out]at ht;have ht':(⟨tk,tf,te,top⟩:Tk)=t:=by simpa using ht
      subst ht';exact⟨h3,h4,h5,h6⟩
    ·exact(zg.setCell (p:=λk=>k=z) (zg.setCell (p:=λk=>k=z) (zg.setCell (p:=λk=>k=z) (zg.setCell (p:=λk=>k=z) HF.out _ (.inl rfl) _) _ (.inl rfl) _) _ (.inl rfl) _) _ (.inl rfl) _).alloc _
   case measure=>simp[intOf];omega
  ·have q1:¬(i:Int)<(ni:Int):=by omega
   have HK:=hid dG;clear hcs hsz' hF dG;go_wp2;go_ret;have hB1:=HB.out.trans (HF.out.below HB.out.size (λk hk=>by have e:k=z:=hk;have:=HZ.out;omega));refine⟨z,ni,rfl,⟨by rw[List.length_map];exact uo.out,λj t hj=>?_⟩,by have:=HZ.out;omega,hB1,Nat.le_refl _⟩;have hjn:j<ni:=by have:=(List.getElem?_eq_some_iff.1 hj).1;rw[List.length_map]at this;have:=uo.out;omega
   obtain⟨e0,e1,e2,e3⟩:=HCS.out j t (by omega) hj;refine⟨z,0,rfl,HK.out.lt,?_,?_,?_,?_⟩
   ·rw[Nat.zero_add];exact(HK.out.cell _).trans e0
   ·rw[Nat.zero_add];exact(HK.out.cell _).trans e1
   ·rw[Nat.zero_add];exact(HK.out.cell _).trans e2
   ·rw[Nat.zero_add];exact(HK.out.cell _).trans e3
end
end Go.Proofs.YtdjcidackkogjaaGreatDoor

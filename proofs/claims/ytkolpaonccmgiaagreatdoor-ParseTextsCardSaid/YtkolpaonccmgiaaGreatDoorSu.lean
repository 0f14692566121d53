/- How chapter 13 makes a tree, plainly: a small lang -/
import Derived.Test.YtkolpaonccmgiaaGreatDoorSc
namespace Go.Proofs.YtkolpaonccmgiaaGreatDoor.Q
set_option linter.unusedSectionVars false
set_option linter.unusedVariables false
open Go.RowKit
structure PS where
 a:Nat
 L:List Nd
 u:Int
 d:Nat
def lf0:Lf:=⟨0,⟨#[]⟩,0,0⟩
inductive PP
 |skip:PP
 |zu:PP
 |lst:PP
 |node:Int->Bool->PP->PP
 |seq:PP->PP->PP
 |ite:(PS->Bool)->PP->PP->PP
 |rep:(PS->Bool)->PP->(PS->Bool)->PP->PP
def zk(k:Int)(dp:Bool)(s:PS):PS:=⟨s.a,s.L++ [⟨k,s.a,0,s.u⟩],(s.L.length:Int),s.d+dp.toNat⟩
def fin(k:Int)(s s':PS):PS:=⟨s'.a,s'.L.set s.L.length ⟨k,s.a,s'.a,s.u⟩,s.u,s.d⟩
def zA(s:PS):PS:=⟨s.a+1,s.L,s.u,s.d⟩
section
variable(n:Nat)(lv:Nat->Lf)
def yF(i:Nat):Lf:=if i<n then lv i else lf0
def zJ(i:Nat):Nat:=XJ (yF n lv i).k (yF n lv i).s
def isS(l:List Nat)(s:PS):Bool:=l.contains (zJ n lv s.a)
def xh(s:PS):Bool:=decide ((yF n lv s.a).k=6)
def vG(s:PS):Bool:=zJ n lv s.a==60||(zJ n lv s.a==35 && zJ n lv (s.a+1)==60)
def kZ(s:PS):Bool:=[123,40,105,119,114,99].contains (zJ n lv s.a)&& decide (s.d<200)
def JR(s:PS):Bool:=zJ n lv s.a==120 && ui (yF n lv s.a).s && zJ n lv (s.a+1)==40 && decide (s.d<200)
def XL(s:PS):Bool:=zJ n lv s.a==120||vG n lv s||kZ n lv s
def xI(s:PS):Bool:=zJ n lv s.a==33||XL n lv s
def nZ(s:PS):Bool:=xh n lv s && decide (0<qN (yF n lv s.a).s)
def Zh(s:PS):Bool:=xh n lv s && ui (yF n lv s.a).s
def QY(s:PS):Bool:=zJ n lv s.a==40||(xh n lv s && !(zJ n lv s.a==122))
def qA(s:PS):Bool:=true
def Vj:PP:=.node 18 false .skip
def Jf:PP:=.node 7 false .zu
def zaa(l:List Nat):PP:=.ite (isS n lv l) .zu .skip
def um:PP:=.rep (isS n lv [110]) .zu qA .skip
def JS(b:Nat):PP:=.ite (isS n lv [b]) .zu Vj
def JU:PP:=.ite (xh n lv) Jf Vj
def wO:PP:=.seq (um n lv) (.ite (xI n lv) .lst Vj)
def wP:PP:=.node 8 false (.seq (.ite (isS n lv [35]) (.seq .zu .zu) .zu) (JU n lv))
def Yf:PP:=.rep (vG n lv) (wP n lv) qA .skip
def wQ(k:Int)(w:PP):PP:=.node k true (.seq .zu (.seq w (Yf n lv)))
def Pg:PP:=.seq (JS n lv 100) (.seq (wO n lv) (JS n lv 103))
def Lh(b:Nat):PP:=.seq (wO n lv) (JS n lv b)
def Na:PP:=.seq (wO n lv) (.seq (JS n lv 116) (wO n lv))
def Nb:PP:=.seq (Na n lv) (.seq (.rep (isS n lv [101]) (.seq .zu (Na n lv)) qA .skip) (.seq (.ite (isS n lv [108]) (.seq .zu (wO n lv)) .skip) (JS n lv 102)))
def Ph:PP:=.seq (wO n lv) (Pg n lv)
def zab:PP:=.ite (isS n lv [107]) (.seq .zu (.seq (.rep (xh n lv) Jf qA .skip) (.ite (isS n lv [59,110]) (.seq .zu (um n lv)) Vj))) .skip
def Nc:PP:=.seq (.ite (Zh n lv) Jf Vj) (.seq (.ite (isS n lv [59]) (.seq .zu (um n lv)) (.seq (um n lv) (zab n lv))) (Pg n lv))
def Lj:PP:=.seq (zaa n lv [40]) (.seq (JU n lv) (.seq (.rep (isS n lv [124]) (.seq .zu (JU n lv)) qA .skip) (.seq (JS n lv 41) (.seq (um n lv) (.ite (xI n lv) .lst .skip)))))
def dO:PP:=.rep (QY n lv) (.node 15 false (Lj n lv)) (isS n lv [121]) (.seq .zu (um n lv))
def Nh:PP:=.seq (JU n lv) (.seq (um n lv) (.seq (JS n lv 107) (.seq (um n lv) (.seq (dO n lv) (JS n lv 122)))))
def Jg:PP:=.ite (isS n lv [123]) (wQ n lv 9 (Lh n lv 125)) (.ite (isS n lv [40]) (wQ n lv 10 (Lh n lv 41)) (.ite (isS n lv [105]) (wQ n lv 11 (Nb n lv)) (.ite (isS n lv [119]) (wQ n lv 12 (Ph n lv)) (.ite (isS n lv [114]) (wQ n lv 13 (Nc n lv)) (wQ n lv 14 (Nh n lv))))))
def Nj:PP:=.seq Jf (.seq .zu (.seq (JS n lv 41) (.seq (um n lv) (.ite (kZ n lv) (Jg n lv) Vj))))
def Pj(s:PS):Bool:=vG n lv s||nZ n lv s
def dP(s:PS):Bool:=vG n lv s||xh n lv s
def zhT:PP:=.rep (Pj n lv) (.ite (vG n lv) (wP n lv) (.node 6 false .zu)) qA .skip
def QZ:PP:=.rep (dP n lv) (.ite (vG n lv) (wP n lv) Jf) qA .skip
def Yg:PP:=.seq (zhT n lv) (QZ n lv)
def gX:PP:=.ite (kZ n lv) (Jg n lv) (.ite (JR n lv) (.node 16 true (Nj n lv)) (.ite (XL n lv) (.node 5 false (Yg n lv)) Vj))
def Nk:PP:=.seq (zaa n lv [33]) (.seq (gX n lv) (.rep (isS n lv [124]) (.seq .zu (.seq (um n lv) (gX n lv))) qA .skip))
def dQ:PP:=.node 4 false (Nk n lv)
def Pm:PP:=.seq (dQ n lv) (.rep (isS n lv [97,111]) (.seq .zu (.seq (um n lv) (.ite (xI n lv) (dQ n lv) Vj))) qA .skip)
def dR:PP:=.node 3 false (Pm n lv)
def wR:PP:=.seq (dR n lv) (.rep (isS n lv [59,38,110]) (.seq .zu (um n lv)) (xI n lv) (dR n lv))
def Q3:PP:=.node 2 false (wR n lv)
inductive Ev:PP->PS->PS->Prop
 |skip {s:PS}:Ev .skip s s
 |zu {s:PS}:Ev .zu s (zA s)
 |lst {s s':PS}:Ev (Q3 n lv) s s'->Ev .lst s s'
 |node {k:Int} {dp:Bool} {b:PP} {s s':PS}:Ev b (zk k dp s) s'->Ev (.node k dp b) s (fin k s s')
 |seq {a b:PP} {s s1 s':PS}:Ev a s s1->Ev b s1 s'->Ev (.seq a b) s s'
 |yes {c:PS->Bool} {a b:PP} {s s':PS}:c s=true->Ev a s s'->Ev (.ite c a b) s s'
 |no {c:PS->Bool} {a b:PP} {s s':PS}:c s=false->Ev b s s'->Ev (.ite c a b) s s'
 |stop {c d:PS->Bool} {b t:PP} {s:PS}:c s=false->Ev (.rep c b d t) s s
 |out {c d:PS->Bool} {b t:PP} {s s':PS}:c s=true->Ev b s s'->d s'=false->Ev (.rep c b d t) s s'
 |go {c d:PS->Bool} {b t:PP} {s s1 s2 s':PS}:c s=true->Ev b s s1->d s1=true->Ev t s1 s2->Ev (.rep c b d t) s2 s'->Ev (.rep c b d t) s s'
end
variable{n:Nat}{lv:Nat->Lf}
theorem Ev.one{p:PP}{s x y:PS}(h:Ev n lv p s x)(g:Ev n lv p s y):x=y:=by
 induction h generalizing y with
 |skip=>cases g;rfl
 |zu=>cases g;rfl
 |lst _ ih=>cases g with|lst g=>exact ih g
 |node _ ih=>cases g with|node g=>rw[ih g]
 |seq _ _ ih1 ih2=>cases g with|seq g1 g2=>rw[←ih1 g1]at g2;exact ih2 g2
 |yes hc _ ih=>cases g with
  |yes _ g=>exact ih g
  |no hc' _=>rw[hc]at hc';cases hc'
 |no hc _ ih=>cases g with
  |yes hc' _=>rw[hc]at hc';cases hc'
  |no _ g=>exact ih g
 |stop hc=>cases g with
  |stop _=>rfl
  |out hc' _ _=>rw[hc]at hc';cases hc'
  |go hc' _ _ _ _=>rw[hc]at hc';cases hc'
 |out hc _ hd ih=>cases g with
  |stop hc'=>rw[hc]at hc';cases hc'
  |out _ g _=>exact ih g
  |go _ g hd' _ _=>rw[←ih g,hd]at hd';cases hd'
 |go hc _ hd _ _ ih1 ih2 ih3=>cases g with
  |stop hc'=>rw[hc]at hc';cases hc'
  |out _ g hd'=>rw[←ih1 g,hd]at hd';cases hd'
  |go _ g _ g2 g3=>
   have e1:=ih1 g;subst e1;have e2:=ih2 g2;subst e2;exact ih3 g3
structure Kp(s s':PS):Prop where
 d:s'.d=s.d
 u:s'.u=s.u
 a:s.a<=s'.a
 l:s.L.length<=s'.L.length
 x:∀i,i<s.L.length->s'.L[i]?=s.L[i]?
theorem Kp.refl(s:PS):Kp s s:=⟨rfl,rfl,Nat.le_refl _,Nat.le_refl _,λ_ _=>rfl⟩
theorem Kp.trans{a b c:PS}(h:Kp a b)(g:Kp b c):Kp a c:=
 ⟨g.d.trans h.d,g.u.trans h.u,Nat.le_trans h.a g.a,Nat.le_trans h.l g.l,λi hi=>(g.x i (Nat.lt_of_lt_of_le hi h.l)).trans (h.x i hi)⟩
theorem zhU{k:Int}{dp:Bool}{s s':PS}(h:Kp (zk k dp s) s'):Kp s (fin k s s'):=by
 have hl:=h.l;have hx:=h.x;have ha:=h.a;simp only[zk,List.length_append,List.length_singleton]at hl hx ha;refine⟨rfl,rfl,ha,?_,λi hi=>?_⟩
 ·simp only[fin,List.length_set];omega
 ·simp only[fin]
  rw[List.getElem?_set_ne (by omega),hx i (by omega),List.getElem?_append_left hi]
theorem Ev.kp{p:PP}{s s':PS}(h:Ev n lv p s s'):Kp s s':=by
 induction h with
 |skip=>exact Kp.refl _
 |zu=>exact⟨rfl,rfl,Nat.le_succ _,Nat.le_refl _,λ_ _=>rfl⟩
 |lst _ ih=>exact ih
 |node _ ih=>exact zhU ih
 |seq _ _ h1 h2=>exact h1.trans h2
 |yes _ _ ih=>exact ih
 |no _ _ ih=>exact ih
 |stop _=>exact Kp.refl _
 |out _ _ _ ih=>exact ih
 |go _ _ _ _ _ h1 h2 h3=>exact(h1.trans h2).trans h3
def zC(s:PS):Int:=(s.L.length:Int)-30*(s.a:Int)
def cst:PP->Int
 | .skip=>0
 | .zu=> -30
 | .lst=>4
 | .node _ _ b=>1+cst b
 | .seq a b=>cst a+cst b
 | .ite _ a b=>max (cst a) (cst b)
 | .rep _ b _ _=>max 0 (cst b)
def YH:PP->Bool
 | .skip=>true
 | .zu=>true
 | .lst=>true
 | .node _ _ b=>YH b
 | .seq a b=>YH a && YH b
 | .ite _ a b=>YH a && YH b
 | .rep _ b _ t=>YH b && YH t && decide (cst b+cst t<=0)
theorem zhV:cst (Q3 n lv)<=4:=of_decide_eq_true (by rfl)
theorem zhW:YH (Q3 n lv)=true:=by rfl
theorem Ev.zC{p:PP}{s s':PS}(h:Ev n lv p s s'):YH p=true->zC s'<=zC s+cst p:=by
 induction h with
 |skip=>intro _;simp[cst]
 |zu=>intro _;simp only[Go.Proofs.YtkolpaonccmgiaaGreatDoor.Q.zC,zA,cst];omega
 |lst _ ih=>
  intro _;have:=ih zhW;have h4:=zhV (n:=n) (lv:=lv);simp only[cst];omega
 |node _ ih=>
  intro ho;have h1:=ih ho;simp only[Go.Proofs.YtkolpaonccmgiaaGreatDoor.Q.zC,zk,fin,cst,List.length_append,List.length_singleton,List.length_set]at h1 ⊢;omega
 |seq _ _ h1 h2=>
  intro ho;simp only[YH,Bool.and_eq_true]at ho;have g1:=h1 ho.1;have g2:=h2 ho.2;simp only[cst];omega
 |yes _ _ ih=>
  intro ho;simp only[YH,Bool.and_eq_true]at ho;have g1:=ih ho.1;simp only[cst];omega
 |no _ _ ih=>
  intro ho;simp only[YH,Bool.and_eq_true]at ho;have g1:=ih ho.2;simp only[cst];omega
 |stop _=>intro _;simp only[cst];omega
 |out _ _ _ ih=>
  intro ho;simp only[YH,Bool.and_eq_true]at ho;have g1:=ih ho.1.1;simp only[cst];omega
 |go _ _ _ _ _ h1 h2 h3=>
  intro ho;have g3:=h3 ho;simp only[YH,Bool.and_eq_true,decide_eq_true_eq]at ho;have g1:=h1 ho.1.1;have g2:=h2 ho.1.2;have:=ho.2;simp only[cst]at g3 ⊢;omega
theorem Xd{i:Nat}(h:zJ n lv i≠63):i<n:=by
 rcases Nat.lt_or_ge i n with g|g
 ·exact g
 ·exfalso
  apply h;unfold zJ yF;rw[if_neg (by omega)];rfl
theorem ZR{s:PS}(h:xh n lv s=true):s.a<n:=by
 rcases Nat.lt_or_ge s.a n with g|g
 ·exact g
 ·exfalso
  unfold xh yF at h;rw[if_neg (by omega)]at h;exact absurd h (by decide)
theorem yV{l:List Nat}{s:PS}(h:isS n lv l s=true)(hl:63∉l):s.a<n:=by
 refine Xd (lv:=lv) (λe=>?_);unfold isS at h;rw[e]at h;exact hl (by simpa using h)
theorem zhX{s:PS}(h:vG n lv s=true):s.a<n:=by
 refine Xd (lv:=lv) (λe=>?_);unfold vG at h;rw[e]at h;simp at h
theorem zhY{k:Int}{t:ByteArray}(h:XJ k t=120):k=6:=by
 unfold XJ at h;split at h
 ·exact absurd h (by decide)
 ·split at h
  ·exfalso
   have:∀o,o<18->Q4 o≠120:=by decide
   by_cases ho:vI t<18
   ·exact this _ ho h
   ·unfold Q4 at h
    rw[List.getD_eq_getElem?_getD,List.getElem?_eq_none (by simpa using ho)]at h;exact absurd h (by decide)
  ·split at h
   ·exact absurd h (by decide)
   ·split at h
    ·assumption
    ·exact absurd h (by decide)
theorem zhZ{s:PS}(h:zJ n lv s.a=120):xh n lv s=true:=by
 unfold xh;rw[decide_eq_true_iff];exact zhY h
theorem Ev.Vk{s s':PS}(h:Ev n lv (wP n lv) s s'):s.a<s'.a:=by
 cases h with|node h=>cases h with|seq h1 h2=>
  have k2:=h2.kp.a;simp only[fin]
  cases h1 with
  |yes _ h=>cases h with|seq g1 g2=>cases g1;have:=g2.kp.a;simp only[zA,zk]at this ⊢;omega
  |no _ h=>cases h;simp only[zA,zk]at k2 ⊢;omega
theorem Ev.dS{k:Int}{w:PP}{s s':PS}(h:Ev n lv (wQ n lv k w) s s'):s.a<s'.a:=by
 cases h with|node h=>cases h with|seq h1 h2=>
  have k2:=h2.kp.a;cases h1;simp only[fin,zA,zk]at k2 ⊢;omega
theorem Ev.zh0{s s':PS}(h:Ev n lv (Jg n lv) s s'):s.a<s'.a:=by
 cases h with
 |yes _ h=>exact h.dS
 |no _ h=>cases h with
  |yes _ h=>exact h.dS
  |no _ h=>cases h with
   |yes _ h=>exact h.dS
   |no _ h=>cases h with
    |yes _ h=>exact h.dS
    |no _ h=>cases h with
     |yes _ h=>exact h.dS
     |no _ h=>exact h.dS
theorem Ev.word_lt{k:Int}{s s':PS}(h:Ev n lv (.node k false .zu) s s'):s.a<s'.a:=by
 cases h with|node h=>cases h;simp only[fin,zA,zk];omega
theorem Ev.zh1{s s':PS}(h:Ev n lv (Yg n lv) s s')(hs:dP n lv s=true):s.a<s'.a:=by
 cases h with|seq h1 h2=>
 have k2:=h2.kp.a
 cases h1 with
 |stop hc=>
  cases h2 with
  |stop hc2=>rw[hs]at hc2;cases hc2
  |out _ _ hd=>cases hd
  |go _ hb _ ht hr=>
   have:=ht.kp.a;have:=hr.kp.a
   cases hb with
   |yes _ h=>have:=h.Vk;omega
   |no _ h=>have:=h.word_lt;omega
 |out _ _ hd=>cases hd
 |go _ hb _ ht hr=>
  have:=ht.kp.a;have:=hr.kp.a
  cases hb with
  |yes _ h=>have:=h.Vk;omega
  |no _ h=>have:=h.word_lt;omega
theorem Ev.zh2{s s':PS}(h:Ev n lv (gX n lv) s s')(hs:XL n lv s=true):s.a<s'.a:=by
 cases h with
 |yes _ h=>exact h.zh0
 |no hc h=>cases h with
  |yes _ h=>cases h with|node h=>cases h with|seq h1 h2=>
   have k1:=h1.word_lt;have k2:=h2.kp.a;simp only[fin,zk]at k1 k2 ⊢;omega
  |no _ h=>cases h with
   |yes _ h=>cases h with|node h=>
    have:=h.zh1 (by
     unfold XL at hs;rw[hc,Bool.or_false]at hs;unfold dP;have e1:vG n lv (zk 5 false s)=vG n lv s:=rfl;have e2:xh n lv (zk 5 false s)=xh n lv s:=rfl;rw[e1,e2];rcases Bool.or_eq_true _ _|>.mp hs with g|g
     ·rw[zhZ (by simpa using g),Bool.or_true]
     ·rw[g,Bool.true_or])
    simp only[fin,zk]at this ⊢;exact this
   |no hc' _=>rw[hs]at hc';cases hc'
theorem zh3{s:PS}(h:xI n lv s=true)(hn:isS n lv [33] s=false):XL n lv s=true:=by
 unfold xI at h;rcases Bool.or_eq_true _ _|>.mp h with g|g
 ·exfalso
  unfold isS at hn;rw[beq_iff_eq.1 g]at hn;simp at hn
 ·exact g
theorem Ev.zh4{s s':PS}(h:Ev n lv (dQ n lv) s s')(hs:xI n lv s=true):s.a<s'.a:=by
 cases h with|node h=>cases h with|seq h1 h2=>
 have k2:=h2.kp.a;simp only[fin]
 cases h1 with
 |yes _ h=>cases h;simp only[zA,zk]at k2 ⊢;omega
 |no hc h=>
  cases h;cases h2 with|seq h3 h4=>
   have k4:=h4.kp.a;have:=h3.zh2 (s:=zk 4 false s) (zh3 (s:=s) hs hc);simp only[zk]at this k4 ⊢;omega
theorem Ev.zh5{s s':PS}(h:Ev n lv (dR n lv) s s')(hs:xI n lv s=true):s.a<s'.a:=by
 cases h with|node h=>cases h with|seq h1 h2=>
  have k2:=h2.kp.a;have:=h1.zh4 (s:=zk 3 false s) hs;simp only[fin,zk]at this k2 ⊢;omega
theorem Ev.zac{s s':PS}(h:Ev n lv (Q3 n lv) s s')(hs:xI n lv s=true):s.a<s'.a:=by
 cases h with|node h=>cases h with|seq h1 h2=>
  have k2:=h2.kp.a;have:=h1.zh5 (s:=zk 2 false s) hs;simp only[fin,zk]at this k2 ⊢;omega
theorem Pn{s:PS}(h:xI n lv s=true):s.a<n:=by
 refine Xd (lv:=lv) (λe=>?_);unfold xI XL vG kZ at h;rw[e]at h;simp at h
def ps0:PS:=⟨0,[],-1,0⟩
end Go.Proofs.YtkolpaonccmgiaaGreatDoor.Q
namespace Go.Proofs.YtkolpaonccmgiaaGreatDoor.Q
set_option linter.unusedSectionVars false
set_option linter.unusedVariables false
open Go.RowKit
variable{n:Nat}{lv:Nat->Lf}
def JW(n:Nat)(s:PS):Bool:=decide (s.a<n)
def Lm:PP:=.node 17 false .zu
def wW(n:Nat)(lv:Nat->Lf):PP:=.seq (um n lv) (.ite (JW n) Lm .skip)
def uZ(n:Nat)(lv:Nat->Lf):PP:=.rep (JW n) (.ite (isS n lv [110]) .zu (.ite (xI n lv) (.seq .lst (wW n lv)) Lm)) qA .skip
theorem zid{p:PP}{s s':PS}(h:Ev n lv p s s')(hp:p=uZ n lv):n<=s'.a:=by
 induction h with
 |skip=>cases hp
 |zu=>cases hp
 |lst _ _=>cases hp
 |node _ _=>cases hp
 |seq _ _ _ _=>cases hp
 |yes _ _ _=>cases hp
 |no _ _ _=>cases hp
 |stop hc=>
  unfold uZ at hp;injection hp with h1 h2 h3 h4;rw[h1]at hc;have:=of_decide_eq_false hc;omega
 |out _ _ hd _=>
  unfold uZ at hp;injection hp with h1 h2 h3 h4;rw[h3]at hd;cases hd
 |go _ _ _ _ _ _ _ ih=>exact ih hp
theorem zie{p:PP}{s s':PS}(h:Ev n lv p s s')(hp:p=uZ n lv):zC s'<=zC s+4:=by
 induction h with
 |skip=>cases hp
 |zu=>cases hp
 |lst _ _=>cases hp
 |node _ _=>cases hp
 |seq _ _ _ _=>cases hp
 |yes _ _ _=>cases hp
 |no _ _ _=>cases hp
 |stop hc=>omega
 |out _ _ hd _=>
  unfold uZ at hp;injection hp with h1 h2 h3 h4;rw[h3]at hd;cases hd
 |go hc hb _ ht hr _ _ ih=>
  have ih':=ih hp;have hp0:=hp;unfold uZ at hp;injection hp with h1 h2 h3 h4;subst h1 h2 h4;cases ht
  cases hb with
  |yes _ h=>cases h;simp only[zC,zA]at ih' ⊢;omega
  |no _ h=>cases h with
   |no _ h=>
    have:=h.zC (by rfl);have h2:cst Lm<= -29:=of_decide_eq_true (by rfl);omega
   |yes _ h=>cases h with|seq g1 g2=>cases g2 with|seq g2 g3=>
    have q1:=g1.zC (by rfl);have q2:=g2.zC (by rfl);have e1:cst PP.lst<=4:=of_decide_eq_true (by rfl);have e2:cst (um n lv)<=0:=of_decide_eq_true (by rfl)
    cases g3 with
    |yes _ h=>
     have:=h.zC (by rfl);have h2:cst Lm<= -29:=of_decide_eq_true (by rfl);omega
    |no hn h=>
     cases h
     cases hr with
     |stop _=>omega
     |out hc' _ _=>rw[hn]at hc';cases hc'
     |go hc' _ _ _ _=>rw[hn]at hc';cases hc'
def Jh(n:Nat)(lv:Nat->Lf)(L:List Nd):Prop:=∃s,Ev n lv (.node 1 false (uZ n lv)) ps0 s/\s.a=n/\L=s.L
theorem Jh.one{L M:List Nd}(h:Jh n lv L)(g:Jh n lv M):L=M:=by
 obtain⟨s,h1,_,rfl⟩:=h;obtain⟨t,g1,_,rfl⟩:=g;rw[h1.one g1]
theorem Jh.len{L:List Nd}(h:Jh n lv L):0<L.length/\L.length<=30*n+10:=by
 obtain⟨s,h1,h2,rfl⟩:=h;cases h1 with|node h1=>
 have h3:=zie h1 rfl;have h4:=h1.kp.l;have h5:(zk 1 false ps0).L.length=1:=by simp[zk,ps0]
 have h6:zC (zk 1 false ps0)=1:=by simp[zC,zk,ps0]
 simp only[fin,List.length_set]at h2 ⊢;simp only[zC]at h3 h6;omega
end Go.Proofs.YtkolpaonccmgiaaGreatDoor.Q
namespace Go.Proofs.YtkolpaonccmgiaaGreatDoor.Q
set_option linter.unusedSectionVars false
set_option linter.unusedVariables false
open Go.RowKit
section
variable(n:Nat)(lv:Nat->Lf)
def ZT:Nat->PP->PS->Option PS
 |0,_,_=>none
 |f+1,.skip,s=>some s
 |f+1,.zu,s=>some (zA s)
 |f+1,.lst,s=>ZT f (Q3 n lv) s
 |f+1,.node k dp b,s=>match ZT f b (zk k dp s)with
  |none=>none
  |some s'=>some (fin k s s')
 |f+1,.seq a b,s=>match ZT f a s with
  |none=>none
  |some s1=>ZT f b s1
 |f+1,.ite c a b,s=>match c s with
  |true=>ZT f a s
  |false=>ZT f b s
 |f+1,.rep c b d t,s=>match c s with
  |false=>some s
  |true=>match ZT f b s with
   |none=>none
   |some s1=>match d s1 with
    |false=>some s1
    |true=>match ZT f t s1 with
     |none=>none
     |some s2=>ZT f (.rep c b d t) s2
theorem zh8:∀(f:Nat) (p:PP) (s s':PS),ZT n lv f p s=some s'->Ev n lv p s s':=by
 intro f
 induction f with
 |zero=>intro p s s' h;cases h
 |succ f ih=>
  intro p s s' h
  cases p with
  |skip=>simp only[ZT,Option.some.injEq]at h;subst h;exact .skip
  |zu=>simp only[ZT,Option.some.injEq]at h;subst h;exact .zu
  |lst=>exact .lst (ih _ _ _ h)
  |node k dp b=>
   simp only[ZT]at h;split at h
   ·cases h
   ·rename_i s1 e
    simp only[Option.some.injEq]at h;subst h;exact .node (ih _ _ _ e)
  |seq a b=>
   simp only[ZT]at h;split at h
   ·cases h
   ·rename_i s1 e
    exact .seq (ih _ _ _ e) (ih _ _ _ h)
  |ite c a b=>
   simp only[ZT]at h;split at h
   ·rename_i e;exact .yes e (ih _ _ _ h)
   ·rename_i e;exact .no e (ih _ _ _ h)
  |rep c b d t=>
   simp only[ZT]at h;split at h
   ·rename_i e;simp only[Option.some.injEq]at h;subst h;exact .stop e
   ·rename_i e
    split at h
    ·cases h
    ·rename_i s1 e1
     split at h
     ·rename_i e2;simp only[Option.some.injEq]at h;subst h;exact .out e (ih _ _ _ e1) e2
     ·rename_i e2
      split at h
      ·cases h
      ·rename_i s2 e3
       exact .go e (ih _ _ _ e1) e2 (ih _ _ _ e3) (ih _ _ _ h)
def Jd:Nat->Bool->PS->Option PS
 |0,_,_=>none
 |f+1,fl,s=>match decide (n<=s.a)with
  |true=>some s
  |false=>match isS n lv [110] s with
   |true=>Jd f fl (zA s)
   |false=>match !fl && xI n lv s with
    |true=>match ZT n lv f (Q3 n lv) s with
     |none=>none
     |some s1=>Jd f true s1
    |false=>match ZT n lv f (.node 17 false .zu) s with
     |none=>none
     |some s1=>Jd f false s1
end
end Go.Proofs.YtkolpaonccmgiaaGreatDoor.Q

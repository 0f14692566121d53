/- How chapter 13 makes a tree, plainly: a small lang -/
import Derived.Test.YtkolpaonccmgiaaGreatDoorSc
set_option linter.unusedVariables false
namespace Go.Proofs.YtkolpaonccmgiaaGreatDoor.Q
set_option linter.unusedSectionVars false
set_option linter.unusedVariables false
open Go.RowKit
structure PS where
 a:Nat
 L:List Nd
 u:Int
 d:Nat
def lf0:Lf:=⟨0,⟨#[]⟩,0,0⟩
inductive PP
 |skip:PP
 |adv:PP
 |lst:PP
 |node:Int→Bool→PP→PP
 |seq:PP→PP→PP
 |ite:(PS→Bool)→PP→PP→PP
 |rep:(PS→Bool)→PP→(PS→Bool)→PP→PP
def bgn (k:Int) (dp:Bool) (s:PS):PS:=⟨s.a,s.L++ [⟨k,s.a,0,s.u⟩],(s.L.length:Int),s.d+dp.toNat⟩
def fin (k:Int) (s s':PS):PS:=⟨s'.a,s'.L.set s.L.length ⟨k,s.a,s'.a,s.u⟩,s.u,s.d⟩
def nxt (s:PS):PS:=⟨s.a+1,s.L,s.u,s.d⟩
section
variable (n:Nat) (lv:Nat→Lf)
def lfA (i:Nat):Lf:=if i<n then lv i else lf0
def sgA (i:Nat):Nat:=sgn (lfA n lv i).k (lfA n lv i).s
def isS (l:List Nat) (s:PS):Bool:=l.contains (sgA n lv s.a)
def wrdT (s:PS):Bool:=decide ((lfA n lv s.a).k=6)
def rdrT (s:PS):Bool:=sgA n lv s.a==60||(sgA n lv s.a==35 && sgA n lv (s.a+1)==60)
def cmpT (s:PS):Bool:=[123,40,105,119,114,99].contains (sgA n lv s.a)&& decide (s.d<200)
def fnT (s:PS):Bool:=sgA n lv s.a==120 && isNm (lfA n lv s.a).s && sgA n lv (s.a+1)==40 && decide (s.d<200)
def cmdT (s:PS):Bool:=sgA n lv s.a==120||rdrT n lv s||cmpT n lv s
def pipT (s:PS):Bool:=sgA n lv s.a==33||cmdT n lv s
def asgT (s:PS):Bool:=wrdT n lv s && decide (0<assignN (lfA n lv s.a).s)
def namT (s:PS):Bool:=wrdT n lv s && isNm (lfA n lv s.a).s
def itmT (s:PS):Bool:=sgA n lv s.a==40||(wrdT n lv s && !(sgA n lv s.a==122))
def yesT (s:PS):Bool:=true
def missP:PP:=.node 18 false .skip
def wordP:PP:=.node 7 false .adv
def optP (l:List Nat):PP:=.ite (isS n lv l) .adv .skip
def nlsP:PP:=.rep (isS n lv [110]) .adv yesT .skip
def wantP (b:Nat):PP:=.ite (isS n lv [b]) .adv missP
def wonP:PP:=.ite (wrdT n lv) wordP missP
def bodyP:PP:=.seq (nlsP n lv) (.ite (pipT n lv) .lst missP)
def redP:PP:=.node 8 false (.seq (.ite (isS n lv [35]) (.seq .adv .adv) .adv) (wonP n lv))
def redsP:PP:=.rep (rdrT n lv) (redP n lv) yesT .skip
def cpP (k:Int) (w:PP):PP:=.node k true (.seq .adv (.seq w (redsP n lv)))
def doneP:PP:=.seq (wantP n lv 100) (.seq (bodyP n lv) (wantP n lv 103))
def encP (b:Nat):PP:=.seq (bodyP n lv) (wantP n lv b)
def brnP:PP:=.seq (bodyP n lv) (.seq (wantP n lv 116) (bodyP n lv))
def brP:PP:=.seq (brnP n lv) (.seq (.rep (isS n lv [101]) (.seq .adv (brnP n lv)) yesT .skip) (.seq (.ite (isS n lv [108]) (.seq .adv (bodyP n lv)) .skip) (wantP n lv 102)))
def loopP:PP:=.seq (bodyP n lv) (doneP n lv)
def valP:PP:=.ite (isS n lv [107]) (.seq .adv (.seq (.rep (wrdT n lv) wordP yesT .skip) (.ite (isS n lv [59,110]) (.seq .adv (nlsP n lv)) missP))) .skip
def eachP:PP:=.seq (.ite (namT n lv) wordP missP) (.seq (.ite (isS n lv [59]) (.seq .adv (nlsP n lv)) (.seq (nlsP n lv) (valP n lv))) (doneP n lv))
def itemP:PP:=.seq (optP n lv [40]) (.seq (wonP n lv) (.seq (.rep (isS n lv [124]) (.seq .adv (wonP n lv)) yesT .skip) (.seq (wantP n lv 41) (.seq (nlsP n lv) (.ite (pipT n lv) .lst .skip)))))
def itmsP:PP:=.rep (itmT n lv) (.node 15 false (itemP n lv)) (isS n lv [121]) (.seq .adv (nlsP n lv))
def casP:PP:=.seq (wonP n lv) (.seq (nlsP n lv) (.seq (wantP n lv 107) (.seq (nlsP n lv) (.seq (itmsP n lv) (wantP n lv 122)))))
def cmpP:PP:=.ite (isS n lv [123]) (cpP n lv 9 (encP n lv 125)) (.ite (isS n lv [40]) (cpP n lv 10 (encP n lv 41)) (.ite (isS n lv [105]) (cpP n lv 11 (brP n lv)) (.ite (isS n lv [119]) (cpP n lv 12 (loopP n lv)) (.ite (isS n lv [114]) (cpP n lv 13 (eachP n lv)) (cpP n lv 14 (casP n lv))))))
def fnbP:PP:=.seq wordP (.seq .adv (.seq (wantP n lv 41) (.seq (nlsP n lv) (.ite (cmpT n lv) (cmpP n lv) missP))))
def sm1T (s:PS):Bool:=rdrT n lv s||asgT n lv s
def sm2T (s:PS):Bool:=rdrT n lv s||wrdT n lv s
def sm1P:PP:=.rep (sm1T n lv) (.ite (rdrT n lv) (redP n lv) (.node 6 false .adv)) yesT .skip
def sm2P:PP:=.rep (sm2T n lv) (.ite (rdrT n lv) (redP n lv) wordP) yesT .skip
def simbP:PP:=.seq (sm1P n lv) (sm2P n lv)
def comP:PP:=.ite (cmpT n lv) (cmpP n lv) (.ite (fnT n lv) (.node 16 true (fnbP n lv)) (.ite (cmdT n lv) (.node 5 false (simbP n lv)) missP))
def pipbP:PP:=.seq (optP n lv [33]) (.seq (comP n lv) (.rep (isS n lv [124]) (.seq .adv (.seq (nlsP n lv) (comP n lv))) yesT .skip))
def pipP:PP:=.node 4 false (pipbP n lv)
def andbP:PP:=.seq (pipP n lv) (.rep (isS n lv [97,111]) (.seq .adv (.seq (nlsP n lv) (.ite (pipT n lv) (pipP n lv) missP))) yesT .skip)
def andP:PP:=.node 3 false (andbP n lv)
def lsbP:PP:=.seq (andP n lv) (.rep (isS n lv [59,38,110]) (.seq .adv (nlsP n lv)) (pipT n lv) (andP n lv))
def listP:PP:=.node 2 false (lsbP n lv)
inductive Ev:PP→PS→PS→Prop
 |skip {s:PS}:Ev .skip s s
 |adv {s:PS}:Ev .adv s (nxt s)
 |lst {s s':PS}:Ev (listP n lv) s s'→Ev .lst s s'
 |node {k:Int} {dp:Bool} {b:PP} {s s':PS}:Ev b (bgn k dp s) s'→Ev (.node k dp b) s (fin k s s')
 |seq {a b:PP} {s s1 s':PS}:Ev a s s1→Ev b s1 s'→Ev (.seq a b) s s'
 |yes {c:PS→Bool} {a b:PP} {s s':PS}:c s=true→Ev a s s'→Ev (.ite c a b) s s'
 |no {c:PS→Bool} {a b:PP} {s s':PS}:c s=false→Ev b s s'→Ev (.ite c a b) s s'
 |stop {c d:PS→Bool} {b t:PP} {s:PS}:c s=false→Ev (.rep c b d t) s s
 |out {c d:PS→Bool} {b t:PP} {s s':PS}:c s=true→Ev b s s'→d s'=false→Ev (.rep c b d t) s s'
 |go {c d:PS→Bool} {b t:PP} {s s1 s2 s':PS}:c s=true→Ev b s s1→d s1=true→Ev t s1 s2→Ev (.rep c b d t) s2 s'→Ev (.rep c b d t) s s'
end
variable {n:Nat} {lv:Nat→Lf}
theorem Ev.one {p:PP} {s x y:PS} (h:Ev n lv p s x) (g:Ev n lv p s y):x=y:=by
 induction h generalizing y with
 |skip=>cases g;rfl
 |adv=>cases g;rfl
 |lst _ ih=>cases g with|lst g=>exact ih g
 |node _ ih=>cases g with|node g=>rw [ih g]
 |seq _ _ ih1 ih2=>cases g with|seq g1 g2=>rw [←ih1 g1]at g2;exact ih2 g2
 |yes hc _ ih=>cases g with
  |yes _ g=>exact ih g
  |no hc' _=>rw [hc]at hc';cases hc'
 |no hc _ ih=>cases g with
  |yes hc' _=>rw [hc]at hc';cases hc'
  |no _ g=>exact ih g
 |stop hc=>cases g with
  |stop _=>rfl
  |out hc' _ _=>rw [hc]at hc';cases hc'
  |go hc' _ _ _ _=>rw [hc]at hc';cases hc'
 |out hc _ hd ih=>cases g with
  |stop hc'=>rw [hc]at hc';cases hc'
  |out _ g _=>exact ih g
  |go _ g hd' _ _=>rw [←ih g,hd]at hd';cases hd'
 |go hc _ hd _ _ ih1 ih2 ih3=>cases g with
  |stop hc'=>rw [hc]at hc';cases hc'
  |out _ g hd'=>rw [←ih1 g,hd]at hd';cases hd'
  |go _ g _ g2 g3=>
   have e1:=ih1 g
   subst e1
   have e2:=ih2 g2
   subst e2
   exact ih3 g3
structure Kp (s s':PS):Prop where
 d:s'.d=s.d
 u:s'.u=s.u
 a:s.a≤s'.a
 l:s.L.length≤s'.L.length
 x:∀i,i<s.L.length→s'.L[i]?=s.L[i]?
theorem Kp.refl (s:PS):Kp s s:=⟨rfl,rfl,Nat.le_refl _,Nat.le_refl _,fun _ _=>rfl⟩
theorem Kp.trans {a b c:PS} (h:Kp a b) (g:Kp b c):Kp a c:=
 ⟨g.d.trans h.d,g.u.trans h.u,Nat.le_trans h.a g.a,Nat.le_trans h.l g.l,fun i hi=>(g.x i (Nat.lt_of_lt_of_le hi h.l)).trans (h.x i hi)⟩
theorem kp_fin {k:Int} {dp:Bool} {s s':PS} (h:Kp (bgn k dp s) s'):Kp s (fin k s s'):=by
 have hl:=h.l
 have hx:=h.x
 have ha:=h.a
 simp only [bgn,List.length_append,List.length_singleton]at hl hx ha
 refine⟨rfl,rfl,ha,?_,fun i hi=>?_⟩
 ·simp only [fin,List.length_set];omega
 ·simp only [fin]
  rw [List.getElem?_set_ne (by omega),hx i (by omega),List.getElem?_append_left hi]
theorem Ev.kp {p:PP} {s s':PS} (h:Ev n lv p s s'):Kp s s':=by
 induction h with
 |skip=>exact Kp.refl _
 |adv=>exact⟨rfl,rfl,Nat.le_succ _,Nat.le_refl _,fun _ _=>rfl⟩
 |lst _ ih=>exact ih
 |node _ ih=>exact kp_fin ih
 |seq _ _ h1 h2=>exact h1.trans h2
 |yes _ _ ih=>exact ih
 |no _ _ ih=>exact ih
 |stop _=>exact Kp.refl _
 |out _ _ _ ih=>exact ih
 |go _ _ _ _ _ h1 h2 h3=>exact(h1.trans h2).trans h3
def pot (s:PS):Int:=(s.L.length:Int) - 30*(s.a:Int)
def cst:PP→Int
 | .skip=>0
 | .adv=> -30
 | .lst=>4
 | .node _ _ b=>1+cst b
 | .seq a b=>cst a+cst b
 | .ite _ a b=>max (cst a) (cst b)
 | .rep _ b _ _=>max 0 (cst b)
def okc:PP→Bool
 | .skip=>true
 | .adv=>true
 | .lst=>true
 | .node _ _ b=>okc b
 | .seq a b=>okc a && okc b
 | .ite _ a b=>okc a && okc b
 | .rep _ b _ t=>okc b && okc t && decide (cst b+cst t≤0)
theorem cst_list:cst (listP n lv)≤4:=of_decide_eq_true (by rfl)
theorem okc_list:okc (listP n lv)=true:=by rfl
theorem Ev.pot {p:PP} {s s':PS} (h:Ev n lv p s s'):okc p=true→pot s'≤pot s+cst p:=by
 induction h with
 |skip=>intro _;simp [cst]
 |adv=>intro _;simp only [Go.Proofs.YtkolpaonccmgiaaGreatDoor.Q.pot,nxt,cst];omega
 |lst _ ih=>
  intro _
  have:=ih okc_list
  have h4:=cst_list (n:=n) (lv:=lv)
  simp only [cst]
  omega
 |node _ ih=>
  intro ho
  have h1:=ih ho
  simp only [Go.Proofs.YtkolpaonccmgiaaGreatDoor.Q.pot,bgn,fin,cst,List.length_append,List.length_singleton,List.length_set]at h1 ⊢
  omega
 |seq _ _ h1 h2=>
  intro ho
  simp only [okc,Bool.and_eq_true]at ho
  have g1:=h1 ho.1
  have g2:=h2 ho.2
  simp only [cst]
  omega
 |yes _ _ ih=>
  intro ho
  simp only [okc,Bool.and_eq_true]at ho
  have g1:=ih ho.1
  simp only [cst]
  omega
 |no _ _ ih=>
  intro ho
  simp only [okc,Bool.and_eq_true]at ho
  have g1:=ih ho.2
  simp only [cst]
  omega
 |stop _=>intro _;simp only [cst];omega
 |out _ _ _ ih=>
  intro ho
  simp only [okc,Bool.and_eq_true]at ho
  have g1:=ih ho.1.1
  simp only [cst]
  omega
 |go _ _ _ _ _ h1 h2 h3=>
  intro ho
  have g3:=h3 ho
  simp only [okc,Bool.and_eq_true,decide_eq_true_eq]at ho
  have g1:=h1 ho.1.1
  have g2:=h2 ho.1.2
  have:=ho.2
  simp only [cst]at g3 ⊢
  omega
theorem sg_le {i:Nat} (h:sgA n lv i≠63):i<n:=by
 rcases Nat.lt_or_ge i n with g|g
 ·exact g
 ·exfalso
  apply h
  unfold sgA lfA
  rw [if_neg (by omega)]
  rfl
theorem wrd_le {s:PS} (h:wrdT n lv s=true):s.a<n:=by
 rcases Nat.lt_or_ge s.a n with g|g
 ·exact g
 ·exfalso
  unfold wrdT lfA at h
  rw [if_neg (by omega)]at h
  exact absurd h (by decide)
theorem isS_le {l:List Nat} {s:PS} (h:isS n lv l s=true) (hl:63∉l):s.a<n:=by
 refine sg_le (lv:=lv) (fun e=>?_)
 unfold isS at h
 rw [e]at h
 exact hl (by simpa using h)
theorem wordS_word {k:Int} {t:ByteArray} (h:sgn k t=120):k=6:=by
 unfold sgn at h
 split at h
 ·exact absurd h (by decide)
 ·split at h
  ·exfalso
   have:∀o,o<18→opS o≠120:=by decide
   by_cases ho:ofN t<18
   ·exact this _ ho h
   ·unfold opS at h
    rw [List.getD_eq_getElem?_getD,List.getElem?_eq_none (by simpa using ho)]at h
    exact absurd h (by decide)
  ·split at h
   ·exact absurd h (by decide)
   ·split at h
    ·assumption
    ·exact absurd h (by decide)
theorem x_word {s:PS} (h:sgA n lv s.a=120):wrdT n lv s=true:=by
 unfold wrdT
 rw [decide_eq_true_iff]
 exact wordS_word h
theorem Ev.red_lt {s s':PS} (h:Ev n lv (redP n lv) s s'):s.a<s'.a:=by
 cases h with|node h=>cases h with|seq h1 h2=>
  have k2:=h2.kp.a
  simp only [fin]
  cases h1 with
  |yes _ h=>cases h with|seq g1 g2=>cases g1;have:=g2.kp.a;simp only [nxt,bgn]at this ⊢;omega
  |no _ h=>cases h;simp only [nxt,bgn]at k2 ⊢;omega
theorem Ev.cp_lt {k:Int} {w:PP} {s s':PS} (h:Ev n lv (cpP n lv k w) s s'):s.a<s'.a:=by
 cases h with|node h=>cases h with|seq h1 h2=>
  have k2:=h2.kp.a
  cases h1
  simp only [fin,nxt,bgn]at k2 ⊢
  omega
theorem Ev.cmp_lt {s s':PS} (h:Ev n lv (cmpP n lv) s s'):s.a<s'.a:=by
 cases h with
 |yes _ h=>exact h.cp_lt
 |no _ h=>cases h with
  |yes _ h=>exact h.cp_lt
  |no _ h=>cases h with
   |yes _ h=>exact h.cp_lt
   |no _ h=>cases h with
    |yes _ h=>exact h.cp_lt
    |no _ h=>cases h with
     |yes _ h=>exact h.cp_lt
     |no _ h=>exact h.cp_lt
theorem Ev.word_lt {k:Int} {s s':PS} (h:Ev n lv (.node k false .adv) s s'):s.a<s'.a:=by
 cases h with|node h=>cases h;simp only [fin,nxt,bgn];omega
theorem Ev.sim_lt {s s':PS} (h:Ev n lv (simbP n lv) s s') (hs:sm2T n lv s=true):s.a<s'.a:=by
 cases h with|seq h1 h2=>
 have k2:=h2.kp.a
 cases h1 with
 |stop hc=>
  cases h2 with
  |stop hc2=>rw [hs]at hc2;cases hc2
  |out _ _ hd=>cases hd
  |go _ hb _ ht hr=>
   have:=ht.kp.a
   have:=hr.kp.a
   cases hb with
   |yes _ h=>have:=h.red_lt;omega
   |no _ h=>have:=h.word_lt;omega
 |out _ _ hd=>cases hd
 |go _ hb _ ht hr=>
  have:=ht.kp.a
  have:=hr.kp.a
  cases hb with
  |yes _ h=>have:=h.red_lt;omega
  |no _ h=>have:=h.word_lt;omega
theorem Ev.com_lt {s s':PS} (h:Ev n lv (comP n lv) s s') (hs:cmdT n lv s=true):s.a<s'.a:=by
 cases h with
 |yes _ h=>exact h.cmp_lt
 |no hc h=>cases h with
  |yes _ h=>cases h with|node h=>cases h with|seq h1 h2=>
   have k1:=h1.word_lt
   have k2:=h2.kp.a
   simp only [fin,bgn]at k1 k2 ⊢
   omega
  |no _ h=>cases h with
   |yes _ h=>cases h with|node h=>
    have:=h.sim_lt (by
     unfold cmdT at hs
     rw [hc,Bool.or_false]at hs
     unfold sm2T
     have e1:rdrT n lv (bgn 5 false s)=rdrT n lv s:=rfl
     have e2:wrdT n lv (bgn 5 false s)=wrdT n lv s:=rfl
     rw [e1,e2]
     rcases Bool.or_eq_true _ _|>.mp hs with g|g
     ·rw [x_word (by simpa using g),Bool.or_true]
     ·rw [g,Bool.true_or])
    simp only [fin,bgn]at this ⊢
    exact this
   |no hc' _=>rw [hs]at hc';cases hc'
theorem cmdT_of {s:PS} (h:pipT n lv s=true) (hn:isS n lv [33] s=false):cmdT n lv s=true:=by
 unfold pipT at h
 rcases Bool.or_eq_true _ _|>.mp h with g|g
 ·exfalso
  unfold isS at hn
  rw [beq_iff_eq.1 g]at hn
  simp at hn
 ·exact g
theorem Ev.pip_lt {s s':PS} (h:Ev n lv (pipP n lv) s s') (hs:pipT n lv s=true):s.a<s'.a:=by
 cases h with|node h=>cases h with|seq h1 h2=>
 have k2:=h2.kp.a
 simp only [fin]
 cases h1 with
 |yes _ h=>cases h;simp only [nxt,bgn]at k2 ⊢;omega
 |no hc h=>
  cases h
  cases h2 with|seq h3 h4=>
   have k4:=h4.kp.a
   have:=h3.com_lt (s:=bgn 4 false s) (cmdT_of (s:=s) hs hc)
   simp only [bgn]at this k4 ⊢
   omega
theorem Ev.and_lt {s s':PS} (h:Ev n lv (andP n lv) s s') (hs:pipT n lv s=true):s.a<s'.a:=by
 cases h with|node h=>cases h with|seq h1 h2=>
  have k2:=h2.kp.a
  have:=h1.pip_lt (s:=bgn 3 false s) hs
  simp only [fin,bgn]at this k2 ⊢
  omega
theorem Ev.list_lt {s s':PS} (h:Ev n lv (listP n lv) s s') (hs:pipT n lv s=true):s.a<s'.a:=by
 cases h with|node h=>cases h with|seq h1 h2=>
  have k2:=h2.kp.a
  have:=h1.and_lt (s:=bgn 2 false s) hs
  simp only [fin,bgn]at this k2 ⊢
  omega
inductive Prg (n:Nat) (lv:Nat→Lf):Bool→PS→PS→Prop
 |done {fl:Bool} {s:PS}:n≤s.a→Prg n lv fl s s
 |nl {fl:Bool} {s s':PS}:isS n lv [110] s=true→Prg n lv fl (nxt s) s'→Prg n lv fl s s'
 |lst {s s1 s':PS}:isS n lv [110] s=false→pipT n lv s=true→Ev n lv (listP n lv) s s1→Prg n lv true s1 s'→Prg n lv false s s'
 |err {fl:Bool} {s s1 s':PS}:s.a<n→isS n lv [110] s=false→(fl=true∨pipT n lv s=false)→Ev n lv (.node 17 false .adv) s s1→Prg n lv false s1 s'→Prg n lv fl s s'
theorem pip_le {s:PS} (h:pipT n lv s=true):s.a<n:=by
 refine sg_le (lv:=lv) (fun e=>?_)
 unfold pipT cmdT rdrT cmpT at h
 rw [e]at h
 simp at h
theorem Prg.one {fl:Bool} {s x y:PS} (h:Prg n lv fl s x) (g:Prg n lv fl s y):x=y:=by
 induction h generalizing y with
 |done hn=>cases g with
  |done _=>rfl
  |nl hs _=>have:=isS_le hs (by decide);omega
  |lst _ hp _ _=>have:=pip_le hp;omega
  |err ha _ _ _ _=>omega
 |nl hs _ ih=>cases g with
  |done hn=>have:=isS_le hs (by decide);omega
  |nl _ g=>exact ih g
  |lst hs' _ _ _=>rw [hs]at hs';cases hs'
  |err _ hs' _ _ _=>rw [hs]at hs';cases hs'
 |lst hs hp he _ ih=>cases g with
  |done hn=>have:=pip_le hp;omega
  |nl hs' _=>rw [hs]at hs';cases hs'
  |lst _ _ he' g=>rw [←he.one he']at g;exact ih g
  |err _ _ hf _ _=>rcases hf with h|h;cases h;rw [hp]at h;cases h
 |err ha hs hf he _ ih=>cases g with
  |done hn=>omega
  |nl hs' _=>rw [hs]at hs';cases hs'
  |lst _ hp _ _=>rcases hf with h|h;cases h;rw [hp]at h;cases h
  |err _ _ _ he' g=>rw [←he.one he']at g;exact ih g
def ps0:PS:=⟨0,[],-1,0⟩
def TreeOf (n:Nat) (lv:Nat→Lf) (L:List Nd):Prop:=∃s,Prg n lv false (bgn 1 false ps0) s∧L=(fin 1 ps0 s).L
theorem TreeOf.one {L M:List Nd} (h:TreeOf n lv L) (g:TreeOf n lv M):L=M:=by
 obtain⟨s,h1,rfl⟩:=h
 obtain⟨t,g1,rfl⟩:=g
 rw [h1.one g1]
end Go.Proofs.YtkolpaonccmgiaaGreatDoor.Q
namespace Go.Proofs.YtkolpaonccmgiaaGreatDoor.Q
set_option linter.unusedSectionVars false
set_option linter.unusedVariables false
open Go.RowKit
def shp:PP→Bool
 | .skip=>true
 | .adv=>true
 | .lst=>true
 | .node k _ b=>decide (1≤k∧k≤18)&&(match b with| .skip=>decide (k≠17)| .adv=>decide (k≠18)|_=>decide (k≠17∧k≠18))&& shp b
 | .seq a b=>shp a && shp b
 | .ite _ a b=>shp a && shp b
 | .rep _ b _ t=>shp b && shp t
theorem abv_same {nv mv:Nat→Nd} {a b:Nat} (h:Abv nv a b) (he:∀i,i≤b→(mv i).u=(nv i).u):Abv mv a b:=by
 induction h with
 |self=>exact .self
 |@up b c e l _ ih=>exact .up ((he b (Nat.le_refl _)).trans e) l (ih (fun i hi=>he i (by omega)))
theorem nl_app {L:List Nd} {x:Nd} {i:Nat} (h:i<L.length):nl (L++ [x]) i=nl L i:=by unfold nl;rw [List.getElem?_append_left h]
theorem nl_last {L:List Nd} {x:Nd}:nl (L++ [x]) L.length=x:=by unfold nl;simp
theorem nl_set {L:List Nd} {x:Nd} {m i:Nat} (h:i≠m):nl (L.set m x) i=nl L i:=by unfold nl;rw [List.getElem?_set_ne (by omega)]
theorem nl_self {L:List Nd} {x:Nd} {m:Nat} (h:m<L.length):nl (L.set m x) m=x:=by unfold nl;rw [List.getElem?_set_self h];rfl
variable {n:Nat} {lv:Nat→Lf}
theorem shp_list:shp (listP n lv)=true:=by rfl
structure NewOk (L:List Nd) (c m i:Nat) (a e:Int):Prop where
 k1:1≤(nl L i).k
 k2:(nl L i).k≤18
 ft:(nl L i).f≤(nl L i).t
 fa:a≤(nl L i).f
 te:(nl L i).t≤e
 er:(nl L i).k=17→(nl L i).t=(nl L i).f+1
 ms:(nl L i).k=18→(nl L i).t=(nl L i).f
 hang:∃u:Nat,(nl L i).u=(u:Int)∧(u=c∨m≤u)∧u<i∧Abv (nl L) u (i - 1)∧(nl L u).f≤(nl L i).f∧(u≠c→(nl L i).t≤(nl L u).t)∧∀k,0<k→k<i→(nl L k).u=(u:Int)→(nl L k).t≤(nl L i).f
structure Cur (s:PS) (c:Nat):Prop where
 u:s.u=(c:Int)
 lt:c<s.L.length
 ab:Abv (nl s.L) c (s.L.length - 1)
 f:(nl s.L c).f≤(s.a:Int)
 el:∀k,0<k→k<s.L.length→(nl s.L k).u=(c:Int)→(nl s.L k).t≤(s.a:Int)
 lo:∀k,k<s.L.length→(nl s.L k).u<(k:Int)
theorem Kp.nl {s s':PS} (h:Kp s s') {i:Nat} (hi:i<s.L.length):nl s'.L i=nl s.L i:=by unfold Go.Proofs.YtkolpaonccmgiaaGreatDoor.Q.nl;rw [h.x i hi]
theorem NewOk.later {L M:List Nd} {c m i:Nat} {a a' e e':Int} (h:NewOk L c m i a e) (hl:∀j,j≤i→nl M j=nl L j) (ha:a'≤a) (he:e≤e') {m':Nat} (hm:m'≤m):NewOk M c m' i a' e':=by
 have e0:=hl i (Nat.le_refl _)
 obtain⟨u,h1,h2,h3,h4,h5,h6,h7⟩:=h.hang
 have eu:=hl u (by omega)
 refine⟨by rw [e0];exact h.k1,by rw [e0];exact h.k2,by rw [e0];exact h.ft,by rw [e0];exact Int.le_trans ha h.fa,by rw [e0];exact Int.le_trans h.te he,by rw [e0];exact h.er,by rw [e0];exact h.ms,u,by rw [e0];exact h1,h2.imp id (fun h=>by omega),h3,abv_same h4 (fun j hj=>by rw [hl j (by omega)]),by rw [e0,eu];exact h5,by rw [e0,eu];exact h6,fun k hk0 hk hu=>?_⟩
 rw [hl k (by omega)]at hu ⊢
 rw [e0]
 exact h7 k hk0 hk hu
theorem Cur.begin {s:PS} {c:Nat} (h:Cur s c) (k:Int) (dp:Bool):Cur (bgn k dp s) s.L.length:=by
 refine⟨rfl,by simp [bgn],by simp only [bgn,List.length_append,List.length_singleton,Nat.add_sub_cancel];exact .self,by simp only [bgn,nl_last];exact Int.le_refl _,fun j h0 hj hu=>?_,fun j hj=>?_⟩
 ·exfalso
  simp only [bgn,List.length_append,List.length_singleton]at hj hu
  rcases Nat.lt_or_ge j s.L.length with g|g
  ·rw [nl_app g]at hu
   have:=h.lo j g
   omega
  ·obtain rfl:j=s.L.length:=by omega
   rw [nl_last]at hu
   have h1:=h.u
   have h2:=h.lt
   simp only at hu
   omega
 ·simp only [bgn,List.length_append,List.length_singleton]at hj ⊢
  rcases Nat.lt_or_ge j s.L.length with g|g
  ·rw [nl_app g];exact h.lo j g
  ·obtain rfl:j=s.L.length:=by omega
   rw [nl_last]
   have h1:=h.u
   have h2:=h.lt
   simp only
   omega
theorem node_new {k:Int} {dp:Bool} {b:PP} {s s1:PS} {c:Nat} (hE:Ev n lv b (bgn k dp s) s1) (hs:shp (.node k dp b)=true) (hc:Cur s c)
  (ih:Cur s1 s.L.length∧∀i,(bgn k dp s).L.length≤i→i<s1.L.length→NewOk s1.L s.L.length (bgn k dp s).L.length i (s.a:Int) (s1.a:Int)):
  Cur (fin k s s1) c∧∀i,s.L.length≤i→i<(fin k s s1).L.length→NewOk (fin k s s1).L c s.L.length i (s.a:Int) ((fin k s s1).a:Int):=by
 obtain⟨hC,hN⟩:=ih
 have hk:=hE.kp
 have hml:s.L.length<s1.L.length:=hC.lt
 have hlen:(bgn k dp s).L.length=s.L.length+1:=by simp [bgn]
 have hm:nl s1.L s.L.length=⟨k,s.a,0,s.u⟩:=by
  rw [hk.nl (by omega)]
  simp only [bgn,nl_last]
 have hpre:∀i,i<s.L.length→nl s1.L i=nl s.L i:=fun i hi=>by
  rw [hk.nl (by omega)]
  simp only [bgn]
  exact nl_app hi
 have ha:s.a≤s1.a:=hk.a
 have eL:(fin k s s1).L=s1.L.set s.L.length ⟨k,s.a,s1.a,s.u⟩:=rfl
 have ea:(fin k s s1).a=s1.a:=rfl
 obtain⟨M,hM⟩:∃M,s1.L.set s.L.length ⟨k,s.a,s1.a,s.u⟩=M:=⟨_,rfl⟩
 have hMl:M.length=s1.L.length:=by rw [←hM,List.length_set]
 have hMm:nl M s.L.length=⟨k,s.a,s1.a,s.u⟩:=by rw [←hM];exact nl_self hml
 have hMo:∀i,i≠s.L.length→nl M i=nl s1.L i:=fun i hi=>by rw [←hM];exact nl_set hi
 have hMu:∀i,(nl M i).u=(nl s1.L i).u:=fun i=>by
  by_cases h:i=s.L.length
  ·rw [h,hMm,hm]
  ·rw [hMo i h]
 have hMf:∀i,(nl M i).f=(nl s1.L i).f:=fun i=>by
  by_cases h:i=s.L.length
  ·rw [h,hMm,hm]
  ·rw [hMo i h]
 have hcm:=hc.lt
 have hcu:=hc.u
 rw [eL,ea,hM,hMl]
 have hab:Abv (nl M) c (s1.L.length - 1):=by
  have h1:Abv (nl s1.L) c s.L.length:=.up (by rw [hm];exact hcu) hcm .self
  exact abv_same (h1.trans hC.ab) (fun i _=>hMu i)
 refine⟨⟨hcu,by rw [eL,hM,hMl];omega,by rw [eL,hM,hMl];exact hab,?_,?_,?_⟩,?_⟩
 ·rw [eL,hM,ea,hMo c (by omega),hpre c hcm]
  have:=hc.f
  omega
 ·rw [eL,hM,ea,hMl]
  intro j h0 hj hu
  rcases Nat.lt_trichotomy j s.L.length with g|g|g
  ·rw [hMo j (by omega),hpre j g]at hu ⊢
   have:=hc.el j h0 g hu
   omega
  ·rw [g,hMm]
   exact Int.le_refl _
  ·exfalso
   rw [hMu j]at hu
   obtain⟨u,e1,e2,_⟩:=(hN j (by omega) hj).hang
   omega
 ·rw [eL,hM,hMl]
  intro j hj
  rw [hMu j]
  exact hC.lo j hj
 ·intro i h1 h2
  rcases Nat.lt_or_ge s.L.length i with g|g
  ·have hN':=hN i (by omega) h2
   obtain⟨u,e1,e2,e3,e4,e5,e6,e7⟩:=hN'.hang
   have eo:=hMo i (by omega)
   refine⟨by rw [eo];exact hN'.k1,by rw [eo];exact hN'.k2,by rw [eo];exact hN'.ft,by rw [eo];exact hN'.fa,by rw [eo];exact hN'.te,by rw [eo];exact hN'.er,by rw [eo];exact hN'.ms,u,by rw [eo];exact e1,.inr (by omega),e3,abv_same e4 (fun j _=>hMu j),by rw [hMf u,eo];exact e5,fun _=>?_,fun j h0 hj hu=>?_⟩
   ·rw [eo]
    by_cases hu:u=s.L.length
    ·rw [hu,hMm]
     exact hN'.te
    ·rw [hMo u hu]
     exact e6 hu
   ·rw [hMu j]at hu
    have hjm:j≠s.L.length:=by
     intro e
     rw [e,hm]at hu
     simp only at hu
     omega
    rw [hMo j hjm,eo]
    exact e7 j h0 hj hu
  ·obtain rfl:i=s.L.length:=by omega
   simp only [shp,Bool.and_eq_true,decide_eq_true_eq]at hs
   obtain⟨⟨hkk,hsb⟩,_⟩:=hs
   refine⟨by rw [hMm];exact hkk.1,by rw [hMm];exact hkk.2,by rw [hMm];simp only;omega,by rw [hMm];exact Int.le_refl _,by rw [hMm];exact Int.le_refl _,?_,?_,c,by rw [hMm];exact hcu,.inl rfl,hcm,?_,?_,fun h=>absurd rfl h,?_⟩
   ·rw [hMm]
    intro e
    simp only at e ⊢
    subst e
    cases b with
    |adv=>cases hE;simp [nxt,bgn]
    |skip=>simp at hsb
    |lst=>simp at hsb
    |node=>simp at hsb
    |seq=>simp at hsb
    |ite=>simp at hsb
    |rep=>simp at hsb
   ·rw [hMm]
    intro e
    simp only at e ⊢
    subst e
    cases b with
    |skip=>cases hE;simp [bgn]
    |adv=>simp at hsb
    |lst=>simp at hsb
    |node=>simp at hsb
    |seq=>simp at hsb
    |ite=>simp at hsb
    |rep=>simp at hsb
   ·refine abv_same hc.ab (fun j hj=>?_)
    rw [hMu j,hpre j (by omega)]
   ·rw [hMf c,hpre c hcm,hMm]
    exact hc.f
   ·intro j h0 hj hu
    rw [hMo j (by omega),hpre j hj]at hu ⊢
    rw [hMm]
    exact hc.el j h0 hj hu
theorem new_trans {s s1 s':PS} {c:Nat} (k2:Kp s1 s') (h1:Kp s s1) (n1:∀i,s.L.length≤i→i<s1.L.length→NewOk s1.L c s.L.length i (s.a:Int) (s1.a:Int)) (n2:∀i,s1.L.length≤i→i<s'.L.length→NewOk s'.L c s1.L.length i (s1.a:Int) (s'.a:Int)):
  ∀i,s.L.length≤i→i<s'.L.length→NewOk s'.L c s.L.length i (s.a:Int) (s'.a:Int):=by
 intro i g1 g2
 have ha:=h1.a
 have ha2:=k2.a
 rcases Nat.lt_or_ge i s1.L.length with g|g
 ·exact(n1 i g1 g).later (fun j hj=>k2.nl (by omega)) (Int.le_refl _) (by omega) (Nat.le_refl _)
 ·exact(n2 i g g2).later (fun j hj=>rfl) (by omega) (Int.le_refl _) h1.l
theorem Ev.new {p:PP} {s s':PS} (h:Ev n lv p s s'):∀c,shp p=true→Cur s c→Cur s' c∧∀i,s.L.length≤i→i<s'.L.length→NewOk s'.L c s.L.length i (s.a:Int) (s'.a:Int):=by
 induction h with
 |skip=>exact fun c _ hc=>⟨hc,fun i h1 h2=>by omega⟩
 |@adv s=>
  refine fun c _ hc=>⟨⟨hc.u,hc.lt,hc.ab,?_,fun k h0 hk hu=>?_,hc.lo⟩,fun i h1 h2=>by simp only [nxt]at h2;omega⟩
  ·have:=hc.f;simp only [nxt];omega
  ·have:=hc.el k h0 hk hu;simp only [nxt]at this ⊢;omega
 |lst _ ih=>exact fun c _ hc=>ih c shp_list hc
 |@node k dp b s s1 hE ih=>
  intro c hs hc
  have hb:shp b=true:=by
   simp only [shp,Bool.and_eq_true]at hs
   exact hs.2
  exact node_new hE hs hc (ih _ hb (hc.begin _ _))
 |seq a b h1 h2=>
  intro c hs hc
  simp only [shp,Bool.and_eq_true]at hs
  obtain⟨c1,n1⟩:=h1 c hs.1 hc
  obtain⟨c2,n2⟩:=h2 c hs.2 c1
  exact⟨c2,new_trans b.kp a.kp n1 n2⟩
 |yes _ _ ih=>
  intro c hs hc
  simp only [shp,Bool.and_eq_true]at hs
  exact ih c hs.1 hc
 |no _ _ ih=>
  intro c hs hc
  simp only [shp,Bool.and_eq_true]at hs
  exact ih c hs.2 hc
 |stop _=>exact fun c _ hc=>⟨hc,fun i h1 h2=>by omega⟩
 |out _ _ _ ih=>
  intro c hs hc
  simp only [shp,Bool.and_eq_true]at hs
  exact ih c hs.1 hc
 |go _ a _ b d h1 h2 h3=>
  intro c hs hc
  have hs0:=hs
  simp only [shp,Bool.and_eq_true]at hs
  obtain⟨c1,n1⟩:=h1 c hs.1 hc
  obtain⟨c2,n2⟩:=h2 c hs.2 c1
  obtain⟨c3,n3⟩:=h3 c hs0 c2
  exact⟨c3,new_trans (b.kp.trans d.kp) a.kp n1 (new_trans d.kp b.kp n2 n3)⟩
def ltT (n:Nat) (s:PS):Bool:=decide (s.a<n)
def errP:PP:=.node 17 false .adv
def aftP (n:Nat) (lv:Nat→Lf):PP:=.seq (nlsP n lv) (.ite (ltT n) errP .skip)
def prgP (n:Nat) (lv:Nat→Lf):PP:=.rep (ltT n) (.ite (isS n lv [110]) .adv (.ite (pipT n lv) (.seq .lst (aftP n lv)) errP)) yesT .skip
theorem prg_end {p:PP} {s s':PS} (h:Ev n lv p s s') (hp:p=prgP n lv):n≤s'.a:=by
 induction h with
 |skip=>cases hp
 |adv=>cases hp
 |lst _ _=>cases hp
 |node _ _=>cases hp
 |seq _ _ _ _=>cases hp
 |yes _ _ _=>cases hp
 |no _ _ _=>cases hp
 |stop hc=>
  unfold prgP at hp
  injection hp with h1 h2 h3 h4
  rw [h1]at hc
  have:=of_decide_eq_false hc
  omega
 |out _ _ hd _=>
  unfold prgP at hp
  injection hp with h1 h2 h3 h4
  rw [h3]at hd
  cases hd
 |go _ _ _ _ _ _ _ ih=>exact ih hp
theorem prg_pot {p:PP} {s s':PS} (h:Ev n lv p s s') (hp:p=prgP n lv):pot s'≤pot s+4:=by
 induction h with
 |skip=>cases hp
 |adv=>cases hp
 |lst _ _=>cases hp
 |node _ _=>cases hp
 |seq _ _ _ _=>cases hp
 |yes _ _ _=>cases hp
 |no _ _ _=>cases hp
 |stop hc=>omega
 |out _ _ hd _=>
  unfold prgP at hp
  injection hp with h1 h2 h3 h4
  rw [h3]at hd
  cases hd
 |go hc hb _ ht hr _ _ ih=>
  have ih':=ih hp
  have hp0:=hp
  unfold prgP at hp
  injection hp with h1 h2 h3 h4
  subst h1 h2 h4
  cases ht
  cases hb with
  |yes _ h=>cases h;simp only [pot,nxt]at ih' ⊢;omega
  |no _ h=>cases h with
   |no _ h=>
    have:=h.pot (by rfl)
    have h2:cst errP≤ -29:=of_decide_eq_true (by rfl)
    omega
   |yes _ h=>cases h with|seq g1 g2=>cases g2 with|seq g2 g3=>
    have q1:=g1.pot (by rfl)
    have q2:=g2.pot (by rfl)
    have e1:cst PP.lst≤4:=of_decide_eq_true (by rfl)
    have e2:cst (nlsP n lv)≤0:=of_decide_eq_true (by rfl)
    cases g3 with
    |yes _ h=>
     have:=h.pot (by rfl)
     have h2:cst errP≤ -29:=of_decide_eq_true (by rfl)
     omega
    |no hn h=>
     cases h
     cases hr with
     |stop _=>omega
     |out hc' _ _=>rw [hn]at hc';cases hc'
     |go hc' _ _ _ _=>rw [hn]at hc';cases hc'
def Tree (n:Nat) (lv:Nat→Lf) (L:List Nd):Prop:=∃s,Ev n lv (.node 1 false (prgP n lv)) ps0 s∧s.a=n∧L=s.L
theorem Tree.one {L M:List Nd} (h:Tree n lv L) (g:Tree n lv M):L=M:=by
 obtain⟨s,h1,_,rfl⟩:=h
 obtain⟨t,g1,_,rfl⟩:=g
 rw [h1.one g1]
theorem Tree.len {L:List Nd} (h:Tree n lv L):0<L.length∧L.length≤30*n+10:=by
 obtain⟨s,h1,h2,rfl⟩:=h
 cases h1 with|node h1=>
 have h3:=prg_pot h1 rfl
 have h4:=h1.kp.l
 have h5:(bgn 1 false ps0).L.length=1:=by simp [bgn,ps0]
 have h6:pot (bgn 1 false ps0)=1:=by simp [pot,bgn,ps0]
 simp only [fin,List.length_set]at h2 ⊢
 simp only [pot]at h3 h6
 omega
end Go.Proofs.YtkolpaonccmgiaaGreatDoor.Q
namespace Go.Proofs.YtkolpaonccmgiaaGreatDoor.Q
set_option linter.unusedSectionVars false
set_option linter.unusedVariables false
open Go.RowKit
section
variable (n:Nat) (lv:Nat→Lf)
def runP:Nat→PP→PS→Option PS
 |0,_,_=>none
 |f+1,.skip,s=>some s
 |f+1,.adv,s=>some (nxt s)
 |f+1,.lst,s=>runP f (listP n lv) s
 |f+1,.node k dp b,s=>match runP f b (bgn k dp s)with
  |none=>none
  |some s'=>some (fin k s s')
 |f+1,.seq a b,s=>match runP f a s with
  |none=>none
  |some s1=>runP f b s1
 |f+1,.ite c a b,s=>match c s with
  |true=>runP f a s
  |false=>runP f b s
 |f+1,.rep c b d t,s=>match c s with
  |false=>some s
  |true=>match runP f b s with
   |none=>none
   |some s1=>match d s1 with
    |false=>some s1
    |true=>match runP f t s1 with
     |none=>none
     |some s2=>runP f (.rep c b d t) s2
theorem runP_ev:∀(f:Nat) (p:PP) (s s':PS),runP n lv f p s=some s'→Ev n lv p s s':=by
 intro f
 induction f with
 |zero=>intro p s s' h;cases h
 |succ f ih=>
  intro p s s' h
  cases p with
  |skip=>simp only [runP,Option.some.injEq]at h;subst h;exact .skip
  |adv=>simp only [runP,Option.some.injEq]at h;subst h;exact .adv
  |lst=>exact .lst (ih _ _ _ h)
  |node k dp b=>
   simp only [runP]at h
   split at h
   ·cases h
   ·rename_i s1 e
    simp only [Option.some.injEq]at h
    subst h
    exact .node (ih _ _ _ e)
  |seq a b=>
   simp only [runP]at h
   split at h
   ·cases h
   ·rename_i s1 e
    exact .seq (ih _ _ _ e) (ih _ _ _ h)
  |ite c a b=>
   simp only [runP]at h
   split at h
   ·rename_i e;exact .yes e (ih _ _ _ h)
   ·rename_i e;exact .no e (ih _ _ _ h)
  |rep c b d t=>
   simp only [runP]at h
   split at h
   ·rename_i e;simp only [Option.some.injEq]at h;subst h;exact .stop e
   ·rename_i e
    split at h
    ·cases h
    ·rename_i s1 e1
     split at h
     ·rename_i e2;simp only [Option.some.injEq]at h;subst h;exact .out e (ih _ _ _ e1) e2
     ·rename_i e2
      split at h
      ·cases h
      ·rename_i s2 e3
       exact .go e (ih _ _ _ e1) e2 (ih _ _ _ e3) (ih _ _ _ h)
def runG:Nat→Bool→PS→Option PS
 |0,_,_=>none
 |f+1,fl,s=>match decide (n≤s.a)with
  |true=>some s
  |false=>match isS n lv [110] s with
   |true=>runG f fl (nxt s)
   |false=>match !fl && pipT n lv s with
    |true=>match runP n lv f (listP n lv) s with
     |none=>none
     |some s1=>runG f true s1
    |false=>match runP n lv f (.node 17 false .adv) s with
     |none=>none
     |some s1=>runG f false s1
end
end Go.Proofs.YtkolpaonccmgiaaGreatDoor.Q

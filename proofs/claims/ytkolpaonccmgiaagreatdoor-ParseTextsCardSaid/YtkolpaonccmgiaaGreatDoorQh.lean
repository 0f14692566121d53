/- What told of layer 8 (literal) returns: an iterato -/
import Derived.Test.YtkolpaonccmgiaaGreatDoorLtE
import Derived.Test.YtkolpaonccmgiaaGreatDoorMdL
namespace Go.Proofs.YtkolpaonccmgiaaGreatDoor
set_option linter.unusedSectionVars false
set_option linter.unusedVariables false
open Go.Proofs.Tryz
open _root_.Nat renaming le_refl->waa
open _root_.Go.World renaming size_alloc->waf
open Lib(hid)
set_option maxHeartbeats 8000000
set_option maxRecDepth 100000
open Go.RowKit Go.Shelf
theorem Yw.any{α:Type}{n m:Nat}{P:Program}{g:Nat}{lb:Array Value}{encs:α->Array Value}{C:Nat->Prop}{L:List α}{W:World}(h:Yw n P g lb encs C L W):Yw m P g lb encs C L W:=by
 intro l J Jx hJ hJx hY h0;exact(callsIn_wide (n:=m)).2 ((callsIn_wide (n:=n)).1 (h l J Jx hJ hJx (λpre x rest T W1 e1 e2 e3=>YieldAt.any (hY pre x rest T W1 e1 e2 e3)) h0))
theorem mX(p:zQ){z:Nat}(h1:p.zh<p.to)(h2:p.to<=z)(hh:Yd p.mode=1):p.zh+1<=yY p/\yY p<=z:=by
 unfold yY;rw[hh]
 repeat' split
 all_goals omega
theorem O0{s:ByteArray}{f:Nat}:∀{k:Nat},zN s k f=true->md s k f=5->md s (f+1) f=5
 |0,h,_=>by have:=kQ h;omega
 |k+1,h,hm=>by
  rcases Nat.eq_or_lt_of_le (Nat.le_of_lt_succ (kQ h))with e|e
  ·subst e;exact hm
  ·rcases O1 h e with e2|e2
   ·exact O0 (lF h e) (e2.symm.trans hm)
   ·rw[hm]at e2
    unfold Yy at e2;omega
theorem Ac{m:Nat}(h:cnt m=5):m=5:=by
 unfold cnt at h
 repeat' split at h
 all_goals omega
theorem O3{s:ByteArray}{zi:Bool}{sub:Nat->List Pc}(hs:∀a,sub a≠ []){e:Nat}:∀(k a:Nat) (h:ByteArray),rm s zi sub e k a h true≠ []
 |0,a,h=>by unfold rm fl;simp
 |k+1,a,h=>by
  unfold rm
  repeat' split
  ·exact O3 hs k _ _
  ·have:=hs a
   simp[this]
  ·exact O3 hs k _ _
  ·unfold fl;simp
theorem zeh(s:ByteArray)(f e:Nat):DB s f e≠ []:=O3 (λa=>by unfold Js;simp) _ _ _
theorem zei(s:ByteArray)(a:Nat):jQ s a≠ []:=by
 unfold jQ
 repeat' split
 ·exact zeh _ _ _
 ·simp
 ·simp
section
variable(w:World)
theorem Ad(mb:Nat)(x:Pc){w':World}{g Bx:Nat}(hB:Below w.heap.size w w')(hg:zf w' g #[.bool x.ex,.bool x.q,.string x.t] 119)(hb:zf w' Bx #[.slice (some ⟨g,0,none⟩) 1 1] 116):
  RH mb [x] w (.returned (.func (.func 259) #[] #[.pointer (some ⟨Bx,0,none⟩)])) w':=
 ⟨_,_,λ_=>False,rfl,hB,enters_of func259 (by kernel_rfl) rfl,(λ_ h=>h.elim),λn W hn hW=>zd4 n hn Bx g 1 x _ W (hb.below hW) (hg.below hW) rfl rfl rfl⟩
theorem Ae(s:ByteArray)(hs:s.size<=60000)(mb m f t:Nat)(up:Int)(op zi:Bool)(h1:f<t)(h2:t<=s.size)(hm:m≠4/\m≠5/\m≠13):
  Calls prog 230 #[.agg #[.string s,.map (some mb)],.agg #[.int .i64 (m:Int),.int .i64 (f:Int),.int .i64 (t:Int),.int .i64 up,.bool op],.bool zi] w (RH mb [⟨true,zi,s.extract f t⟩] w):=by
 have t4:((m:Int)==4)=false:=beq_eq_false_iff_ne.2 (by omega);have t5:((m:Int)==5)=false:=beq_eq_false_iff_ne.2 (by omega);have t13:((m:Int)==13)=false:=beq_eq_false_iff_ne.2 (by omega);obtain⟨X,hX⟩:∃X,s.extract f t=X:=⟨_,rfl⟩;rw[hX];have b1:(f:Int)<=(t:Int):=by omega
 have b2:(t:Int)<=(s.size:Int):=by omega
 have lG:=hid (λW=>O4 W m f t up op (by omega) (by omega));have hw2:Below w.heap.size w ((w.alloc (.cells #[.string s,.map (some mb)] 184)).alloc (.cells #[.int .i64 (m:Int),.int .i64 (f:Int),.int .i64 (t:Int),.int .i64 up,.bool op] 136)):=((Below.refl _ _).alloc (waa _) _).alloc (by simp) _;have kr:=(zf.new w #[.string s,.map (some mb)] 184).alloc (.cells #[.int .i64 (m:Int),.int .i64 (f:Int),.int .i64 (t:Int),.int .i64 up,.bool op] 136);have kp:=zf.new (w.alloc (.cells #[.string s,.map (some mb)] 184)) #[.int .i64 (m:Int),.int .i64 (f:Int),.int .i64 (t:Int),.int .i64 up,.bool op] 136;rw[waf]at kp;go_enter func230,ntmps230
 go_wp2_with fail
 refine(lG.out _).mono ?_;rintro e w1 ⟨rfl,hB1⟩;have xy:=kr.below hB1;have V9:=kp.below hB1;have hB2:Below w.heap.size w w1:=hw2.trans (hB1.mono (by simp;omega));have lr:=xy.lt;have lp:=V9.lt;have r0:=xy.cell 0;have r1:=xy.cell 1;have p0:=V9.cell 0;have p1:=V9.cell 1;have p2:=V9.cell 2;clear kr kp hw2 hB1;have kg:=(zf.new w1 #[.bool true,.bool zi,.string X] 119).alloc (.cells #[.slice (some ⟨w1.heap.size,0,none⟩) 1 1] 116);have kb:=zf.new (w1.alloc (.cells #[.bool true,.bool zi,.string X] 119)) #[.slice (some ⟨w1.heap.size,0,none⟩) 1 1] 116;have KZ:Below w.heap.size w ((w1.alloc (.cells #[.bool true,.bool zi,.string X] 119)).alloc (.cells #[.slice (some ⟨w1.heap.size,0,none⟩) 1 1] 116)):=(hB2.alloc hB2.size _).alloc (by have:=hB2.size;simp;omega) _;rw[waf]at kb;have mY:=hid (Ad w mb ⟨true,zi,X⟩ KZ kg kb);clear kg kb KZ
 go_wp2_with fail
 refine((callsIn_wide (n:=1)).1 (I8 1 _ 1 1 _)).mono ?_;rintro e w2 ⟨rfl,rfl⟩;go_wp2;go_ret;exact mY.out
theorem zej(s:ByteArray)(hs:s.size<=60000)(mb m f t:Nat)(up:Int)(op zi:Bool)(h1:f<t)(h2:t<=s.size)(hm:m=4\/m=13):
  Calls prog 230 #[.agg #[.string s,.map (some mb)],.agg #[.int .i64 (m:Int),.int .i64 (f:Int),.int .i64 (t:Int),.int .i64 up,.bool op],.bool zi] w (RH mb [⟨false,true,s.extract (f+1) (yY ⟨m,f,t,up,op⟩)⟩] w):=by
 have hm1:Yd m=1:=by rcases hm with rfl|rfl<;>rfl
 have hins:=mX ⟨m,f,t,up,op⟩ h1 h2 hm1;obtain⟨T,hT⟩:∃T,yY ⟨m,f,t,up,op⟩=T:=⟨_,rfl⟩;have t5:((m:Int)==5)=false:=beq_eq_false_iff_ne.2 (by omega);rw[hT]at hins ⊢;simp only at hins;obtain⟨X,hX⟩:∃X,s.extract (f+1) T=X:=⟨_,rfl⟩;rw[hX];obtain⟨f1,hf1⟩:∃f1,f+1=f1:=⟨_,rfl⟩;have b1:(f1:Int)<=(T:Int):=by omega
 have b2:(T:Int)<=(s.size:Int):=by omega
 rw[hf1]at hX;have lG:=hid (λW=>O4 W m f t up op (by omega) (by omega));rw[hm1,hT,hf1]at lG;have HF:=hid hf1;have RN:=hid hT;have zt:=hid hm1;have hw2:Below w.heap.size w ((w.alloc (.cells #[.string s,.map (some mb)] 184)).alloc (.cells #[.int .i64 (m:Int),.int .i64 (f:Int),.int .i64 (t:Int),.int .i64 up,.bool op] 136)):=((Below.refl _ _).alloc (waa _) _).alloc (by simp) _;have kr:=(zf.new w #[.string s,.map (some mb)] 184).alloc (.cells #[.int .i64 (m:Int),.int .i64 (f:Int),.int .i64 (t:Int),.int .i64 up,.bool op] 136);have kp:=zf.new (w.alloc (.cells #[.string s,.map (some mb)] 184)) #[.int .i64 (m:Int),.int .i64 (f:Int),.int .i64 (t:Int),.int .i64 up,.bool op] 136;rw[waf]at kp;clear hf1 hT hm1 hins;rcases hm with rfl|rfl
 all_goals
  go_enter func230,ntmps230
  go_wp2_with fail
  refine(lG.out _).mono ?_;rintro e w1 ⟨rfl,hB1⟩;have xy:=kr.below hB1;have V9:=kp.below hB1;have hB2:Below w.heap.size w w1:=hw2.trans (hB1.mono (by simp;omega));have lr:=xy.lt;have lp:=V9.lt;have r0:=xy.cell 0;have r1:=xy.cell 1;have p0:=V9.cell 0;have p1:=V9.cell 1;have p2:=V9.cell 2;clear kr kp hw2 hB1;have kg:=(zf.new w1 #[.bool false,.bool true,.string X] 119).alloc (.cells #[.slice (some ⟨w1.heap.size,0,none⟩) 1 1] 116);have kb:=zf.new (w1.alloc (.cells #[.bool false,.bool true,.string X] 119)) #[.slice (some ⟨w1.heap.size,0,none⟩) 1 1] 116;have KZ:Below w.heap.size w ((w1.alloc (.cells #[.bool false,.bool true,.string X] 119)).alloc (.cells #[.slice (some ⟨w1.heap.size,0,none⟩) 1 1] 116)):=(hB2.alloc hB2.size _).alloc (by have:=hB2.size;simp;omega) _;rw[waf]at kb;have mY:=hid (Ad w mb ⟨false,true,X⟩ KZ kg kb);clear kg kb KZ
  go_wp2_with fail
  refine((callsIn_wide (n:=1)).1 (I8 1 _ 1 1 _)).mono ?_;rintro e w2 ⟨rfl,rfl⟩;go_wp2;go_ret;exact mY.out
theorem zek(n:Nat)(hn:1<=n)(s:ByteArray)(hs:s.size<=60000)(f:Nat)(hf:f<s.size)(hb:born s f=true)(hm:(prt s f).mode=5)(mb Bd Bf Bt Br:Nat)(W:World)(hcap:Cap W Bd Bt Br mb s true (yY (prt s f)))(hbf:zf W Bf #[.int .i64 ((f+1:Nat):Int)] 3):
  Yw n prog 227 #[.pointer (some ⟨Bd,0,none⟩),.pointer (some ⟨Bf,0,none⟩),.pointer (some ⟨Bt,0,none⟩),.pointer (some ⟨Br,0,none⟩)] Y3 (Zd Bd Bt Br mb) (DB s (f+1) (yY (prt s f))) W:=by
 have hto:=qP hb hf;have hle:=(Xt hf hb).1;have hfr:=Yc s f;have hins:=mX (prt s f) (by rw[hfr];exact hto) hle (by rw[hm];rfl);rw[hfr]at hins;have h5:md s (f+1) f=5:=O0 (mZ hb hf) (Ac (by rw[←G6 hb hf];exact hm));have hB:nt s (f+1)=(5,f)::xR s f:=by have:=Jt hb;rw[h5]at this;exact this
 have hin:∀x,f+1<=x->x<yY (prt s f)->zN s (x+1) f=true:=by
  intro x h1 h2;have h2':=h2;have hpe:=Ju hb hf;have h12:¬cnt (md s (eK s f s.size) f)=12:=by rw[←G6 hb hf,hm];decide
  rw[if_neg h12]at hpe;refine G7 (k:=s.size) (by omega) ?_;have hel:=RP s (f:=f) (k:=s.size) (Nat.le_of_lt hf);rw[hpe]at h2;have O5:cnt (md s (eK s f s.size) f)=5:=by rw[←G6 hb hf];exact hm
  unfold yY at h2;simp only[O5]at h2;have e1:Yd 5=1:=rfl;have e2:Ja 5=1:=rfl;rw[e1,e2]at h2;by_cases hE:eK s f s.size=s.size
  ·omega
  ·rw[if_neg hE]at h2
   have:decide (eK s f s.size=s.size)=false:=decide_eq_false hE;rw[this]at h2;simp at h2
   repeat' split at h2
   all_goals omega
 refine Yw.any (n:=3) ?_;refine aA 3 (waa _) s hs true (f+1) (yY (prt s f)) (by omega) hins.2 (Js s) (λx=>f+1<=x/\(x<yY (prt s f)->AtB s x ((5,f)::xR s f))) ⟨waa _,λ_ _=> .inl hB⟩ ?_ ?_ mb Bd Bf Bt Br W hcap hbf (λa=>by unfold Js;simp) ?_
 ·rintro a ⟨h1,h2⟩ hlt hbn
  exact⟨by omega,λ_ _=> .inl ((h2 hlt).none (.inr ⟨f,_,rfl,hin a h1 hlt⟩) (by omega) hbn)⟩
 ·rintro a ⟨h1,h2⟩ hlt hbn
  have ha:a<s.size:=by omega
  have:=qP hbn ha;have hw:=(h2 hlt).born (.inr ⟨f,_,rfl,hin a h1 hlt⟩) ha hbn;exact⟨by omega,λ_=>by rw[←hw];exact Af ha hbn⟩
 ·rintro a w ⟨h1,h2⟩ hlt hbn hit hmp
  have ha:a<s.size:=by omega
  have h4:=Ag (h2 hlt) ha (hin a h1 hlt) hbn;have hne:(prt s a).mode≠13:=by
   intro e;unfold yG at hit;rw[if_neg (by omega),if_neg (by omega),if_pos e]at hit
   repeat' split at hit
   all_goals first|(cases hit;done)|(rename_i hh;simp at hh)
  have h5:=Ae w s hs mb (prt s a).mode (prt s a).zh (prt s a).to (prt s a).up (prt s a).op true (by rw[Yc];exact qP hbn ha) (Xt ha hbn).1 ⟨h4.2.1,h4.2.2.1,hne⟩;rw[show Js s a=[⟨true,true,s.extract (prt s a).zh (prt s a).to⟩] by unfold Js;rw[Yc]];exact h5
theorem zel(s:ByteArray)(hs:s.size<=60000)(mb f:Nat)(hf:f<s.size)(hb:born s f=true)(hm:(prt s f).mode=5)(zi:Bool)(hmp:GY w mb s):
  Calls prog 230 #[.agg #[.string s,.map (some mb)],.agg #[.int .i64 ((prt s f).mode:Int),.int .i64 ((prt s f).zh:Int),.int .i64 ((prt s f).to:Int),.int .i64 (prt s f).up,.bool (prt s f).op],.bool zi] w (RH mb (DB s (f+1) (yY (prt s f))) w):=by
 have hto:=qP hb hf;have hle:=(Xt hf hb).1;have hfr:=Yc s f;have Md:=hid (λn hn Bd Bf Bt Br W h1 h2=>zek n hn s hs f hf hb hm mb Bd Bf Bt Br W h1 h2);obtain⟨p,hp⟩:∃p,prt s f=p:=⟨_,rfl⟩;rw[hp]at hto hle hfr hm Md ⊢;obtain⟨m,f',t,up,op⟩:=p;simp only at hto hle hfr hm Md ⊢;subst hm hfr;obtain⟨T,hT⟩:∃T,yY ⟨5,f',t,up,op⟩=T:=⟨_,rfl⟩;rw[hT]at Md ⊢;obtain⟨f1,hf1⟩:∃f1,f'+1=f1:=⟨_,rfl⟩;rw[hf1]at Md ⊢;have lG:=hid (λW=>O4 W 5 f' t up op (by omega) (by omega));rw[show Yd 5=1 from rfl,hT,hf1]at lG;have HF:=hid hf1;have HT:=hid hT;have HP:=hid hp;clear hf1 hT hp;have hw2:Below w.heap.size w ((w.alloc (.cells #[.string s,.map (some mb)] 184)).alloc (.cells #[.int .i64 ((5:Nat):Int),.int .i64 (f':Int),.int .i64 (t:Int),.int .i64 up,.bool op] 136)):=((Below.refl _ _).alloc (waa _) _).alloc (by simp) _;have kr:=(zf.new w #[.string s,.map (some mb)] 184).alloc (.cells #[.int .i64 ((5:Nat):Int),.int .i64 (f':Int),.int .i64 (t:Int),.int .i64 up,.bool op] 136);have kp:=zf.new (w.alloc (.cells #[.string s,.map (some mb)] 184)) #[.int .i64 ((5:Nat):Int),.int .i64 (f':Int),.int .i64 (t:Int),.int .i64 up,.bool op] 136;rw[waf]at kp;go_enter func230,ntmps230
 go_wp2_with fail
 refine(lG.out _).mono ?_;rintro e w1 ⟨rfl,hB1⟩;have xy:=kr.below hB1;have V9:=kp.below hB1;have hB2:Below w.heap.size w w1:=hw2.trans (hB1.mono (by simp;omega));have hm1:GY w1 mb s:=by obtain⟨k,hk⟩:=hmp;exact⟨k,hk.same (hB2.block mb hk.lt)⟩
 have lr:=xy.lt;have lp:=V9.lt;have r0:=xy.cell 0;have r1:=xy.cell 1;have p0:=V9.cell 0;have QK:=hid (ah s mb f1 T true w1 hm1);clear kr kp hw2 hB1
 go_wp2_with fail
 refine(QK.out).mono ?_;rintro e w2 ⟨Bd,Bf,Bt,Br,rfl,hB3,hc3,hf3,g1,g2,g3,g4⟩;have hB4:Below w.heap.size w w2:=hB2.trans (hB3.mono hB2.size);have hsz:=hB2.size;have mY:Hid (RH mb (DB s f1 T) w (.returned (.func (.func 227) #[] #[.pointer (some ⟨Bd,0,none⟩),.pointer (some ⟨Bf,0,none⟩),.pointer (some ⟨Bt,0,none⟩),.pointer (some ⟨Br,0,none⟩)])) w2):=hid (by
  refine⟨_,_,Zd Bd Bt Br mb,rfl,hB4,enters_of func227 (by kernel_rfl) rfl,λb hb=>⟨hc3.lt b hb,?_⟩,λn W hn hW=>?_⟩
  ·rcases hb with rfl|rfl|rfl|rfl
   ·right;omega
   ·right;omega
   ·right;omega
   ·exact .inl rfl
  ·exact Md.out n hn Bd Bf Bt Br W (hc3.same (λb hb=>hW.block b (hc3.lt b hb))) (hf3.below hW))
 clear hc3 hf3;go_wp2;go_ret;exact mY.out
end
theorem zem(n:Nat)(hn:1<=n)(s:ByteArray)(hs:s.size<=60000)(mb Bd Bf Bt Br:Nat)(W:World)(hcap:Cap W Bd Bt Br mb s false s.size)(hbf:zf W Bf #[.int .i64 ((0:Nat):Int)] 3):
  Yw n prog 227 #[.pointer (some ⟨Bd,0,none⟩),.pointer (some ⟨Bf,0,none⟩),.pointer (some ⟨Bt,0,none⟩),.pointer (some ⟨Br,0,none⟩)] Y3 (Zd Bd Bt Br mb) (kS s) W:=by
 refine Yw.any (n:=3) ?_;refine aA 3 (waa _) s hs false 0 s.size (Nat.zero_le _) (waa _) (jQ s) (λ_=>True) trivial (λ_ _ _ _=>trivial) (λ_ _ _ _=>trivial) mb Bd Bf Bt Br W hcap hbf (zei s) ?_;intro a w _ ha hbn hit hmp;have hfr:=Yc s a;have h1:(prt s a).zh<(prt s a).to:=by rw[hfr];exact qP hbn ha
 have h2:=(Xt ha hbn).1;by_cases h5:(prt s a).mode=5
 ·have:=zel w s hs mb a ha hbn h5 false hmp
  rw[show jQ s a=DB s (a+1) (yY (prt s a)) by unfold jQ;rw[if_pos h5]];exact this
 by_cases h4:(prt s a).mode=4\/(prt s a).mode=13
 ·have:=zej w s hs mb (prt s a).mode (prt s a).zh (prt s a).to (prt s a).up (prt s a).op false h1 h2 h4
  rw[show jQ s a=[⟨false,true,s.extract ((prt s a).zh+1) (yY (prt s a))⟩] by unfold jQ;rw[if_neg h5,if_pos h4,hfr]];exact this
 ·have:=Ae w s hs mb (prt s a).mode (prt s a).zh (prt s a).to (prt s a).up (prt s a).op false h1 h2 (by omega)
  rw[show jQ s a=[⟨true,false,s.extract (prt s a).zh (prt s a).to⟩] by unfold jQ;rw[if_neg h5,if_neg h4,hfr]];exact this
def qI(s:ByteArray)(i a:Nat):Option zQ:=if(a<s.size/\born s a=true)/\idx s a<i then some (prt s a)else none
theorem zen(s:ByteArray)(a:Nat):(none:Option zQ)=qI s 0 a:=by unfold qI;rw[if_neg (by omega)]
theorem zeo{s:ByteArray}{i f:Nat}(h:(uG s s.size)[i]?=some f)(a:Nat):(if a=(prt s f).zh then some (prt s f)else qI s i a)=qI s (i+1) a:=by
 obtain⟨h1,h2,h3⟩:=SH h;rw[Yc];unfold qI;by_cases e:a=f
 ·subst e
  rw[if_pos rfl,if_pos ⟨⟨h2,h3⟩,by omega⟩]
 ·rw[if_neg e]
  by_cases hb:a<s.size/\born s a=true
  ·have hne:idx s a≠i:=by
    intro e2;rcases Nat.lt_or_gt_of_ne e with g|g
    ·have:=O6 hb.2 g;omega
    ·have:=O6 h3 g;omega
   by_cases g:idx s a<i
   ·rw[if_pos ⟨hb,g⟩,if_pos ⟨hb,by omega⟩]
   ·rw[if_neg (by omega),if_neg (by omega)]
  ·rw[if_neg (λh=>hb h.1),if_neg (λh=>hb h.1)]
theorem zep(s:ByteArray)(a:Nat):qI s (PL s).length a=qB s s.size a:=by
 unfold qI qB PL;rw[List.length_map];by_cases hb:a<s.size/\born s a=true
 ·rw[if_pos ⟨hb,O7 hb.2 hb.1⟩,if_pos hb]
 ·rw[if_neg (λh=>hb h.1),if_neg hb]
def zeq(s:ByteArray)(mb n:Nat)(w:World)(v12:Value)(wr:World):Prop:=∃i:Nat,i<=n/\v12=.int .i64 (i:Int)/\ZI wr mb i (qI s i)/\zg (λb=>b=mb) w wr
section
variable(w:World)
theorem zer(s:ByteArray)(hs:s.size<=60000):
  Calls prog 168 #[.string s] w λe w'=>∃mb Bd Bf Bt Br,e=.returned (.func (.func 227) #[] #[.pointer (some ⟨Bd,0,none⟩),.pointer (some ⟨Bf,0,none⟩),.pointer (some ⟨Bt,0,none⟩),.pointer (some ⟨Br,0,none⟩)])/\Below w.heap.size w w'/\
   Cap w' Bd Bt Br mb s false s.size/\zf w' Bf #[.int .i64 ((0:Nat):Int)] 3/\∀b,Zd Bd Bt Br mb b->w.heap.size<=b:=by
 have hmm:=@run_makeMap prog;have kM:=(ZI.made w).same (W':=(w.alloc (.map #[] 0)).alloc (.cells #[.string s,.map (some w.heap.size)] 184)) (Below.heap_alloc _ _ _ (by simp));have kr:=zf.new (w.alloc (.map #[] 0)) #[.string s,.map (some w.heap.size)] 184;rw[waf]at kr;have hB0:Below w.heap.size w ((w.alloc (.map #[] 0)).alloc (.cells #[.string s,.map (some w.heap.size)] 184)):=((Below.refl _ w).alloc (waa _) _).alloc (by simp) _;have lH:=hid (λW=>zes W s (by omega));go_enter func168,ntmps168
 go_wp2_with fail
 obtain⟨W1,hW1⟩:∃X,(w.alloc (.map #[] 0)).alloc (.cells #[.string s,.map (some w.heap.size)] 184)=X:=⟨_,rfl⟩;have zW1:W1.heap.size=w.heap.size+2:=by rw[←hW1];simp
 rw[hW1]at kM kr hB0 ⊢;clear hW1;refine(lH.out _).mono ?_;rintro e w1 ⟨⟨v,rfl,hP⟩,hB1⟩;have hk1:ZI w1 w.heap.size 0 (qI s 0):=(kM.same (hB1.block _ kM.lt)).ext (λa=>zen s a);have hr1:=kr.below hB1;have hB2:Below w.heap.size w w1:=hB0.trans (hB1.mono hB0.size);have hz1:w.heap.size+2<=w1.heap.size:=by rw[←zW1];exact hB1.size
 obtain⟨mb,hmb⟩:∃m,w.heap.size=m:=⟨_,rfl⟩;have Ah:=hid hmb;have Ai:∀k,v.ownBlock=some k->mb<k:=λk hk=>by
  have:=xx (show w1.ownsRow W1.heap.size 136 5 v (PL s).length (vC (PL s))from hP) k hk;omega
 rw[hmb]at hk1 hr1 ⊢;obtain⟨oa,n,oc,rfl,y9⟩:=hP.read;have hnl:n<=60000:=by have h1:=y9.len;have h2:=Aj s;omega
 have HN:=hid y9.len;have gm:=hid hP;have HPG:=hid Ai;have HR1:=hid hr1;clear y9 hP Ai kM kr;go_wp2
 go_loopw [12] (λv12 wr=>zeq s mb n w1 v12 wr) (λv _=>n-(intOf v).toNat)
 case atStart=>exact⟨0,Nat.zero_le _,rfl,hk1,zg.refl _ _⟩
 case round=>
  obtain⟨i,hi,rfl,hq,hF⟩:=hrel;have hr2:=HR1.out.zh hF (by omega);have r1:=hr2.cell 1;have lr:=hr2.lt;have hsz:=hF.size;have hPr:QL wr W1.heap.size (.slice oa n oc) (PL s):=xq hF gm.out (λk hk e=>by have:=HPG.out k hk;omega);by_cases hlt:(i:Int)<(n:Int)
  ·have hlt':i<n:=by omega
   have q0:(0:Int)<=(i:Int):=by omega
   obtain⟨xU,n2,Ak,e2,y9⟩:=hPr.read;injection e2 with e3 e4 e5;subst e3 e4 e5;obtain⟨ob,p,rfl,hp,_,a0,a1,a2,a3,a4⟩:=y9.at hlt';obtain⟨f0,hf0,hpe,hf1,_,Vb,hpt,_⟩:=Am hp;have Ap:∀W' k,ZI W' mb k (λb=>if b=p.zh then some p else qI s i b)->ZI W' mb k (qI s (i+1)):=λW' k h=>h.ext (λb=>by rw[hpe];exact zeo hf0 b);have HQN:=hid Ap;have hpl:p.zh<=1000000:=by omega
   have hil:i<=1000000:=by omega
   clear hp hf0 hpe hf1 Vb hpt Ap y9;have hqa:=hq.same (W':=wr.alloc (.cells #[.int .i64 (p.mode:Int),.int .i64 (p.zh:Int),.int .i64 (p.to:Int),.int .i64 p.up,.bool p.op] 136)) (Below.heap_alloc wr _ mb hq.lt);have hFa:=hF.alloc (.cells #[.int .i64 (p.mode:Int),.int .i64 (p.zh:Int),.int .i64 (p.to:Int),.int .i64 p.up,.bool p.op] 136)
   go_wp2_with (at_mapUpdate;refine zd5 rfl _ _ _ rfl rfl hqa hil p rfl hpl rfl ?_;intro w7 hq7 Me)
   go_roundw
   case rel=>exact⟨i+1,by omega,by go_num,HQN.out _ _ hq7,hFa.grown Me (λk hk=>by cases hk;exact .inl rfl)⟩
   case measure=>simp[intOf];omega
  ·obtain rfl:i=n:=by omega
   have hmp:GY wr mb s:=⟨i,hq.ext (λa=>by rw[HN.out];exact zep s a)⟩;have QK:=hid (ah s mb 0 s.size false wr hmp);have r0:=hr2.cell 0;clear hq
   go_wp2_with fail
   refine(QK.out).mono ?_;rintro e w2 ⟨Bd,Bf,Bt,Br,rfl,hB3,hc3,hf3,g1,g2,g3,g4⟩;have hBw:Below w.heap.size w w2:=by
    have h5:Below w.heap.size w wr:=hB2.trans (hF.below (n:=w.heap.size) hB2.size (λk hk=>by rw[Ah.out];omega));exact h5.trans (hB3.mono h5.size)
   have jH:=hid hc3;have HF3:=hid hf3;clear hc3 hf3;go_wp2;go_ret;refine⟨mb,Bd,Bf,Bt,Br,rfl,hBw,jH.out,HF3.out,λb hb=>?_⟩;have:=Ah.out;have:=hB2.size;rcases hb with rfl|rfl|rfl|rfl<;>omega
end
open _root_.ByteArray renaming empty->war,size_append->wat
def Jc(b:Nat)(v:Value)(x:List Value)(W:World):Prop:=(zf W b #[.pointer none,v] 155\/zf W b #[.pointer (some ⟨b,0,none⟩),v] 155)/\W.ownsRow b 5 1 v x.length x
theorem Jc.zh{b:Nat}{v:Value}{x:List Value}{W W':World}{p:Nat->Prop}(h:Jc b v x W)(hf:zg p W W')(h1:¬p b)(h2:∀g,v.ownBlock=some g->¬p g):Jc b v x W':=
 ⟨h.1.imp (λh=>h.zh hf h1) (λh=>h.zh hf h1),xq hf h.2 h2⟩
theorem Jc.ne{b:Nat}{v:Value}{x:List Value}{W:World}(h:Jc b v x W):¬v.ownBlock=some b:=λe2=>by
 rcases h.2.2 with⟨g1,_⟩|⟨g,cap,cur,g1,_,g3,_⟩
 ·rw[g1]at e2;cases e2
 ·rw[g1]at e2
  have e':g=b:=by simpa[Value.ownBlock]using e2
  subst e';rcases h.1 with hb|hb
  ·rw[show W.heap[g]?=_ from hb]at g3
   injection g3 with g3;injection g3 with _ g5 _;exact absurd g5 (by decide)
  ·rw[show W.heap[g]?=_ from hb]at g3
   injection g3 with g3;injection g3 with _ g5 _;exact absurd g5 (by decide)
theorem Jc.isB{b:Nat}{v:Value}{x:List Value}{W:World}(h:Jc b v x W):Bld b x W:=by
 rcases h.1 with hb|hb
 ·exact .inl ⟨waa _,v,hb,h.2,h.ne⟩
 ·exact .inr ⟨waa _,v,hb,h.2,h.ne⟩
theorem Jc.lt{b:Nat}{v:Value}{x:List Value}{W:World}(h:Jc b v x W):b<W.heap.size:=by
 rcases h.1 with hb|hb<;>exact hb.lt
section
variable(w:World)
theorem zeY(b:Nat)(v:Value)(x:List Value)(s:ByteArray)(h:Jc b v x w)(hl:x.length<=1000000)(hs:s.size<=1000000):
  Calls prog 165 #[.pointer (some ⟨b,0,none⟩),.string s] w λe w'=>e=.returned (.tuple #[.int .i64 s.size,.nilIface])/\∃v',Jc b v' (x++Lib.strCells s) w'/\zg (λk=>k=b\/v.ownBlock=some k) w w'/\∀g,v'.ownBlock=some g->v.ownBlock=some g\/w.heap.size<=g:=by
 have hne:=h.ne;have hown:=h.2;obtain⟨oa,oc,rfl⟩:∃oa oc,v=.slice oa x.length oc:=by
  rcases hown.2 with⟨h1,h2⟩|⟨g,cap,cur,h1,_⟩
  ·exact⟨none,0,by rw[h1,h2]⟩
  ·exact⟨_,_,h1⟩
 have hcc:Calls prog 197 #[.pointer (some ⟨b,0,none⟩)] w λe w'=>e=.returned (.tuple #[])/\zf w' b #[.pointer (some ⟨b,0,none⟩),.slice oa x.length oc] 155/\zg (λk=>k=b) w w':=by
  rcases h.1 with hb|hb
  ·refine(Any.Builder_copyCheck_fresh (ρ:=pq) {Bc with} Bg.toX72 b w (hb.cell 0) (by simp[World.shape?,show w.heap[b]?=_ from hb];rfl) (hb.frozen 0)).mono ?_
   rintro e w' ⟨rfl,rfl⟩;exact⟨rfl,hb.set 0 _,zg.setCell (p:=λk=>k=b) (zg.refl _ w) 0 (.inl rfl) _⟩
  ·refine(Any.Builder_copyCheck_used (ρ:=pq) {Bc with} Bg.toX72 b w (hb.cell 0)).mono ?_
   rintro e w' ⟨rfl,rfl⟩;exact⟨rfl,hb,zg.refl _ _⟩
 have uw:=hid hcc;clear hcc;go_enter func165,ntmps165
 go_wp2_with fail
 refine(uw.out).mono ?_;rintro e w1 ⟨rfl,hb1,hF1⟩;have hown1:=xq hF1 hown (λk hk e=>hne (e▸hk));obtain⟨z,hz⟩:∃z,x.length=z:=⟨_,rfl⟩;have HZ:=hid hz;have hzl:z<=1000000:=by omega
 rw[hz]at hown1 hb1;have c1:=hb1.cell 1;have f1:=hb1.frozen 1;have ze0:b<=w1.heap.size:=by have:=hb1.lt;omega
 have hne1:some b≠(Value.slice oa z oc).ownBlock:=λe=>hne (by rw[hz];exact e.symm);have HB1:=hid hb1;have HOWN:=hid hown1;clear hz hown1
 go_wp2_with (at_builtin;refine ay rfl _ _ rfl b z _ x s rfl rfl HOWN.out ze0 (by omega) (by omega) ?_;intro xC oc' w' hown2 hgr hg';have o7:=hb1.grown hgr hne1;have d1:=o7.cell 1;have df:=o7.frozen 1)
 go_ret2;refine⟨rfl,.slice xC (z+s.size) oc',⟨.inr ?_,?_⟩,?_,?_⟩
 ·exact o7.set 1 _
 ·have e1:(x++Lib.strCells s).length=z+s.size:=by rw[List.length_append,Lib.strCells_length,HZ.out]
  rw[e1];refine xq (zg.setCell (p:=λk=>k=b) (zg.refl _ w') 1 (.inl rfl) _) hown2 (λk hk e=>?_);subst e;rcases hg' with e2|e2
  ·exact hne1 (hk.symm.trans e2)
  ·rw[e2]at hk
   have:=HB1.out.lt;injection hk with hk;omega
 ·refine(hF1.mono (λ_ _ h=> .inl h)).trans (zg.setCell (p:=λk=>k=b\/(Value.slice oa x.length oc).ownBlock=some k) ((zg.refl _ w1).grown hgr (λk hk=> .inl (.inr (by rw[HZ.out];exact hk)))) 1 (.inl (.inl rfl)) _) (λ_ _ h=>h)
 ·intro g hg
  rcases hg' with e2|e2
  ·left;rw[HZ.out];exact e2.symm.trans hg
  ·right
   rw[e2]at hg;injection hg with hg;have:=hF1.size;omega
end
def Xx(f:Pc->ByteArray):List Pc->ByteArray
 | []=>war
 |x::l=>f x++Xx f l
theorem ze3(f:Pc->ByteArray)(a b:List Pc):Xx f (a++b)=Xx f a++Xx f b:=by
 induction a with
 |nil=>simp[Xx]
 |cons x a ih=>simp[Xx,ih,ByteArray.append_assoc]
theorem zeZ(f:Pc->ByteArray)(a:List Pc)(x:Pc):Lib.strCells (Xx f (a++ [x]))=Lib.strCells (Xx f a)++Lib.strCells (f x):=by
 rw[ze3];simp[Xx,Lib.strCells]
def ze4(f:Pc->ByteArray)(L:List Pc):Prop:=∀pre x rest,L=pre++x::rest->x.t.size<=60000/\(Xx f pre).size<=400000/\(f x).size<=400000
open Go.RowKit
theorem Bh(zi:Bool)(h:ByteArray)(w:Bool):(vW (fl zi h w)).size=h.size:=by
 unfold fl;split
 ·rename_i hh;simp[vW];exact hh.1.symm
 ·simp[vW]
theorem bK{s:ByteArray}{p:zQ}{zi:Bool}{X:ByteArray}(h:yG s p zi=some X):X.size<=p.to-p.zh:=au (zi:=zi) (by rw[if_pos rfl];exact h)
theorem ny{s:ByteArray}{zi:Bool}{sub:Nat->List Pc}{e E:Nat}{uu:Nat->Prop}(he:e<=s.size)(lN:e<=E)(hR1:∀a,uu a->a<e->born s a=false->uu (a+1))(hR2:∀a,uu a->a<e->born s a=true->uu (prt s a).to/\(prt s a).to<=E)
 (hsub:∀a,uu a->a<e->born s a=true->(vW (sub a)).size<=(prt s a).to-a):∀(k a:Nat) (h:ByteArray) (w:Bool),uu a->a<=E->(vW (rm s zi sub e k a h w)).size<=h.size+(E-a)
 |0,a,h,w,_,_=>by unfold rm;rw[Bh];omega
 |k+1,a,h,w,hr,ha=>by
  unfold rm;by_cases hae:a<e
  ·rw[if_pos hae]
   by_cases hb:born s a=true
   ·rw[if_pos hb]
    have hg:=qP hb (by omega);obtain⟨r1,r2⟩:=hR2 a hr hae hb
    cases hi:yG s (prt s a) zi with
    |some t=>
     have h1:=bK hi;rw[Yc]at h1;have:=ny (zi:=zi) he lN hR1 hR2 hsub k _ (h++t) w r1 r2;rw[wat]at this;simp only;omega
    |none=>
     have h1:=hsub a hr hae hb;have:=ny (zi:=zi) he lN hR1 hR2 hsub k _ war false r1 r2;simp only;rw[RX,RX,wat,wat,Bh];have e0:(war).size=0:=rfl;omega
   ·rw[if_neg hb]
    have:=ny (zi:=zi) he lN hR1 hR2 hsub k _ (h++s.extract a (a+1)) w (hR1 a hr hae (by simpa using hb)) (by omega);rw[wat]at this;have e1:(s.extract a (a+1)).size<=1:=by simp;omega
    omega
  ·rw[if_neg hae,Bh];omega
def gz(s:ByteArray)(f x:Nat):Prop:=f+1<=x/\(x<yY (prt s f)->AtB s x ((5,f)::xR s f))
theorem QP{s:ByteArray}{f:Nat}(hf:f<s.size)(hb:born s f=true)(hm:(prt s f).mode=5):
  yY (prt s f)<=s.size/\yY (prt s f)<=(prt s f).to/\gz s f (f+1)/\(∀a,gz s f a->a<yY (prt s f)->zN s (a+1) f=true):=by
 have hto:=qP hb hf;have hle:=(Xt hf hb).1;have hfr:=Yc s f;have hins:=mX (prt s f) (by rw[hfr];exact hto) hle (by rw[hm];rfl);rw[hfr]at hins;have h5:md s (f+1) f=5:=O0 (mZ hb hf) (Ac (by rw[←G6 hb hf];exact hm));have hB:nt s (f+1)=(5,f)::xR s f:=by have:=Jt hb;rw[h5]at this;exact this
 have hi2:yY (prt s f)<=(prt s f).to:=(mX (prt s f) (by rw[hfr];exact hto) (waa _) (by rw[hm];rfl)).2;refine⟨hins.2,hi2,⟨waa _,λ_ _=> .inl hB⟩,?_⟩;rintro x ⟨h1,_⟩ h2;have h2':=h2;have hpe:=Ju hb hf;have h12:¬cnt (md s (eK s f s.size) f)=12:=by rw[←G6 hb hf,hm];decide
 rw[if_neg h12]at hpe;refine G7 (k:=s.size) (by omega) ?_;rw[hpe]at h2;have O5:cnt (md s (eK s f s.size) f)=5:=by rw[←G6 hb hf];exact hm
 unfold yY at h2;simp only[O5]at h2;have e1:Yd 5=1:=rfl;have e2:Ja 5=1:=rfl;rw[e1,e2]at h2;by_cases hE:eK s f s.size=s.size
 ·omega
 ·rw[if_neg hE]at h2
  have:decide (eK s f s.size=s.size)=false:=decide_eq_false hE;rw[this]at h2;simp at h2
  repeat' split at h2
  all_goals omega
theorem MQ{s:ByteArray}{f:Nat}(hf:f<s.size)(hb:born s f=true)(hm:(prt s f).mode=5):
  (∀a,gz s f a->a<yY (prt s f)->born s a=false->gz s f (a+1))/\∀a,gz s f a->a<yY (prt s f)->born s a=true->gz s f (prt s a).to/\(prt s a).to<=(prt s f).to:=by
 obtain⟨h1,h2,_,hin⟩:=QP hf hb hm;refine⟨?_,?_⟩
 ·rintro a ⟨g1,g2⟩ hlt hbn
  exact⟨by omega,λ_ _=> .inl ((g2 hlt).none (.inr ⟨f,_,rfl,hin a ⟨g1,g2⟩ hlt⟩) (by omega) hbn)⟩
 ·rintro a ⟨g1,g2⟩ hlt hbn
  have ha:a<s.size:=by omega
  have:=qP hbn ha;have hw:=(g2 hlt).born (.inr ⟨f,_,rfl,hin a ⟨g1,g2⟩ hlt⟩) ha hbn;exact⟨⟨by omega,λ_=>by rw[←hw];exact Af ha hbn⟩,ze5 hb hbn (by omega) ha (hin a ⟨g1,g2⟩ hlt)⟩
theorem ze6{s:ByteArray}{f:Nat}(hf:f<s.size)(hb:born s f=true)(hm:(prt s f).mode=5):(vW (DB s (f+1) (yY (prt s f)))).size<=(prt s f).to-f:=by
 obtain⟨h1,h2,h3,hin⟩:=QP hf hb hm;have hto:=qP hb hf;obtain⟨n1,n2⟩:=MQ hf hb hm;have:=ny (s:=s) (zi:=true) (sub:=Js s) (e:=yY (prt s f)) (E:=(prt s f).to) (uu:=gz s f) h1 h2 n1 n2 (λa hr hlt hbn=>by
  unfold Js;simp[vW];omega) (yY (prt s f)-(f+1)) (f+1) war true h3 (by omega)
 have e0:(war).size=0:=rfl;unfold DB Rm;omega
theorem Ue(s:ByteArray):(vW (kS s)).size<=s.size:=by
 have:=ny (s:=s) (zi:=false) (sub:=jQ s) (e:=s.size) (E:=s.size) (uu:=λ_=>True) (waa _) (waa _) (λ_ _ _ _=>trivial) (λa _ hlt hbn=>⟨trivial,(Xt hlt hbn).1⟩) (λa _ hlt hbn=>by
  have hto:=qP hbn hlt;have hfr:=Yc s a;unfold jQ;split
  ·rename_i h5
   exact ze6 hlt hbn h5
  ·split
   ·rename_i h4
    have hins:=mX (prt s a) (z:=(prt s a).to) (by rw[hfr];exact hto) (waa _) (by rcases h4 with e|e<;>rw[e]<;>rfl);simp[vW];omega
   ·simp[vW]
    omega) s.size 0 war false trivial (Nat.zero_le _)
 have e0:(war).size=0:=rfl;unfold kS Rm;simp only[Nat.sub_zero];omega
theorem Ug(l:List Pc):Xx (λx=>x.t) l=vW l:=by
 induction l with
 |nil=>rfl
 |cons x l ih=>show x.t++_=x.t++_;rw[ih]
theorem zeW{s:ByteArray}(hs:s.size<=60000):ze4 (λx=>x.t) (kS s):=by
 intro pre x rest e;have:=Ue s;rw[e,RX,wat]at this;have e2:(vW (x::rest)).size=x.t.size+(vW rest).size:=by show(x.t++vW rest).size=_;rw[wat]
 rw[Ug];show x.t.size<=60000/\(vW pre).size<=400000/\x.t.size<=400000;omega
theorem zet(zi:Bool):fl zi ByteArray.empty false=[]:=rfl
theorem QM{s:ByteArray}{a b i:Nat}(hb:b<=s.size)(hi:i<b-a):by8 (s.extract a b) i=by8 s (a+i):=by
 unfold by8;rw[VC s a b i hb hi]
theorem uX{s:ByteArray}{a b:Nat}(hb:b<=s.size):(s.extract a b).size=b-a:=by
 rw[ByteArray.size_extract];omega
attribute [local go_sem] Oper.semAt_some
def ng(w:World)(z Bb:Nat)(pre:List Pc)(T:Nat->Prop)(W:World):Prop:=
 ∃v,Jc Bb v (Lib.strCells (Xx (λx=>x.t) pre)) W/\(∀g,v.ownBlock=some g->z+2<=g/\¬T g)/\(∀b,T b->z+2<=b)/\z+2<=W.heap.size/\Below w.heap.size w W
theorem ng.Ze{w:World}{z Bb:Nat}(hb:Bb<z)(hw:w.heap.size<=z):Yx (z+1) (ng w z Bb):=by
 rintro pre T W W' T' ⟨v,h1,h2,hT,Xy,hB⟩ hf hT';have no:∀b,b<z->¬(T b\/b=z+1):=λb hb hh=>by rcases hh with g|g;have:=hT b g;omega;omega
 refine⟨v,h1.zh hf (no _ hb) (λg hg hh=>?_),λg hg=>⟨(h2 g hg).1,λhh=>?_⟩,λb hb=>?_,?_,?_⟩
 ·have:=h2 g hg
  rcases hh with e|e
  ·exact this.2 e
  ·omega
 ·rcases hT' g hh with e|e
  ·exact(h2 g hg).2 e
  ·have:=kK h1.2 g hg;omega
 ·rcases hT' b hb with e|e
  ·exact hT b e
  ·omega
 ·have:=hf.size;omega
 ·exact hB.trans ((hf.below (n:=w.heap.size) hB.size (λb hh=>by rcases hh with e|e;have:=hT b e;omega;omega)))
section
variable(w:World)
theorem zeV(s:ByteArray)(hs:s.size<=60000):
  Calls prog 135 #[.string s] w λe w'=>e=.returned (.string (vW (kS s)))/\Below w.heap.size w w':=by
 have hok:=zeW hs;have SY:=hid (λW=>zer W s hs);have hcb:Xx (λx=>x.t) (kS s)=vW (kS s):=Ug _;have HCB:=hid hcb;clear hcb;refine(callsIn_wide (n:=5)).1 ?_;have hfn:Fence.wide.fn 135:=trivial;have bb:=zf.new w #[.pointer none,.slice none 0 0] 155;have hB0:Below w.heap.size w (w.alloc (.cells #[.pointer none,.slice none 0 0] 155)):=(Below.refl _ w).alloc (Nat.le_refl _) _;have hz0:(w.alloc (.cells #[.pointer none,.slice none 0 0] 155)).heap.size=w.heap.size+1:=by simp
 refine callsIn_of_wp_marks func135 rfl hfn ?_ rfl;refine(wpIn_wide (n:=5)).2 ?_;simp only[ntmps135,List.size_toArray,List.length_cons,List.length_nil,Nat.reduceAdd,Nat.reduceSub,Array.replicate_succ,Array.replicate_zero,List.push_toArray,List.append_toArray,List.nil_append,List.cons_append]
 go_wp2_with fail
 obtain⟨W0,hW0⟩:∃X,w.alloc (.cells #[.pointer none,.slice none 0 0] 155)=X:=⟨_,rfl⟩;rw[hW0]at bb hB0 hz0 ⊢;clear hW0;obtain⟨Bb,h6⟩:∃x,w.heap.size=x:=⟨_,rfl⟩;have H6:=hid h6;rw[h6]at bb hz0 ⊢;refine(SY.out _).mono ?_;rintro en W1 ⟨mb,Bd,Bf,Bt,Br,rfl,hB1,hcap,hbf,hge⟩;have hz1:=hB1.size;have hBw:Below w.heap.size w W1:=hB0.trans (hB1.mono hB0.size);have hseq:∀W,Below W1.heap.size W1 W->Yw (5-1) prog 227 #[.pointer (some ⟨Bd,0,none⟩),.pointer (some ⟨Bf,0,none⟩),.pointer (some ⟨Bt,0,none⟩),.pointer (some ⟨Br,0,none⟩)] Y3 (Zd Bd Bt Br mb) (kS s) W:=λW hW=>
  zem 4 (by omega) s hs mb Bd Bf Bt Br W (hcap.same (λb hb=>hW.block b (hcap.lt b hb))) (hbf.below hW)
 have hord:Bb<W1.heap.size/\w.heap.size<=W1.heap.size:=by omega
 have wu:∀b,Zd Bd Bt Br mb b->Bb<b/\b<W1.heap.size:=λb hb=>⟨by have:=hge b hb;omega,hcap.lt b hb⟩;have Jo:=hid hseq;have wz:=hid wu;have HOK:=hid hok;have cb:=bb.below hB1;clear hseq wu hcap hbf hge hok h6 bb hB0 hz0 hB1 hz1;go_wp2;refine(wpIn_wide (n:=5)).1 (mM (L:=kS s) (encs:=Y3) (C:=Zd Bd Bt Br mb) (gf:=227) (lb:=#[.pointer (some ⟨Bd,0,none⟩),.pointer (some ⟨Bf,0,none⟩),.pointer (some ⟨Bt,0,none⟩),.pointer (some ⟨Br,0,none⟩)]) rfl (enters_of func227 (by kernel_rfl) rfl) Jo.out (λb hb=>(wz.out b hb).2) ?hps
  (ng w W1.heap.size Bb) (λ_ _ _ _=>False) (ng.Ze hord.1 hord.2) (λ_ _ _ _ _ _ h _ _=>h) ?start ?round ?fin ?stop)
 case hps=>intro x;rfl
 case start=>
  intro W hB hz;exact⟨.slice none 0 0,⟨.inl (cb.below hB),World.ownsRow_nil _ _ _ _⟩,(λg hg=>by cases hg),(λb hb=>hb.elim),by omega,hBw.trans (hB.mono hBw.size)⟩
 case stop=>rintro c pre T W h;exact h.elim
 case fin=>
  rintro T W ⟨v,h1,h2,hT,Xy,hB⟩ Vd hWd;have hstr:=Tryz.Builder_String_any_k Bb Bb (Xx (λx=>x.t) (kS s)).data.toList W (Lib.IsBuilderF.of h1.isB) (by have:=h1.lt;omega);have zeX:=hid hstr;have zok:=hid hWd;clear hstr h1 h2;dsimp only
  go_wp2_with fail
  refine(zeX.out).mono ?_;rintro en W2 ⟨rfl,_,hB2,ho2⟩;have hD2:=ho2 W1.heap.size _ hWd (λe=>by injection e with e';omega) (λc fz e=>by cases e);have HD:=hid hD2;have HB2:=hid hB2;clear ho2 hD2 hB2;go_wp2;have gB:Below w.heap.size w W2:=hB.trans (HB2.out.mono (by have:=H6.out;omega));refine⟨by simp,.inl ⟨_,_,rfl,run_takeDeferred HD.out,?_⟩⟩;refine⟨.string (vW (kS s)),?_,rfl,?_⟩
  ·rw[←HCB.out]
   simp[results,Tryz.f135,go_sem]
  ·exact gB.trans (belowK_b (w:=w) (Nat.le_refl _) W2 W1.heap.size _ _ (by omega) HD.out rfl rfl)
 case round=>
  rintro pre x rest T W hLx ⟨v,h1,h2,hT,Xy,hB⟩ jG Vd hrec hdef t1 t2;simp only[Y3,Rz]
  gi_wp2
  obtain⟨W2,hW2⟩:∃X,W.alloc (.cells #[.bool x.ex,.bool x.q,.string x.t] 119)=X:=⟨_,rfl⟩;have hB2:Below W.heap.size W W2:=by rw[←hW2];exact(Below.refl _ _).alloc (Nat.le_refl _) _
  have kX:zf W2 W.heap.size #[.bool x.ex,.bool x.q,.string x.t] 119:=by rw[←hW2];exact zf.new W _ _
  have z2:W2.heap.size=W.heap.size+1:=by rw[←hW2];simp
  rw[hW2];clear hW2;refine⟨hB2.block _ (by omega),hB2.block _ (by omega),⟨hB2.size,λb hb _=>hB2.block b hb⟩,λr=>?_⟩;obtain⟨W3,hW3⟩:∃X,W2.putObj (W1.heap.size+1) (.loop r)=X:=⟨_,rfl⟩;have z3:W3.heap.size=W.heap.size+1:=by rw[←hW3,←z2];simp
  have hF3:zg (λb=>b=W1.heap.size+1) W W3:=by
   rw[←hW3];exact(zg.of_below hB2).trans (jA (p:=λb=>b=W1.heap.size+1) W2 _ rfl) (λ_ _ h=>h)
  have mO:zf W3 W.heap.size #[.bool x.ex,.bool x.q,.string x.t] 119:=by
   rw[←hW3];exact(World.putObj_heap_other (by omega)).trans kX
  rw[hW3];clear hW3 kX hB2 z2 hrec hdef;have hb3:=h1.zh hF3 (by omega) (λg hg e=>by have:=(h2 g hg).1;omega);have x2:=mO.cell 2;have JB:Below w.heap.size w W3:=hB.trans (hF3.below (by omega) (λb hb=>by omega));have pg:=HOK.out pre x rest hLx;have zol:=hid pg;have hwl:w.heap.size<=W3.heap.size:=JB.size;have bZ:∀g,v.ownBlock=some g->g<W.heap.size:=kK h1.2;have H2:=hid h2;have hws:=zeY W3 Bb v (Lib.strCells (Xx (λx=>x.t) pre)) x.t hb3 (by rw[Lib.strCells_length];have:=pg.2.1;omega) (by have:=pg.1;omega);have ni:=hid (CallsIn.inRound (W1.heap.size+1) ((callsIn_wide (n:=5-1-1-1)).2 hws));have h11:1<=5-1-1:=by omega
  clear h1 h2 hb3 hLx hws pg
  gi_wp2_with fail
  refine⟨trivial,(ni.out).mono ?_⟩;rintro en W7 ⟨rfl,v',hv7,gG,Me⟩;have hno:∀b,b<W1.heap.size+2->b≠Bb->¬(b=Bb\/v.ownBlock=some b):=λb hb hn hh=>by
   rcases hh with e|e
   ·exact hn e
   ·have:=(H2.out b e).1;omega
  have g1:=gG.block (W1.heap.size+1) (by omega) (hno _ (by omega) (by omega));have g2:=gG.block W1.heap.size (by omega) (hno _ (by omega) (by omega));have mV:ng w W1.heap.size Bb (pre++ [x]) T W7:=by
   refine⟨v',by rw[zeZ];exact hv7,λg hg=>?_,hT,by have:=gG.size;omega,?_⟩
   ·rcases Me g hg with e|e
    ·exact H2.out g e
    ·exact⟨by omega,λht=>by have:=jG g ht;omega⟩
   ·exact JB.trans (gG.below hwl (λb hb=>by
     have:=H6.out;rcases hb with e|e
     ·omega
     ·have:=(H2.out b e).1;omega))
  have OW:=hid mV;have Uh:zO (Zd Bd Bt Br mb) T W3 W7:=zO.RQ gG (λb _ hb=>⟨λht=>by
    rcases hb with e|e
    ·have:=hT b ht;omega
    ·exact(H2.out b e).2 ht,λhc=>by
    have h1:=wz.out b hc;rcases hb with e|e
    ·omega
    ·have:=(H2.out b e).1;omega⟩)
  have HKK:=hid Uh;clear mV Uh
  gi_wp2
  exact⟨g1,g2,HKK.out,OW.out⟩
end
end Go.Proofs.YtkolpaonccmgiaaGreatDoor

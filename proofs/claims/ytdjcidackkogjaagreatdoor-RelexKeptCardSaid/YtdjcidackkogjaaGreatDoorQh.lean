/- What told of layer 8 (literal) returns: an iterato -/
import Derived.Test.YtdjcidackkogjaaGreatDoorLtE
import Derived.Test.YtdjcidackkogjaaGreatDoorMdL
namespace Go.Proofs.YtdjcidackkogjaaGreatDoor
set_option linter.unusedSectionVars false
set_option linter.unusedVariables false
open Lib(hid)
set_option maxHeartbeats 8000000
set_option maxRecDepth 100000
open Go.RowKit Go.Shelf
theorem YB.any{α:Type}{n m:Nat}{P:Program}{g:Nat}{lb:Array Value}{encs:α→Array Value}{C:Nat→Prop}{L:List α}{W:World}(h:YB n P g lb encs C L W):YB m P g lb encs C L W:=by
 intro l J Jx hJ hJx hY h0;exact(callsIn_wide (n:=m)).2 ((callsIn_wide (n:=n)).1 (h l J Jx hJ hJx (λpre x rest T W1 e1 e2 e3=>YieldAt.any (hY pre x rest T W1 e1 e2 e3)) h0))
theorem lI(p:zJ){z:Nat}(h1:p.zf<p.to)(h2:p.to≤z)(hh:qJ p.mode=1):p.zf+1≤yG p∧yG p≤z:=by
 unfold yG;rw[hh]
 repeat' split
 all_goals omega
theorem TI{s:ByteArray}{f:Nat}:∀{k:Nat},zI s k f=true→md s k f=5→md s (f+1) f=5
 |0,h,_=>by have:=jv h;omega
 |k+1,h,hm=>by
  rcases Nat.eq_or_lt_of_le (Nat.le_of_lt_succ (jv h))with e|e
  ·subst e;exact hm
  ·rcases TJ h e with e2|e2
   ·exact TI (QL h e) (e2.symm.trans hm)
   ·rw[hm]at e2
    unfold qZ at e2;omega
theorem fF{m:Nat}(h:cnt m=5):m=5:=by
 unfold cnt at h
 repeat' split at h
 all_goals omega
theorem TK{s:ByteArray}{zk:Bool}{sub:Nat→List Pc}(hs:∀a,sub a≠ []){e:Nat}:∀(k a:Nat) (h:ByteArray),rm s zk sub e k a h true≠ []
 |0,a,h=>by unfold rm fl;simp
 |k+1,a,h=>by
  unfold rm
  repeat' split
  ·exact TK hs k _ _
  ·have:=hs a
   simp[this]
  ·exact TK hs k _ _
  ·unfold fl;simp
theorem zco(s:ByteArray)(f e:Nat):DB s f e≠ []:=TK (λa=>by unfold Y4;simp) _ _ _
theorem zcp(s:ByteArray)(a:Nat):uw s a≠ []:=by
 unfold uw
 repeat' split
 ·exact zco _ _ _
 ·simp
 ·simp
section
variable(w:World)
theorem fG(mb:Nat)(x:Pc){w':World}{g Bx:Nat}(hB:Below w.heap.size w w')(hg:zh w' g #[.bool x.ex,.bool x.q,.string x.t] 133)(hb:zh w' Bx #[.slice (some ⟨g,0,none⟩) 1 1] 130):
  Gu mb [x] w (.returned (.func (.func 185) #[] #[.pointer (some ⟨Bx,0,none⟩)])) w':=
 ⟨_,_,λ_=>False,rfl,hB,enters_of Tryz.func185 (by kernel_rfl) rfl,(λ_ h=>h.elim),λn W hn hW=>zb9 n hn Bx g 1 x _ W (hb.below hW) (hg.below hW) rfl rfl rfl⟩
theorem fH(s:ByteArray)(hs:s.size≤60000)(mb m f t:Nat)(up:Int)(op zk:Bool)(h1:f<t)(h2:t≤s.size)(hm:m≠4∧m≠5∧m≠13):
  Calls Tryz.prog 153 #[.agg #[.string s,.map (some mb)],.agg #[.int .i64 (m:Int),.int .i64 (f:Int),.int .i64 (t:Int),.int .i64 up,.bool op],.bool zk] w (Gu mb [⟨true,zk,s.extract f t⟩] w):=by
 have t4:((m:Int)==4)=false:=beq_eq_false_iff_ne.2 (by omega);have t5:((m:Int)==5)=false:=beq_eq_false_iff_ne.2 (by omega);have t13:((m:Int)==13)=false:=beq_eq_false_iff_ne.2 (by omega);obtain⟨X,hX⟩:∃X,s.extract f t=X:=⟨_,rfl⟩;rw[hX];have b1:(f:Int)≤(t:Int):=by omega
 have b2:(t:Int)≤(s.size:Int):=by omega
 have QM:=hid (λW=>TL W m f t up op (by omega) (by omega));have hw2:Below w.heap.size w ((w.alloc (.cells #[.string s,.map (some mb)] 192)).alloc (.cells #[.int .i64 (m:Int),.int .i64 (f:Int),.int .i64 (t:Int),.int .i64 up,.bool op] 142)):=((Below.refl _ _).alloc (Nat.le_refl _) _).alloc (by simp) _;have kr:=(zh.new w #[.string s,.map (some mb)] 192).alloc (.cells #[.int .i64 (m:Int),.int .i64 (f:Int),.int .i64 (t:Int),.int .i64 up,.bool op] 142);have kp:=zh.new (w.alloc (.cells #[.string s,.map (some mb)] 192)) #[.int .i64 (m:Int),.int .i64 (f:Int),.int .i64 (t:Int),.int .i64 up,.bool op] 142;rw[World.size_alloc]at kp;go_enter Tryz.func153,Tryz.ntmps153
 go_wp2_with fail
 refine(QM.out _).mono ?_;rintro e w1 ⟨rfl,hB1⟩;have yz:=kr.below hB1;have YE:=kp.below hB1;have hB2:Below w.heap.size w w1:=hw2.trans (hB1.mono (by simp;omega));have lr:=yz.lt;have lp:=YE.lt;have r0:=yz.cell 0;have r1:=yz.cell 1;have p0:=YE.cell 0;have p1:=YE.cell 1;have p2:=YE.cell 2;clear kr kp hw2 hB1;have kg:=(zh.new w1 #[.bool true,.bool zk,.string X] 133).alloc (.cells #[.slice (some ⟨w1.heap.size,0,none⟩) 1 1] 130);have kb:=zh.new (w1.alloc (.cells #[.bool true,.bool zk,.string X] 133)) #[.slice (some ⟨w1.heap.size,0,none⟩) 1 1] 130;have lJ:Below w.heap.size w ((w1.alloc (.cells #[.bool true,.bool zk,.string X] 133)).alloc (.cells #[.slice (some ⟨w1.heap.size,0,none⟩) 1 1] 130)):=(hB2.alloc hB2.size _).alloc (by have:=hB2.size;simp;omega) _;rw[World.size_alloc]at kb;have lK:=hid (fG w mb ⟨true,zk,X⟩ lJ kg kb);clear kg kb lJ
 go_wp2_with fail
 refine((callsIn_wide (n:=1)).1 (Es 1 _ 1 1 _)).mono ?_;rintro e w2 ⟨rfl,rfl⟩;go_wp2;go_ret;exact lK.out
theorem zcq(s:ByteArray)(hs:s.size≤60000)(mb m f t:Nat)(up:Int)(op zk:Bool)(h1:f<t)(h2:t≤s.size)(hm:m=4∨m=13):
  Calls Tryz.prog 153 #[.agg #[.string s,.map (some mb)],.agg #[.int .i64 (m:Int),.int .i64 (f:Int),.int .i64 (t:Int),.int .i64 up,.bool op],.bool zk] w (Gu mb [⟨false,true,s.extract (f+1) (yG ⟨m,f,t,up,op⟩)⟩] w):=by
 have hm1:qJ m=1:=by rcases hm with rfl|rfl<;>rfl
 have hins:=lI ⟨m,f,t,up,op⟩ h1 h2 hm1;obtain⟨T,hT⟩:∃T,yG ⟨m,f,t,up,op⟩=T:=⟨_,rfl⟩;have t5:((m:Int)==5)=false:=beq_eq_false_iff_ne.2 (by omega);rw[hT]at hins ⊢;simp only at hins;obtain⟨X,hX⟩:∃X,s.extract (f+1) T=X:=⟨_,rfl⟩;rw[hX];obtain⟨f1,hf1⟩:∃f1,f+1=f1:=⟨_,rfl⟩;have b1:(f1:Int)≤(T:Int):=by omega
 have b2:(T:Int)≤(s.size:Int):=by omega
 rw[hf1]at hX;have QM:=hid (λW=>TL W m f t up op (by omega) (by omega));rw[hm1,hT,hf1]at QM;have HF:=hid hf1;have fJ:=hid hT;have YF:=hid hm1;have hw2:Below w.heap.size w ((w.alloc (.cells #[.string s,.map (some mb)] 192)).alloc (.cells #[.int .i64 (m:Int),.int .i64 (f:Int),.int .i64 (t:Int),.int .i64 up,.bool op] 142)):=((Below.refl _ _).alloc (Nat.le_refl _) _).alloc (by simp) _;have kr:=(zh.new w #[.string s,.map (some mb)] 192).alloc (.cells #[.int .i64 (m:Int),.int .i64 (f:Int),.int .i64 (t:Int),.int .i64 up,.bool op] 142);have kp:=zh.new (w.alloc (.cells #[.string s,.map (some mb)] 192)) #[.int .i64 (m:Int),.int .i64 (f:Int),.int .i64 (t:Int),.int .i64 up,.bool op] 142;rw[World.size_alloc]at kp;clear hf1 hT hm1 hins;rcases hm with rfl|rfl
 all_goals
  go_enter Tryz.func153,Tryz.ntmps153
  go_wp2_with fail
  refine(QM.out _).mono ?_;rintro e w1 ⟨rfl,hB1⟩;have yz:=kr.below hB1;have YE:=kp.below hB1;have hB2:Below w.heap.size w w1:=hw2.trans (hB1.mono (by simp;omega));have lr:=yz.lt;have lp:=YE.lt;have r0:=yz.cell 0;have r1:=yz.cell 1;have p0:=YE.cell 0;have p1:=YE.cell 1;have p2:=YE.cell 2;clear kr kp hw2 hB1;have kg:=(zh.new w1 #[.bool false,.bool true,.string X] 133).alloc (.cells #[.slice (some ⟨w1.heap.size,0,none⟩) 1 1] 130);have kb:=zh.new (w1.alloc (.cells #[.bool false,.bool true,.string X] 133)) #[.slice (some ⟨w1.heap.size,0,none⟩) 1 1] 130;have lJ:Below w.heap.size w ((w1.alloc (.cells #[.bool false,.bool true,.string X] 133)).alloc (.cells #[.slice (some ⟨w1.heap.size,0,none⟩) 1 1] 130)):=(hB2.alloc hB2.size _).alloc (by have:=hB2.size;simp;omega) _;rw[World.size_alloc]at kb;have lK:=hid (fG w mb ⟨false,true,X⟩ lJ kg kb);clear kg kb lJ
  go_wp2_with fail
  refine((callsIn_wide (n:=1)).1 (Es 1 _ 1 1 _)).mono ?_;rintro e w2 ⟨rfl,rfl⟩;go_wp2;go_ret;exact lK.out
theorem zcr(n:Nat)(hn:1≤n)(s:ByteArray)(hs:s.size≤60000)(f:Nat)(hf:f<s.size)(hb:born s f=true)(hm:(prt s f).mode=5)(mb Bd Bf Bt Br:Nat)(W:World)(hcap:Cap W Bd Bt Br mb s true (yG (prt s f)))(hbf:zh W Bf #[.int .i64 ((f+1:Nat):Int)] 3):
  YB n Tryz.prog 150 #[.pointer (some ⟨Bd,0,none⟩),.pointer (some ⟨Bf,0,none⟩),.pointer (some ⟨Bt,0,none⟩),.pointer (some ⟨Br,0,none⟩)] Za (jE Bd Bt Br mb) (DB s (f+1) (yG (prt s f))) W:=by
 have hto:=uV hb hf;have hle:=(Zo hf hb).1;have hfr:=qH s f;have hins:=lI (prt s f) (by rw[hfr];exact hto) hle (by rw[hm];rfl);rw[hfr]at hins;have h5:md s (f+1) f=5:=TI (lL hb hf) (fF (by rw[←JO hb hf];exact hm));have hB:nt s (f+1)=(5,f)::xg s f:=by have:=Y5 hb;rw[h5]at this;exact this
 have hin:∀x,f+1≤x→x<yG (prt s f)→zI s (x+1) f=true:=by
  intro x h1 h2;have h2':=h2;have hpe:=Y6 hb hf;have h12:¬cnt (md s (eK s f s.size) f)=12:=by rw[←JO hb hf,hm];decide
  rw[if_neg h12]at hpe;refine JP (k:=s.size) (by omega) ?_;have hel:=Gz s (f:=f) (k:=s.size) (Nat.le_of_lt hf);rw[hpe]at h2;have TM:cnt (md s (eK s f s.size) f)=5:=by rw[←JO hb hf];exact hm
  unfold yG at h2;simp only[TM]at h2;have e1:qJ 5=1:=rfl;have e2:YG 5=1:=rfl;rw[e1,e2]at h2;by_cases hE:eK s f s.size=s.size
  ·omega
  ·rw[if_neg hE]at h2
   have:decide (eK s f s.size=s.size)=false:=decide_eq_false hE;rw[this]at h2;simp at h2
   repeat' split at h2
   all_goals omega
 refine YB.any (n:=3) ?_;refine EI 3 (Nat.le_refl _) s hs true (f+1) (yG (prt s f)) (by omega) hins.2 (Y4 s) (λx=>f+1≤x∧(x<yG (prt s f)→AtB s x ((5,f)::xg s f))) ⟨Nat.le_refl _,λ_ _=> .inl hB⟩ ?_ ?_ mb Bd Bf Bt Br W hcap hbf (λa=>by unfold Y4;simp) ?_
 ·rintro a ⟨h1,h2⟩ hlt hbn
  exact⟨by omega,λ_ _=> .inl ((h2 hlt).none (.inr ⟨f,_,rfl,hin a h1 hlt⟩) (by omega) hbn)⟩
 ·rintro a ⟨h1,h2⟩ hlt hbn
  have ha:a<s.size:=by omega
  have:=uV hbn ha;have hw:=(h2 hlt).born (.inr ⟨f,_,rfl,hin a h1 hlt⟩) ha hbn;exact⟨by omega,λ_=>by rw[←hw];exact fK ha hbn⟩
 ·rintro a w ⟨h1,h2⟩ hlt hbn hit hmp
  have ha:a<s.size:=by omega
  have h4:=fM (h2 hlt) ha (hin a h1 hlt) hbn;have hne:(prt s a).mode≠13:=by
   intro e;unfold yf at hit;rw[if_neg (by omega),if_neg (by omega),if_pos e]at hit
   repeat' split at hit
   all_goals first|(cases hit;done)|(rename_i hh;simp at hh)
  have h5:=fH w s hs mb (prt s a).mode (prt s a).zf (prt s a).to (prt s a).up (prt s a).op true (by rw[qH];exact uV hbn ha) (Zo ha hbn).1 ⟨h4.2.1,h4.2.2.1,hne⟩;rw[show Y4 s a=[⟨true,true,s.extract (prt s a).zf (prt s a).to⟩] by unfold Y4;rw[qH]];exact h5
theorem zcs(s:ByteArray)(hs:s.size≤60000)(mb f:Nat)(hf:f<s.size)(hb:born s f=true)(hm:(prt s f).mode=5)(zk:Bool)(hmp:JG w mb s):
  Calls Tryz.prog 153 #[.agg #[.string s,.map (some mb)],.agg #[.int .i64 ((prt s f).mode:Int),.int .i64 ((prt s f).zf:Int),.int .i64 ((prt s f).to:Int),.int .i64 (prt s f).up,.bool (prt s f).op],.bool zk] w (Gu mb (DB s (f+1) (yG (prt s f))) w):=by
 have hto:=uV hb hf;have hle:=(Zo hf hb).1;have hfr:=qH s f;have lM:=hid (λn hn Bd Bf Bt Br W h1 h2=>zcr n hn s hs f hf hb hm mb Bd Bf Bt Br W h1 h2);obtain⟨p,hp⟩:∃p,prt s f=p:=⟨_,rfl⟩;rw[hp]at hto hle hfr hm lM ⊢;obtain⟨m,f',t,up,op⟩:=p;simp only at hto hle hfr hm lM ⊢;subst hm hfr;obtain⟨T,hT⟩:∃T,yG ⟨5,f',t,up,op⟩=T:=⟨_,rfl⟩;rw[hT]at lM ⊢;obtain⟨f1,hf1⟩:∃f1,f'+1=f1:=⟨_,rfl⟩;rw[hf1]at lM ⊢;have QM:=hid (λW=>TL W 5 f' t up op (by omega) (by omega));rw[show qJ 5=1 from rfl,hT,hf1]at QM;have HF:=hid hf1;have HT:=hid hT;have HP:=hid hp;clear hf1 hT hp;have hw2:Below w.heap.size w ((w.alloc (.cells #[.string s,.map (some mb)] 192)).alloc (.cells #[.int .i64 ((5:Nat):Int),.int .i64 (f':Int),.int .i64 (t:Int),.int .i64 up,.bool op] 142)):=((Below.refl _ _).alloc (Nat.le_refl _) _).alloc (by simp) _;have kr:=(zh.new w #[.string s,.map (some mb)] 192).alloc (.cells #[.int .i64 ((5:Nat):Int),.int .i64 (f':Int),.int .i64 (t:Int),.int .i64 up,.bool op] 142);have kp:=zh.new (w.alloc (.cells #[.string s,.map (some mb)] 192)) #[.int .i64 ((5:Nat):Int),.int .i64 (f':Int),.int .i64 (t:Int),.int .i64 up,.bool op] 142;rw[World.size_alloc]at kp;go_enter Tryz.func153,Tryz.ntmps153
 go_wp2_with fail
 refine(QM.out _).mono ?_;rintro e w1 ⟨rfl,hB1⟩;have yz:=kr.below hB1;have YE:=kp.below hB1;have hB2:Below w.heap.size w w1:=hw2.trans (hB1.mono (by simp;omega));have hm1:JG w1 mb s:=by obtain⟨k,hk⟩:=hmp;exact⟨k,hk.same (hB2.block mb hk.lt)⟩
 have lr:=yz.lt;have lp:=YE.lt;have r0:=yz.cell 0;have r1:=yz.cell 1;have p0:=YE.cell 0;have lN:=hid (Ez s mb f1 T true w1 hm1);clear kr kp hw2 hB1
 go_wp2_with fail
 refine(lN.out).mono ?_;rintro e w2 ⟨Bd,Bf,Bt,Br,rfl,hB3,hc3,hf3,g1,g2,g3,g4⟩;have hB4:Below w.heap.size w w2:=hB2.trans (hB3.mono hB2.size);have hsz:=hB2.size;have lK:Hid (Gu mb (DB s f1 T) w (.returned (.func (.func 150) #[] #[.pointer (some ⟨Bd,0,none⟩),.pointer (some ⟨Bf,0,none⟩),.pointer (some ⟨Bt,0,none⟩),.pointer (some ⟨Br,0,none⟩)])) w2):=hid (by
  refine⟨_,_,jE Bd Bt Br mb,rfl,hB4,enters_of Tryz.func150 (by kernel_rfl) rfl,λb hb=>⟨hc3.lt b hb,?_⟩,λn W hn hW=>?_⟩
  ·rcases hb with rfl|rfl|rfl|rfl
   ·right;omega
   ·right;omega
   ·right;omega
   ·exact .inl rfl
  ·exact lM.out n hn Bd Bf Bt Br W (hc3.same (λb hb=>hW.block b (hc3.lt b hb))) (hf3.below hW))
 clear hc3 hf3;go_wp2;go_ret;exact lK.out
end
theorem zct(n:Nat)(hn:1≤n)(s:ByteArray)(hs:s.size≤60000)(mb Bd Bf Bt Br:Nat)(W:World)(hcap:Cap W Bd Bt Br mb s false s.size)(hbf:zh W Bf #[.int .i64 ((0:Nat):Int)] 3):
  YB n Tryz.prog 150 #[.pointer (some ⟨Bd,0,none⟩),.pointer (some ⟨Bf,0,none⟩),.pointer (some ⟨Bt,0,none⟩),.pointer (some ⟨Br,0,none⟩)] Za (jE Bd Bt Br mb) (jw s) W:=by
 refine YB.any (n:=3) ?_;refine EI 3 (Nat.le_refl _) s hs false 0 s.size (Nat.zero_le _) (Nat.le_refl _) (uw s) (λ_=>True) trivial (λ_ _ _ _=>trivial) (λ_ _ _ _=>trivial) mb Bd Bf Bt Br W hcap hbf (zcp s) ?_;intro a w _ ha hbn hit hmp;have hfr:=qH s a;have h1:(prt s a).zf<(prt s a).to:=by rw[hfr];exact uV hbn ha
 have h2:=(Zo ha hbn).1;by_cases h5:(prt s a).mode=5
 ·have:=zcs w s hs mb a ha hbn h5 false hmp
  rw[show uw s a=DB s (a+1) (yG (prt s a)) by unfold uw;rw[if_pos h5]];exact this
 by_cases h4:(prt s a).mode=4∨(prt s a).mode=13
 ·have:=zcq w s hs mb (prt s a).mode (prt s a).zf (prt s a).to (prt s a).up (prt s a).op false h1 h2 h4
  rw[show uw s a=[⟨false,true,s.extract ((prt s a).zf+1) (yG (prt s a))⟩] by unfold uw;rw[if_neg h5,if_pos h4,hfr]];exact this
 ·have:=fH w s hs mb (prt s a).mode (prt s a).zf (prt s a).to (prt s a).up (prt s a).op false h1 h2 (by omega)
  rw[show uw s a=[⟨true,false,s.extract (prt s a).zf (prt s a).to⟩] by unfold uw;rw[if_neg h5,if_neg h4,hfr]];exact this
def qI(s:ByteArray)(i a:Nat):Option zJ:=if(a<s.size∧born s a=true)∧idx s a<i then some (prt s a)else none
theorem zcu(s:ByteArray)(a:Nat):(none:Option zJ)=qI s 0 a:=by unfold qI;rw[if_neg (by omega)]
theorem zcv{s:ByteArray}{i f:Nat}(h:(xY s s.size)[i]?=some f)(a:Nat):(if a=(prt s f).zf then some (prt s f)else qI s i a)=qI s (i+1) a:=by
 obtain⟨h1,h2,h3⟩:=DY h;rw[qH];unfold qI;by_cases e:a=f
 ·subst e
  rw[if_pos rfl,if_pos ⟨⟨h2,h3⟩,by omega⟩]
 ·rw[if_neg e]
  by_cases hb:a<s.size∧born s a=true
  ·have hne:idx s a≠i:=by
    intro e2;rcases Nat.lt_or_gt_of_ne e with g|g
    ·have:=TN hb.2 g;omega
    ·have:=TN h3 g;omega
   by_cases g:idx s a<i
   ·rw[if_pos ⟨hb,g⟩,if_pos ⟨hb,by omega⟩]
   ·rw[if_neg (by omega),if_neg (by omega)]
  ·rw[if_neg (λh=>hb h.1),if_neg (λh=>hb h.1)]
theorem zcw(s:ByteArray)(a:Nat):qI s (PL s).length a=qB s s.size a:=by
 unfold qI qB PL;rw[List.length_map];by_cases hb:a<s.size∧born s a=true
 ·rw[if_pos ⟨hb,TP hb.2 hb.1⟩,if_pos hb]
 ·rw[if_neg (λh=>hb h.1),if_neg hb]
def zcx(s:ByteArray)(mb n:Nat)(w:World)(v12:Value)(wr:World):Prop:=∃i:Nat,i≤n∧v12=.int .i64 (i:Int)∧qc wr mb i (qI s i)∧zg (λb=>b=mb) w wr
section
variable(w:World)
theorem zcy(s:ByteArray)(hs:s.size≤60000):
  Calls Tryz.prog 116 #[.string s] w λe w'=>∃mb Bd Bf Bt Br,e=.returned (.func (.func 150) #[] #[.pointer (some ⟨Bd,0,none⟩),.pointer (some ⟨Bf,0,none⟩),.pointer (some ⟨Bt,0,none⟩),.pointer (some ⟨Br,0,none⟩)])∧Below w.heap.size w w'∧
   Cap w' Bd Bt Br mb s false s.size∧zh w' Bf #[.int .i64 ((0:Nat):Int)] 3∧∀b,jE Bd Bt Br mb b→w.heap.size≤b:=by
 have hmm:=@run_makeMap Tryz.prog;have kM:=(qc.made w).same (W':=(w.alloc (.map #[] 0)).alloc (.cells #[.string s,.map (some w.heap.size)] 192)) (Below.heap_alloc _ _ _ (by simp));have kr:=zh.new (w.alloc (.map #[] 0)) #[.string s,.map (some w.heap.size)] 192;rw[World.size_alloc]at kr;have hB0:Below w.heap.size w ((w.alloc (.map #[] 0)).alloc (.cells #[.string s,.map (some w.heap.size)] 192)):=((Below.refl _ w).alloc (Nat.le_refl _) _).alloc (by simp) _;have lQ:=hid (λW=>zcz W s (by omega));go_enter Tryz.func116,Tryz.ntmps116
 go_wp2_with fail
 obtain⟨W1,hW1⟩:∃X,(w.alloc (.map #[] 0)).alloc (.cells #[.string s,.map (some w.heap.size)] 192)=X:=⟨_,rfl⟩;have zW1:W1.heap.size=w.heap.size+2:=by rw[←hW1];simp
 rw[hW1]at kM kr hB0 ⊢;clear hW1;refine(lQ.out _).mono ?_;rintro e w1 ⟨⟨v,rfl,hP⟩,hB1⟩;have hk1:qc w1 w.heap.size 0 (qI s 0):=(kM.same (hB1.block _ kM.lt)).ext (λa=>zcu s a);have hr1:=kr.below hB1;have hB2:Below w.heap.size w w1:=hB0.trans (hB1.mono hB0.size);have hz1:w.heap.size+2≤w1.heap.size:=by rw[←zW1];exact hB1.size
 obtain⟨mb,hmb⟩:∃m,w.heap.size=m:=⟨_,rfl⟩;have QN:=hid hmb;have fO:∀k,v.ownBlock=some k→mb<k:=λk hk=>by
  have:=yH (show w1.ownsRow W1.heap.size 142 5 v (PL s).length (xn (PL s))from hP) k hk;omega
 rw[hmb]at hk1 hr1 ⊢;obtain⟨oa,n,oc,rfl,yu⟩:=hP.read;have hnl:n≤60000:=by have h1:=yu.len;have h2:=fP s;omega
 have HN:=hid yu.len;have GG:=hid hP;have HPG:=hid fO;have HR1:=hid hr1;clear yu hP fO kM kr;go_wp2
 go_loopw [12] (λv12 wr=>zcx s mb n w1 v12 wr) (λv _=>n-(intOf v).toNat)
 case atStart=>exact⟨0,Nat.zero_le _,rfl,hk1,zg.refl _ _⟩
 case round=>
  obtain⟨i,hi,rfl,hq,hF⟩:=hrel;have hr2:=HR1.out.zf hF (by omega);have r1:=hr2.cell 1;have lr:=hr2.lt;have hsz:=hF.size;have hPr:X4 wr W1.heap.size (.slice oa n oc) (PL s):=zQ hF GG.out (λk hk e=>by have:=HPG.out k hk;omega);by_cases hlt:(i:Int)<(n:Int)
  ·have hlt':i<n:=by omega
   have q0:(0:Int)≤(i:Int):=by omega
   obtain⟨xq,n2,DZ,e2,yu⟩:=hPr.read;injection e2 with e3 e4 e5;subst e3 e4 e5;obtain⟨ob,p,rfl,hp,_,a0,a1,a2,a3,a4⟩:=yu.at hlt';obtain⟨f0,hf0,hpe,hf1,_,XX,hpt,_⟩:=fQ hp;have fU:∀W' k,qc W' mb k (λb=>if b=p.zf then some p else qI s i b)→qc W' mb k (qI s (i+1)):=λW' k h=>h.ext (λb=>by rw[hpe];exact zcv hf0 b);have HQN:=hid fU;have hpl:p.zf≤1000000:=by omega
   have hil:i≤1000000:=by omega
   clear hp hf0 hpe hf1 XX hpt fU yu;have hqa:=hq.same (W':=wr.alloc (.cells #[.int .i64 (p.mode:Int),.int .i64 (p.zf:Int),.int .i64 (p.to:Int),.int .i64 p.up,.bool p.op] 142)) (Below.heap_alloc wr _ mb hq.lt);have hFa:=hF.alloc (.cells #[.int .i64 (p.mode:Int),.int .i64 (p.zf:Int),.int .i64 (p.to:Int),.int .i64 p.up,.bool p.op] 142)
   go_wp2_with (at_mapUpdate;refine zca rfl _ _ _ rfl rfl hqa hil p rfl hpl rfl ?_;intro w7 hq7 VR)
   go_roundw
   case rel=>exact⟨i+1,by omega,by go_num,HQN.out _ _ hq7,hFa.grown VR (λk hk=>by cases hk;exact .inl rfl)⟩
   case measure=>simp[intOf];omega
  ·obtain rfl:i=n:=by omega
   have hmp:JG wr mb s:=⟨i,hq.ext (λa=>by rw[HN.out];exact zcw s a)⟩;have lN:=hid (Ez s mb 0 s.size false wr hmp);have r0:=hr2.cell 0;clear hq
   go_wp2_with fail
   refine(lN.out).mono ?_;rintro e w2 ⟨Bd,Bf,Bt,Br,rfl,hB3,hc3,hf3,g1,g2,g3,g4⟩;have hBw:Below w.heap.size w w2:=by
    have h5:Below w.heap.size w wr:=hB2.trans (hF.below (n:=w.heap.size) hB2.size (λk hk=>by rw[QN.out];omega));exact h5.trans (hB3.mono h5.size)
   have HC3:=hid hc3;have HF3:=hid hf3;clear hc3 hf3;go_wp2;go_ret;refine⟨mb,Bd,Bf,Bt,Br,rfl,hBw,HC3.out,HF3.out,λb hb=>?_⟩;have:=QN.out;have:=hB2.size;rcases hb with rfl|rfl|rfl|rfl<;>omega
end
def YI(b:Nat)(v:Value)(x:List Value)(W:World):Prop:=(zh W b #[.pointer none,v] 169∨zh W b #[.pointer (some ⟨b,0,none⟩),v] 169)∧W.ownsRow b 5 1 v x.length x
theorem YI.zf{b:Nat}{v:Value}{x:List Value}{W W':World}{p:Nat→Prop}(h:YI b v x W)(hf:zg p W W')(h1:¬p b)(h2:∀g,v.ownBlock=some g→¬p g):YI b v x W':=
 ⟨h.1.imp (λh=>h.zf hf h1) (λh=>h.zf hf h1),zQ hf h.2 h2⟩
theorem YI.ne{b:Nat}{v:Value}{x:List Value}{W:World}(h:YI b v x W):¬v.ownBlock=some b:=λe2=>by
 rcases h.2.2 with⟨g1,_⟩|⟨g,cap,cur,g1,_,g3,_⟩
 ·rw[g1]at e2;cases e2
 ·rw[g1]at e2
  have e':g=b:=by simpa[Value.ownBlock]using e2
  subst e';rcases h.1 with hb|hb
  ·rw[show W.heap[g]?=_ from hb]at g3
   injection g3 with g3;injection g3 with _ g5 _;exact absurd g5 (by decide)
  ·rw[show W.heap[g]?=_ from hb]at g3
   injection g3 with g3;injection g3 with _ g5 _;exact absurd g5 (by decide)
theorem YI.isB{b:Nat}{v:Value}{x:List Value}{W:World}(h:YI b v x W):Bld b x W:=by
 rcases h.1 with hb|hb
 ·exact .inl ⟨Nat.le_refl _,v,hb,h.2,h.ne⟩
 ·exact .inr ⟨Nat.le_refl _,v,hb,h.2,h.ne⟩
theorem YI.lt{b:Nat}{v:Value}{x:List Value}{W:World}(h:YI b v x W):b<W.heap.size:=by
 rcases h.1 with hb|hb<;>exact hb.lt
section
variable(w:World)
theorem zc8(b:Nat)(v:Value)(x:List Value)(s:ByteArray)(h:YI b v x w)(hl:x.length≤1000000)(hs:s.size≤1000000):
  Calls Tryz.prog 112 #[.pointer (some ⟨b,0,none⟩),.string s] w λe w'=>e=.returned (.tuple #[.int .i64 s.size,.nilIface])∧∃v',YI b v' (x++Lib.strCells s) w'∧zg (λk=>k=b∨v.ownBlock=some k) w w'∧∀g,v'.ownBlock=some g→v.ownBlock=some g∨w.heap.size≤g:=by
 have hne:=h.ne;have hown:=h.2;obtain⟨oa,oc,rfl⟩:∃oa oc,v=.slice oa x.length oc:=by
  rcases hown.2 with⟨h1,h2⟩|⟨g,cap,cur,h1,_⟩
  ·exact⟨none,0,by rw[h1,h2]⟩
  ·exact⟨_,_,h1⟩
 have hcc:Calls Tryz.prog 130 #[.pointer (some ⟨b,0,none⟩)] w λe w'=>e=.returned (.tuple #[])∧zh w' b #[.pointer (some ⟨b,0,none⟩),.slice oa x.length oc] 169∧zg (λk=>k=b) w w':=by
  rcases h.1 with hb|hb
  ·refine(Any.Builder_copyCheck_fresh (ρ:=mD) {Sj with} Sl.toX72 b w (hb.cell 0) (by simp[World.shape?,show w.heap[b]?=_ from hb];rfl) (hb.frozen 0)).mono ?_
   rintro e w' ⟨rfl,rfl⟩;exact⟨rfl,hb.set 0 _,zg.setCell (p:=λk=>k=b) (zg.refl _ w) 0 (.inl rfl) _⟩
  ·refine(Any.Builder_copyCheck_used (ρ:=mD) {Sj with} Sl.toX72 b w (hb.cell 0)).mono ?_
   rintro e w' ⟨rfl,rfl⟩;exact⟨rfl,hb,zg.refl _ _⟩
 have jk:=hid hcc;clear hcc;go_enter Tryz.func112,Tryz.ntmps112
 go_wp2_with fail
 refine(jk.out).mono ?_;rintro e w1 ⟨rfl,hb1,hF1⟩;have hown1:=zQ hF1 hown (λk hk e=>hne (e▸hk));obtain⟨z,hz⟩:∃z,x.length=z:=⟨_,rfl⟩;have HZ:=hid hz;have hzl:z≤1000000:=by omega
 rw[hz]at hown1 hb1;have c1:=hb1.cell 1;have f1:=hb1.frozen 1;have zda:b≤w1.heap.size:=by have:=hb1.lt;omega
 have hne1:some b≠(Value.slice oa z oc).ownBlock:=λe=>hne (by rw[hz];exact e.symm);have HB1:=hid hb1;have HOWN:=hid hown1;clear hz hown1
 go_wp2_with (at_builtin;refine EH rfl _ _ rfl b z _ x s rfl rfl HOWN.out zda (by omega) (by omega) ?_;intro yD oc' w' hown2 hgr hg';have o7:=hb1.grown hgr hne1;have d1:=o7.cell 1;have df:=o7.frozen 1)
 go_ret2;refine⟨rfl,.slice yD (z+s.size) oc',⟨.inr ?_,?_⟩,?_,?_⟩
 ·exact o7.set 1 _
 ·have e1:(x++Lib.strCells s).length=z+s.size:=by rw[List.length_append,Lib.strCells_length,HZ.out]
  rw[e1];refine zQ (zg.setCell (p:=λk=>k=b) (zg.refl _ w') 1 (.inl rfl) _) hown2 (λk hk e=>?_);subst e;rcases hg' with e2|e2
  ·exact hne1 (hk.symm.trans e2)
  ·rw[e2]at hk
   have:=HB1.out.lt;injection hk with hk;omega
 ·refine(hF1.mono (λ_ _ h=> .inl h)).trans (zg.setCell (p:=λk=>k=b∨(Value.slice oa x.length oc).ownBlock=some k) ((zg.refl _ w1).grown hgr (λk hk=> .inl (.inr (by rw[HZ.out];exact hk)))) 1 (.inl (.inl rfl)) _) (λ_ _ h=>h)
 ·intro g hg
  rcases hg' with e2|e2
  ·left;rw[HZ.out];exact e2.symm.trans hg
  ·right
   rw[e2]at hg;injection hg with hg;have:=hF1.size;omega
end
def Zu(f:Pc→ByteArray):List Pc→ByteArray
 | []=>ByteArray.empty
 |x::l=>f x++Zu f l
theorem zdb(f:Pc→ByteArray)(a b:List Pc):Zu f (a++b)=Zu f a++Zu f b:=by
 induction a with
 |nil=>simp[Zu]
 |cons x a ih=>simp[Zu,ih,ByteArray.append_assoc]
theorem zc9(f:Pc→ByteArray)(a:List Pc)(x:Pc):Lib.strCells (Zu f (a++ [x]))=Lib.strCells (Zu f a)++Lib.strCells (f x):=by
 rw[zdb];simp[Zu,Lib.strCells]
def zdc(f:Pc→ByteArray)(L:List Pc):Prop:=∀pre x rest,L=pre++x::rest→x.t.size≤60000∧(Zu f pre).size≤400000∧(f x).size≤400000
open Go.RowKit
theorem Sm(zk:Bool)(h:ByteArray)(w:Bool):(xJ (fl zk h w)).size=h.size:=by
 unfold fl;split
 ·rename_i hh;simp[xJ];exact hh.1.symm
 ·simp[xJ]
theorem sN{s:ByteArray}{p:zJ}{zk:Bool}{X:ByteArray}(h:yf s p zk=some X):X.size≤p.to-p.zf:=EF (zk:=zk) (by rw[if_pos rfl];exact h)
theorem Lt{s:ByteArray}{zk:Bool}{sub:Nat→List Pc}{e E:Nat}{xQ:Nat→Prop}(he:e≤s.size)(QT:e≤E)(hR1:∀a,xQ a→a<e→born s a=false→xQ (a+1))(hR2:∀a,xQ a→a<e→born s a=true→xQ (prt s a).to∧(prt s a).to≤E)
 (hsub:∀a,xQ a→a<e→born s a=true→(xJ (sub a)).size≤(prt s a).to-a):∀(k a:Nat) (h:ByteArray) (w:Bool),xQ a→a≤E→(xJ (rm s zk sub e k a h w)).size≤h.size+(E-a)
 |0,a,h,w,_,_=>by unfold rm;rw[Sm];omega
 |k+1,a,h,w,hr,ha=>by
  unfold rm;by_cases hae:a<e
  ·rw[if_pos hae]
   by_cases hb:born s a=true
   ·rw[if_pos hb]
    have hg:=uV hb (by omega);obtain⟨r1,r2⟩:=hR2 a hr hae hb
    cases hi:yf s (prt s a) zk with
    |some t=>
     have h1:=sN hi;rw[qH]at h1;have:=Lt (zk:=zk) he QT hR1 hR2 hsub k _ (h++t) w r1 r2;rw[ByteArray.size_append]at this;simp only;omega
    |none=>
     have h1:=hsub a hr hae hb;have:=Lt (zk:=zk) he QT hR1 hR2 hsub k _ ByteArray.empty false r1 r2;simp only;rw[GK,GK,ByteArray.size_append,ByteArray.size_append,Sm];have e0:(ByteArray.empty).size=0:=rfl;omega
   ·rw[if_neg hb]
    have:=Lt (zk:=zk) he QT hR1 hR2 hsub k _ (h++s.extract a (a+1)) w (hR1 a hr hae (by simpa using hb)) (by omega);rw[ByteArray.size_append]at this;have e1:(s.extract a (a+1)).size≤1:=by simp;omega
    omega
  ·rw[if_neg hae,Sm];omega
def VX(s:ByteArray)(f x:Nat):Prop:=f+1≤x∧(x<yG (prt s f)→AtB s x ((5,f)::xg s f))
theorem X8{s:ByteArray}{f:Nat}(hf:f<s.size)(hb:born s f=true)(hm:(prt s f).mode=5):
  yG (prt s f)≤s.size∧yG (prt s f)≤(prt s f).to∧VX s f (f+1)∧(∀a,VX s f a→a<yG (prt s f)→zI s (a+1) f=true):=by
 have hto:=uV hb hf;have hle:=(Zo hf hb).1;have hfr:=qH s f;have hins:=lI (prt s f) (by rw[hfr];exact hto) hle (by rw[hm];rfl);rw[hfr]at hins;have h5:md s (f+1) f=5:=TI (lL hb hf) (fF (by rw[←JO hb hf];exact hm));have hB:nt s (f+1)=(5,f)::xg s f:=by have:=Y5 hb;rw[h5]at this;exact this
 have hi2:yG (prt s f)≤(prt s f).to:=(lI (prt s f) (by rw[hfr];exact hto) (Nat.le_refl _) (by rw[hm];rfl)).2;refine⟨hins.2,hi2,⟨Nat.le_refl _,λ_ _=> .inl hB⟩,?_⟩;rintro x ⟨h1,_⟩ h2;have h2':=h2;have hpe:=Y6 hb hf;have h12:¬cnt (md s (eK s f s.size) f)=12:=by rw[←JO hb hf,hm];decide
 rw[if_neg h12]at hpe;refine JP (k:=s.size) (by omega) ?_;rw[hpe]at h2;have TM:cnt (md s (eK s f s.size) f)=5:=by rw[←JO hb hf];exact hm
 unfold yG at h2;simp only[TM]at h2;have e1:qJ 5=1:=rfl;have e2:YG 5=1:=rfl;rw[e1,e2]at h2;by_cases hE:eK s f s.size=s.size
 ·omega
 ·rw[if_neg hE]at h2
  have:decide (eK s f s.size=s.size)=false:=decide_eq_false hE;rw[this]at h2;simp at h2
  repeat' split at h2
  all_goals omega
theorem Lc{s:ByteArray}{f:Nat}(hf:f<s.size)(hb:born s f=true)(hm:(prt s f).mode=5):
  (∀a,VX s f a→a<yG (prt s f)→born s a=false→VX s f (a+1))∧∀a,VX s f a→a<yG (prt s f)→born s a=true→VX s f (prt s a).to∧(prt s a).to≤(prt s f).to:=by
 obtain⟨h1,h2,_,hin⟩:=X8 hf hb hm;refine⟨?_,?_⟩
 ·rintro a ⟨g1,g2⟩ hlt hbn
  exact⟨by omega,λ_ _=> .inl ((g2 hlt).none (.inr ⟨f,_,rfl,hin a ⟨g1,g2⟩ hlt⟩) (by omega) hbn)⟩
 ·rintro a ⟨g1,g2⟩ hlt hbn
  have ha:a<s.size:=by omega
  have:=uV hbn ha;have hw:=(g2 hlt).born (.inr ⟨f,_,rfl,hin a ⟨g1,g2⟩ hlt⟩) ha hbn;exact⟨⟨by omega,λ_=>by rw[←hw];exact fK ha hbn⟩,zdd hb hbn (by omega) ha (hin a ⟨g1,g2⟩ hlt)⟩
theorem zde{s:ByteArray}{f:Nat}(hf:f<s.size)(hb:born s f=true)(hm:(prt s f).mode=5):(xJ (DB s (f+1) (yG (prt s f)))).size≤(prt s f).to-f:=by
 obtain⟨h1,h2,h3,hin⟩:=X8 hf hb hm;have hto:=uV hb hf;obtain⟨n1,n2⟩:=Lc hf hb hm;have:=Lt (s:=s) (zk:=true) (sub:=Y4 s) (e:=yG (prt s f)) (E:=(prt s f).to) (xQ:=VX s f) h1 h2 n1 n2 (λa hr hlt hbn=>by
  unfold Y4;simp[xJ];omega) (yG (prt s f)-(f+1)) (f+1) ByteArray.empty true h3 (by omega)
 have e0:(ByteArray.empty).size=0:=rfl;unfold DB Rm;omega
theorem FP(s:ByteArray):(xJ (jw s)).size≤s.size:=by
 have:=Lt (s:=s) (zk:=false) (sub:=uw s) (e:=s.size) (E:=s.size) (xQ:=λ_=>True) (Nat.le_refl _) (Nat.le_refl _) (λ_ _ _ _=>trivial) (λa _ hlt hbn=>⟨trivial,(Zo hlt hbn).1⟩) (λa _ hlt hbn=>by
  have hto:=uV hbn hlt;have hfr:=qH s a;unfold uw;split
  ·rename_i h5
   exact zde hlt hbn h5
  ·split
   ·rename_i h4
    have hins:=lI (prt s a) (z:=(prt s a).to) (by rw[hfr];exact hto) (Nat.le_refl _) (by rcases h4 with e|e<;>rw[e]<;>rfl);simp[xJ];omega
   ·simp[xJ]
    omega) s.size 0 ByteArray.empty false trivial (Nat.zero_le _)
 have e0:(ByteArray.empty).size=0:=rfl;unfold jw Rm;simp only[Nat.sub_zero];omega
theorem FT(l:List Pc):Zu (λx=>x.t) l=xJ l:=by
 induction l with
 |nil=>rfl
 |cons x l ih=>show x.t++_=x.t++_;rw[ih]
theorem zc6{s:ByteArray}(hs:s.size≤60000):zdc (λx=>x.t) (jw s):=by
 intro pre x rest e;have:=FP s;rw[e,GK,ByteArray.size_append]at this;have e2:(xJ (x::rest)).size=x.t.size+(xJ rest).size:=by show(x.t++xJ rest).size=_;rw[ByteArray.size_append]
 rw[FT];show x.t.size≤60000∧(xJ pre).size≤400000∧x.t.size≤400000;omega
theorem zcA(zk:Bool):fl zk ByteArray.empty false=[]:=rfl
theorem X5{s:ByteArray}{a b i:Nat}(hb:b≤s.size)(hi:i<b-a):by8 (s.extract a b) i=by8 s (a+i):=by
 unfold by8;rw[ZU s a b i hb hi]
theorem vk{s:ByteArray}{a b:Nat}(hb:b≤s.size):(s.extract a b).size=b-a:=by
 rw[ByteArray.size_extract];omega
attribute [local go_sem] Oper.semAt_some
def Lr(w:World)(z Bb:Nat)(pre:List Pc)(T:Nat→Prop)(W:World):Prop:=
 ∃v,YI Bb v (Lib.strCells (Zu (λx=>x.t) pre)) W∧(∀g,v.ownBlock=some g→z+2≤g∧¬T g)∧(∀b,T b→z+2≤b)∧z+2≤W.heap.size∧Below w.heap.size w W
theorem Lr.Zn{w:World}{z Bb:Nat}(hb:Bb<z)(hw:w.heap.size≤z):XW (z+1) (Lr w z Bb):=by
 rintro pre T W W' T' ⟨v,h1,h2,hT,QW,hB⟩ hf hT';have no:∀b,b<z→¬(T b∨b=z+1):=λb hb hh=>by rcases hh with g|g;have:=hT b g;omega;omega
 refine⟨v,h1.zf hf (no _ hb) (λg hg hh=>?_),λg hg=>⟨(h2 g hg).1,λhh=>?_⟩,λb hb=>?_,?_,?_⟩
 ·have:=h2 g hg
  rcases hh with e|e
  ·exact this.2 e
  ·omega
 ·rcases hT' g hh with e|e
  ·exact(h2 g hg).2 e
  ·have:=ji h1.2 g hg;omega
 ·rcases hT' b hb with e|e
  ·exact hT b e
  ·omega
 ·have:=hf.size;omega
 ·exact hB.trans ((hf.below (n:=w.heap.size) hB.size (λb hh=>by rcases hh with e|e;have:=hT b e;omega;omega)))
section
variable(w:World)
theorem zc5(s:ByteArray)(hs:s.size≤60000):
  Calls Tryz.prog 101 #[.string s] w λe w'=>e=.returned (.string (xJ (jw s)))∧Below w.heap.size w w':=by
 have hok:=zc6 hs;have HPI:=hid (λW=>zcy W s hs);have hcb:Zu (λx=>x.t) (jw s)=xJ (jw s):=FT _;have HCB:=hid hcb;clear hcb;refine(callsIn_wide (n:=5)).1 ?_;have hfn:Fence.wide.fn 101:=trivial;have bb:=zh.new w #[.pointer none,.slice none 0 0] 169;have hB0:Below w.heap.size w (w.alloc (.cells #[.pointer none,.slice none 0 0] 169)):=(Below.refl _ w).alloc (Nat.le_refl _) _;have hz0:(w.alloc (.cells #[.pointer none,.slice none 0 0] 169)).heap.size=w.heap.size+1:=by simp
 refine callsIn_of_wp_marks Tryz.func101 rfl hfn ?_ rfl;refine(wpIn_wide (n:=5)).2 ?_;simp only[Tryz.ntmps101,List.size_toArray,List.length_cons,List.length_nil,Nat.reduceAdd,Nat.reduceSub,Array.replicate_succ,Array.replicate_zero,List.push_toArray,List.append_toArray,List.nil_append,List.cons_append]
 go_wp2_with fail
 obtain⟨W0,hW0⟩:∃X,w.alloc (.cells #[.pointer none,.slice none 0 0] 169)=X:=⟨_,rfl⟩;rw[hW0]at bb hB0 hz0 ⊢;clear hW0;obtain⟨Bb,h6⟩:∃x,w.heap.size=x:=⟨_,rfl⟩;have H6:=hid h6;rw[h6]at bb hz0 ⊢;refine(HPI.out _).mono ?_;rintro en W1 ⟨mb,Bd,Bf,Bt,Br,rfl,hB1,hcap,hbf,hge⟩;have hz1:=hB1.size;have hBw:Below w.heap.size w W1:=hB0.trans (hB1.mono hB0.size);have hseq:∀W,Below W1.heap.size W1 W→YB (5-1) Tryz.prog 150 #[.pointer (some ⟨Bd,0,none⟩),.pointer (some ⟨Bf,0,none⟩),.pointer (some ⟨Bt,0,none⟩),.pointer (some ⟨Br,0,none⟩)] Za (jE Bd Bt Br mb) (jw s) W:=λW hW=>
  zct 4 (by omega) s hs mb Bd Bf Bt Br W (hcap.same (λb hb=>hW.block b (hcap.lt b hb))) (hbf.below hW)
 have hord:Bb<W1.heap.size∧w.heap.size≤W1.heap.size:=by omega
 have FU:∀b,jE Bd Bt Br mb b→Bb<b∧b<W1.heap.size:=λb hb=>⟨by have:=hge b hb;omega,hcap.lt b hb⟩;have lu:=hid hseq;have FV:=hid FU;have HOK:=hid hok;have cb:=bb.below hB1;clear hseq FU hcap hbf hge hok h6 bb hB0 hz0 hB1 hz1;go_wp2;refine(wpIn_wide (n:=5)).1 (fC (L:=jw s) (encs:=Za) (C:=jE Bd Bt Br mb) (gf:=150) (lb:=#[.pointer (some ⟨Bd,0,none⟩),.pointer (some ⟨Bf,0,none⟩),.pointer (some ⟨Bt,0,none⟩),.pointer (some ⟨Br,0,none⟩)]) rfl (enters_of Tryz.func150 (by kernel_rfl) rfl) lu.out (λb hb=>(FV.out b hb).2) ?hps
  (Lr w W1.heap.size Bb) (λ_ _ _ _=>False) (Lr.Zn hord.1 hord.2) (λ_ _ _ _ _ _ h _ _=>h) ?start ?round ?fin ?stop)
 case hps=>intro x;rfl
 case start=>
  intro W hB hz;exact⟨.slice none 0 0,⟨.inl (cb.below hB),World.ownsRow_nil _ _ _ _⟩,(λg hg=>by cases hg),(λb hb=>hb.elim),by omega,hBw.trans (hB.mono hBw.size)⟩
 case stop=>rintro c pre T W h;exact h.elim
 case fin=>
  rintro T W ⟨v,h1,h2,hT,QW,hB⟩ XZ hWd;have hstr:=Tryz.Builder_String_any_k Bb Bb (Zu (λx=>x.t) (jw s)).data.toList W (Lib.IsBuilderF.of h1.isB) (by have:=h1.lt;omega);have zc7:=hid hstr;have zmw:=hid hWd;clear hstr h1 h2;dsimp only
  go_wp2_with fail
  refine(zc7.out).mono ?_;rintro en W2 ⟨rfl,_,hB2,ho2⟩;have hD2:=ho2 W1.heap.size _ hWd (λe=>by injection e with e';omega) (λc fz e=>by cases e);have HD:=hid hD2;have HB2:=hid hB2;clear ho2 hD2 hB2;go_wp2;have VZ:Below w.heap.size w W2:=hB.trans (HB2.out.mono (by have:=H6.out;omega));refine⟨by simp,.inl ⟨_,_,rfl,run_takeDeferred HD.out,?_⟩⟩;refine⟨.string (xJ (jw s)),?_,rfl,?_⟩
  ·rw[←HCB.out]
   simp[results,Tryz.f101,go_sem]
  ·exact VZ.trans (belowK_b (w:=w) (Nat.le_refl _) W2 W1.heap.size _ _ (by omega) HD.out rfl rfl)
 case round=>
  rintro pre x rest T W hLx ⟨v,h1,h2,hT,QW,hB⟩ Zp XZ hrec hdef t1 t2;simp only[Za,Gp]
  gi_wp2
  obtain⟨W2,hW2⟩:∃X,W.alloc (.cells #[.bool x.ex,.bool x.q,.string x.t] 133)=X:=⟨_,rfl⟩;have hB2:Below W.heap.size W W2:=by rw[←hW2];exact(Below.refl _ _).alloc (Nat.le_refl _) _
  have kX:zh W2 W.heap.size #[.bool x.ex,.bool x.q,.string x.t] 133:=by rw[←hW2];exact zh.new W _ _
  have z2:W2.heap.size=W.heap.size+1:=by rw[←hW2];simp
  rw[hW2];clear hW2;refine⟨hB2.block _ (by omega),hB2.block _ (by omega),⟨hB2.size,λb hb _=>hB2.block b hb⟩,λr=>?_⟩;obtain⟨W3,hW3⟩:∃X,W2.putObj (W1.heap.size+1) (.loop r)=X:=⟨_,rfl⟩;have z3:W3.heap.size=W.heap.size+1:=by rw[←hW3,←z2];simp
  have hF3:zg (λb=>b=W1.heap.size+1) W W3:=by
   rw[←hW3];exact(zg.of_below hB2).trans (uH (p:=λb=>b=W1.heap.size+1) W2 _ rfl) (λ_ _ h=>h)
  have TA:zh W3 W.heap.size #[.bool x.ex,.bool x.q,.string x.t] 133:=by
   rw[←hW3];exact(World.putObj_heap_other (by omega)).trans kX
  rw[hW3];clear hW3 kX hB2 z2 hrec hdef;have hb3:=h1.zf hF3 (by omega) (λg hg e=>by have:=(h2 g hg).1;omega);have x2:=TA.cell 2;have FW:Below w.heap.size w W3:=hB.trans (hF3.below (by omega) (λb hb=>by omega));have mr:=HOK.out pre x rest hLx;have zmx:=hid mr;have hwl:w.heap.size≤W3.heap.size:=FW.size;have zmy:∀g,v.ownBlock=some g→g<W.heap.size:=ji h1.2;have H2:=hid h2;have hws:=zc8 W3 Bb v (Lib.strCells (Zu (λx=>x.t) pre)) x.t hb3 (by rw[Lib.strCells_length];have:=mr.2.1;omega) (by have:=mr.1;omega);have Ls:=hid (CallsIn.inRound (W1.heap.size+1) ((callsIn_wide (n:=5-1-1-1)).2 hws));have h11:1≤5-1-1:=by omega
  clear h1 h2 hb3 hLx hws mr
  gi_wp2_with fail
  refine⟨trivial,(Ls.out).mono ?_⟩;rintro en W7 ⟨rfl,v',hv7,jV,VR⟩;have hno:∀b,b<W1.heap.size+2→b≠Bb→¬(b=Bb∨v.ownBlock=some b):=λb hb hn hh=>by
   rcases hh with e|e
   ·exact hn e
   ·have:=(H2.out b e).1;omega
  have g1:=jV.block (W1.heap.size+1) (by omega) (hno _ (by omega) (by omega));have g2:=jV.block W1.heap.size (by omega) (hno _ (by omega) (by omega));have lG:Lr w W1.heap.size Bb (pre++ [x]) T W7:=by
   refine⟨v',by rw[zc9];exact hv7,λg hg=>?_,hT,by have:=jV.size;omega,?_⟩
   ·rcases VR g hg with e|e
    ·exact H2.out g e
    ·exact⟨by omega,λht=>by have:=Zp g ht;omega⟩
   ·exact FW.trans (jV.below hwl (λb hb=>by
     have:=H6.out;rcases hb with e|e
     ·omega
     ·have:=(H2.out b e).1;omega))
  have TE:=hid lG;have FX:zM (jE Bd Bt Br mb) T W3 W7:=zM.lS jV (λb _ hb=>⟨λht=>by
    rcases hb with e|e
    ·have:=hT b ht;omega
    ·exact(H2.out b e).2 ht,λhc=>by
    have h1:=FV.out b hc;rcases hb with e|e
    ·omega
    ·have:=(H2.out b e).1;omega⟩)
  have HKK:=hid FX;clear lG FX
  gi_wp2
  exact⟨g1,g2,HKK.out,TE.out⟩
end
end Go.Proofs.YtdjcidackkogjaaGreatDoor

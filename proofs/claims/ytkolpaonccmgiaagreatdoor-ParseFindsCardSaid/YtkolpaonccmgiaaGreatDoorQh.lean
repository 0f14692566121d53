/- What told of layer 8 (literal) returns: an iterato -/
import Derived.Test.YtkolpaonccmgiaaGreatDoorLtE
import Derived.Test.YtkolpaonccmgiaaGreatDoorMdL
set_option linter.unusedVariables false
namespace Go.Proofs.YtkolpaonccmgiaaGreatDoor
set_option linter.unusedSectionVars false
set_option linter.unusedVariables false
open Go.RowKit Go.Shelf
theorem SeqT.any {α:Type} {n m:Nat} {P:Program} {g:Nat} {lb:Array Value} {encs:α→Array Value} {C:Nat→Prop} {L:List α} {W:World} (h:SeqT n P g lb encs C L W):SeqT m P g lb encs C L W:=by
 intro l J Jx hJ hJx hY h0
 exact(callsIn_wide (n:=m)).2 ((callsIn_wide (n:=n)).1 (h l J Jx hJ hJx (fun pre x rest T W1 e1 e2 e3=>YieldAt.any (hY pre x rest T W1 e1 e2 e3)) h0))
theorem insT_le (p:Prt) {z:Nat} (h1:p.frm<p.to) (h2:p.to≤z) (hh:headM p.mode=1):p.frm+1≤insT p∧insT p≤z:=by
 unfold insT
 rw [hh]
 repeat' split
 all_goals omega
theorem dq_born {s:ByteArray} {f:Nat}:∀{k:Nat},pres s k f=true→md s k f=5→md s (f+1) f=5
 |0,h,_=>by have:=pres_lt h;omega
 |k+1,h,hm=>by
  rcases Nat.eq_or_lt_of_le (Nat.le_of_lt_succ (pres_lt h))with e|e
  ·subst e;exact hm
  ·rcases md_next h e with e2|e2
   ·exact dq_born (pres_back h e) (e2.symm.trans hm)
   ·rw [hm]at e2
    unfold turns at e2
    omega
theorem cnt_5 {m:Nat} (h:cnt m=5):m=5:=by
 unfold cnt at h
 repeat' split at h
 all_goals omega
theorem rm_ne {s:ByteArray} {dbl:Bool} {sub:Nat→List Pc} (hs:∀a,sub a≠ []) {e:Nat}:∀(k a:Nat) (h:ByteArray),rm s dbl sub e k a h true≠ []
 |0,a,h=>by unfold rm fl;simp
 |k+1,a,h=>by
  unfold rm
  repeat' split
  ·exact rm_ne hs k _ _
  ·have:=hs a
   simp [this]
  ·exact rm_ne hs k _ _
  ·unfold fl;simp
theorem DB_ne (s:ByteArray) (f e:Nat):DB s f e≠ []:=rm_ne (fun a=>by unfold subD;simp) _ _ _
theorem subT_ne (s:ByteArray) (a:Nat):subT s a≠ []:=by
 unfold subT
 repeat' split
 ·exact DB_ne _ _ _
 ·simp
 ·simp
section
variable (w:World)
theorem values_td (mb:Nat) (x:Pc) {w':World} {g Bx:Nat} (hB:Below w.heap.size w w') (hg:Blk w' g #[.bool x.ex,.bool x.q,.string x.t] 119) (hb:Blk w' Bx #[.slice (some ⟨g,0,none⟩) 1 1] 116):
  TdP mb [x] w (.returned (.func (.func 259) #[] #[.pointer (some ⟨Bx,0,none⟩)])) w':=
 ⟨_,_,fun _=>False,rfl,hB,enters_of Tryz.func259 (by kernel_rfl) rfl,(fun _ h=>h.elim),fun n W hn hW=>values_seq n hn Bx g 1 x _ W (hb.below hW) (hg.below hW) rfl rfl rfl⟩
set_option maxRecDepth 100000 in
set_option maxHeartbeats 4000000 in
theorem told_exp (s:ByteArray) (hs:s.size≤60000) (mb m f t:Nat) (up:Int) (op dbl:Bool) (h1:f<t) (h2:t≤s.size) (hm:m≠4∧m≠5∧m≠13):
  Calls Tryz.prog 230 #[.agg #[.string s,.map (some mb)],.agg #[.int .i64 (m:Int),.int .i64 (f:Int),.int .i64 (t:Int),.int .i64 up,.bool op],.bool dbl] w (TdP mb [⟨true,dbl,s.extract f t⟩] w):=by
 have t4:((m:Int)==4)=false:=beq_eq_false_iff_ne.2 (by omega)
 have t5:((m:Int)==5)=false:=beq_eq_false_iff_ne.2 (by omega)
 have t13:((m:Int)==13)=false:=beq_eq_false_iff_ne.2 (by omega)
 obtain⟨X,hX⟩:∃X,s.extract f t=X:=⟨_,rfl⟩
 rw [hX]
 have b1:(f:Int)≤(t:Int):=by omega
 have b2:(t:Int)≤(s.size:Int):=by omega
 have hIN:=Lib.hid (fun W=>inside_any W m f t up op (by omega) (by omega))
 have hw2:Below w.heap.size w ((w.alloc (.cells #[.string s,.map (some mb)] 184)).alloc (.cells #[.int .i64 (m:Int),.int .i64 (f:Int),.int .i64 (t:Int),.int .i64 up,.bool op] 136)):=((Below.refl _ _).alloc (Nat.le_refl _) _).alloc (by simp) _
 have kr:=(Blk.new w #[.string s,.map (some mb)] 184).alloc (.cells #[.int .i64 (m:Int),.int .i64 (f:Int),.int .i64 (t:Int),.int .i64 up,.bool op] 136)
 have kp:=Blk.new (w.alloc (.cells #[.string s,.map (some mb)] 184)) #[.int .i64 (m:Int),.int .i64 (f:Int),.int .i64 (t:Int),.int .i64 up,.bool op] 136
 rw [World.size_alloc]at kp
 go_enter Tryz.func230,Tryz.ntmps230
 go_wp2_with fail
 refine(hIN.out _).mono ?_
 rintro e w1 ⟨rfl,hB1⟩
 have kr1:=kr.below hB1
 have kp1:=kp.below hB1
 have hB2:Below w.heap.size w w1:=hw2.trans (hB1.mono (by simp;omega))
 have lr:=kr1.lt
 have lp:=kp1.lt
 have r0:=kr1.cell 0
 have r1:=kr1.cell 1
 have p0:=kp1.cell 0
 have p1:=kp1.cell 1
 have p2:=kp1.cell 2
 clear kr kp hw2 hB1
 have kg:=(Blk.new w1 #[.bool true,.bool dbl,.string X] 119).alloc (.cells #[.slice (some ⟨w1.heap.size,0,none⟩) 1 1] 116)
 have kb:=Blk.new (w1.alloc (.cells #[.bool true,.bool dbl,.string X] 119)) #[.slice (some ⟨w1.heap.size,0,none⟩) 1 1] 116
 have hB9:Below w.heap.size w ((w1.alloc (.cells #[.bool true,.bool dbl,.string X] 119)).alloc (.cells #[.slice (some ⟨w1.heap.size,0,none⟩) 1 1] 116)):=(hB2.alloc hB2.size _).alloc (by have:=hB2.size;simp;omega) _
 rw [World.size_alloc]at kb
 have HTD:=Lib.hid (values_td w mb ⟨true,dbl,X⟩ hB9 kg kb)
 clear kg kb hB9
 go_wp2_with fail
 refine((callsIn_wide (n:=1)).1 (values_in 1 _ 1 1 _)).mono ?_
 rintro e w2 ⟨rfl,rfl⟩
 go_wp2
 go_ret
 exact HTD.out
set_option maxRecDepth 100000 in
set_option maxHeartbeats 4000000 in
theorem told_quo (s:ByteArray) (hs:s.size≤60000) (mb m f t:Nat) (up:Int) (op dbl:Bool) (h1:f<t) (h2:t≤s.size) (hm:m=4∨m=13):
  Calls Tryz.prog 230 #[.agg #[.string s,.map (some mb)],.agg #[.int .i64 (m:Int),.int .i64 (f:Int),.int .i64 (t:Int),.int .i64 up,.bool op],.bool dbl] w (TdP mb [⟨false,true,s.extract (f+1) (insT ⟨m,f,t,up,op⟩)⟩] w):=by
 have hm1:headM m=1:=by rcases hm with rfl|rfl<;>rfl
 have hins:=insT_le ⟨m,f,t,up,op⟩ h1 h2 hm1
 obtain⟨T,hT⟩:∃T,insT ⟨m,f,t,up,op⟩=T:=⟨_,rfl⟩
 have t5:((m:Int)==5)=false:=beq_eq_false_iff_ne.2 (by omega)
 rw [hT]at hins ⊢
 simp only at hins
 obtain⟨X,hX⟩:∃X,s.extract (f+1) T=X:=⟨_,rfl⟩
 rw [hX]
 obtain⟨f1,hf1⟩:∃f1,f+1=f1:=⟨_,rfl⟩
 have b1:(f1:Int)≤(T:Int):=by omega
 have b2:(T:Int)≤(s.size:Int):=by omega
 rw [hf1]at hX
 have hIN:=Lib.hid (fun W=>inside_any W m f t up op (by omega) (by omega))
 rw [hm1,hT,hf1]at hIN
 have HF:=Lib.hid hf1
 have HTT:=Lib.hid hT
 have HM1:=Lib.hid hm1
 have hw2:Below w.heap.size w ((w.alloc (.cells #[.string s,.map (some mb)] 184)).alloc (.cells #[.int .i64 (m:Int),.int .i64 (f:Int),.int .i64 (t:Int),.int .i64 up,.bool op] 136)):=((Below.refl _ _).alloc (Nat.le_refl _) _).alloc (by simp) _
 have kr:=(Blk.new w #[.string s,.map (some mb)] 184).alloc (.cells #[.int .i64 (m:Int),.int .i64 (f:Int),.int .i64 (t:Int),.int .i64 up,.bool op] 136)
 have kp:=Blk.new (w.alloc (.cells #[.string s,.map (some mb)] 184)) #[.int .i64 (m:Int),.int .i64 (f:Int),.int .i64 (t:Int),.int .i64 up,.bool op] 136
 rw [World.size_alloc]at kp
 clear hf1 hT hm1 hins
 rcases hm with rfl|rfl
 all_goals
  go_enter Tryz.func230,Tryz.ntmps230
  go_wp2_with fail
  refine(hIN.out _).mono ?_
  rintro e w1 ⟨rfl,hB1⟩
  have kr1:=kr.below hB1
  have kp1:=kp.below hB1
  have hB2:Below w.heap.size w w1:=hw2.trans (hB1.mono (by simp;omega))
  have lr:=kr1.lt
  have lp:=kp1.lt
  have r0:=kr1.cell 0
  have r1:=kr1.cell 1
  have p0:=kp1.cell 0
  have p1:=kp1.cell 1
  have p2:=kp1.cell 2
  clear kr kp hw2 hB1
  have kg:=(Blk.new w1 #[.bool false,.bool true,.string X] 119).alloc (.cells #[.slice (some ⟨w1.heap.size,0,none⟩) 1 1] 116)
  have kb:=Blk.new (w1.alloc (.cells #[.bool false,.bool true,.string X] 119)) #[.slice (some ⟨w1.heap.size,0,none⟩) 1 1] 116
  have hB9:Below w.heap.size w ((w1.alloc (.cells #[.bool false,.bool true,.string X] 119)).alloc (.cells #[.slice (some ⟨w1.heap.size,0,none⟩) 1 1] 116)):=(hB2.alloc hB2.size _).alloc (by have:=hB2.size;simp;omega) _
  rw [World.size_alloc]at kb
  have HTD:=Lib.hid (values_td w mb ⟨false,true,X⟩ hB9 kg kb)
  clear kg kb hB9
  go_wp2_with fail
  refine((callsIn_wide (n:=1)).1 (values_in 1 _ 1 1 _)).mono ?_
  rintro e w2 ⟨rfl,rfl⟩
  go_wp2
  go_ret
  exact HTD.out
theorem double_seq (n:Nat) (hn:1≤n) (s:ByteArray) (hs:s.size≤60000) (f:Nat) (hf:f<s.size) (hb:born s f=true) (hm:(prt s f).mode=5) (mb Bd Bf Bt Br:Nat) (W:World) (hcap:Cap W Bd Bt Br mb s true (insT (prt s f))) (hbf:Blk W Bf #[.int .i64 ((f+1:Nat):Int)] 3):
  SeqT n Tryz.prog 227 #[.pointer (some ⟨Bd,0,none⟩),.pointer (some ⟨Bf,0,none⟩),.pointer (some ⟨Bt,0,none⟩),.pointer (some ⟨Br,0,none⟩)] encC (CapC Bd Bt Br mb) (DB s (f+1) (insT (prt s f))) W:=by
 have hto:=to_gt hb hf
 have hle:=(prt_le hf hb).1
 have hfr:=prt_frm s f
 have hins:=insT_le (prt s f) (by rw [hfr];exact hto) hle (by rw [hm];rfl)
 rw [hfr]at hins
 have h5:md s (f+1) f=5:=dq_born (eK_pres2 hb hf) (cnt_5 (by rw [←prt_mo hb hf];exact hm))
 have hB:nt s (f+1)=(5,f)::blw s f:=by have:=born_split hb;rw [h5]at this;exact this
 have hin:∀x,f+1≤x→x<insT (prt s f)→pres s (x+1) f=true:=by
  intro x h1 h2
  have h2':=h2
  have hpe:=prt_eq hb hf
  have h12:¬cnt (md s (eK s f s.size) f)=12:=by rw [←prt_mo hb hf,hm];decide
  rw [if_neg h12]at hpe
  refine eK_pres (k:=s.size) (by omega) ?_
  have hel:=eK_le s (f:=f) (k:=s.size) (Nat.le_of_lt hf)
  rw [hpe]at h2
  have hm5:cnt (md s (eK s f s.size) f)=5:=by rw [←prt_mo hb hf];exact hm
  unfold insT at h2
  simp only [hm5]at h2
  have e1:headM 5=1:=rfl
  have e2:tailM 5=1:=rfl
  rw [e1,e2]at h2
  by_cases hE:eK s f s.size=s.size
  ·omega
  ·rw [if_neg hE]at h2
   have:decide (eK s f s.size=s.size)=false:=decide_eq_false hE
   rw [this]at h2
   simp at h2
   repeat' split at h2
   all_goals omega
 refine SeqT.any (n:=3) ?_
 refine between_seq 3 (Nat.le_refl _) s hs true (f+1) (insT (prt s f)) (by omega) hins.2 (subD s) (fun x=>f+1≤x∧(x<insT (prt s f)→AtB s x ((5,f)::blw s f))) ⟨Nat.le_refl _,fun _ _=> .inl hB⟩ ?_ ?_ mb Bd Bf Bt Br W hcap hbf (fun a=>by unfold subD;simp) ?_
 ·rintro a ⟨h1,h2⟩ hlt hbn
  exact⟨by omega,fun _ _=> .inl ((h2 hlt).none (.inr ⟨f,_,rfl,hin a h1 hlt⟩) (by omega) hbn)⟩
 ·rintro a ⟨h1,h2⟩ hlt hbn
  have ha:a<s.size:=by omega
  have:=to_gt hbn ha
  have hw:=(h2 hlt).born (.inr ⟨f,_,rfl,hin a h1 hlt⟩) ha hbn
  exact⟨by omega,fun _=>by rw [←hw];exact at_behind ha hbn⟩
 ·rintro a w ⟨h1,h2⟩ hlt hbn hit hmp
  have ha:a<s.size:=by omega
  have h4:=double_at (h2 hlt) ha (hin a h1 hlt) hbn
  have hne:(prt s a).mode≠13:=by
   intro e
   unfold itself at hit
   rw [if_neg (by omega),if_neg (by omega),if_pos e]at hit
   repeat' split at hit
   all_goals first|(cases hit;done)|(rename_i hh;simp at hh)
  have h5:=told_exp w s hs mb (prt s a).mode (prt s a).frm (prt s a).to (prt s a).up (prt s a).op true (by rw [prt_frm];exact to_gt hbn ha) (prt_le ha hbn).1 ⟨h4.2.1,h4.2.2.1,hne⟩
  rw [show subD s a=[⟨true,true,s.extract (prt s a).frm (prt s a).to⟩] by unfold subD;rw [prt_frm]]
  exact h5
set_option maxRecDepth 100000 in
set_option maxHeartbeats 4000000 in
theorem told_dq (s:ByteArray) (hs:s.size≤60000) (mb f:Nat) (hf:f<s.size) (hb:born s f=true) (hm:(prt s f).mode=5) (dbl:Bool) (hmp:MapP w mb s):
  Calls Tryz.prog 230 #[.agg #[.string s,.map (some mb)],.agg #[.int .i64 ((prt s f).mode:Int),.int .i64 ((prt s f).frm:Int),.int .i64 ((prt s f).to:Int),.int .i64 (prt s f).up,.bool (prt s f).op],.bool dbl] w (TdP mb (DB s (f+1) (insT (prt s f))) w):=by
 have hto:=to_gt hb hf
 have hle:=(prt_le hf hb).1
 have hfr:=prt_frm s f
 have hDS:=Lib.hid (fun n hn Bd Bf Bt Br W h1 h2=>double_seq n hn s hs f hf hb hm mb Bd Bf Bt Br W h1 h2)
 obtain⟨p,hp⟩:∃p,prt s f=p:=⟨_,rfl⟩
 rw [hp]at hto hle hfr hm hDS ⊢
 obtain⟨m,f',t,up,op⟩:=p
 simp only at hto hle hfr hm hDS ⊢
 subst hm hfr
 obtain⟨T,hT⟩:∃T,insT ⟨5,f',t,up,op⟩=T:=⟨_,rfl⟩
 rw [hT]at hDS ⊢
 obtain⟨f1,hf1⟩:∃f1,f'+1=f1:=⟨_,rfl⟩
 rw [hf1]at hDS ⊢
 have hIN:=Lib.hid (fun W=>inside_any W 5 f' t up op (by omega) (by omega))
 rw [show headM 5=1 from rfl,hT,hf1]at hIN
 have HF:=Lib.hid hf1
 have HT:=Lib.hid hT
 have HP:=Lib.hid hp
 clear hf1 hT hp
 have hw2:Below w.heap.size w ((w.alloc (.cells #[.string s,.map (some mb)] 184)).alloc (.cells #[.int .i64 ((5:Nat):Int),.int .i64 (f':Int),.int .i64 (t:Int),.int .i64 up,.bool op] 136)):=((Below.refl _ _).alloc (Nat.le_refl _) _).alloc (by simp) _
 have kr:=(Blk.new w #[.string s,.map (some mb)] 184).alloc (.cells #[.int .i64 ((5:Nat):Int),.int .i64 (f':Int),.int .i64 (t:Int),.int .i64 up,.bool op] 136)
 have kp:=Blk.new (w.alloc (.cells #[.string s,.map (some mb)] 184)) #[.int .i64 ((5:Nat):Int),.int .i64 (f':Int),.int .i64 (t:Int),.int .i64 up,.bool op] 136
 rw [World.size_alloc]at kp
 go_enter Tryz.func230,Tryz.ntmps230
 go_wp2_with fail
 refine(hIN.out _).mono ?_
 rintro e w1 ⟨rfl,hB1⟩
 have kr1:=kr.below hB1
 have kp1:=kp.below hB1
 have hB2:Below w.heap.size w w1:=hw2.trans (hB1.mono (by simp;omega))
 have hm1:MapP w1 mb s:=by obtain⟨k,hk⟩:=hmp;exact⟨k,hk.same (hB2.block mb hk.lt)⟩
 have lr:=kr1.lt
 have lp:=kp1.lt
 have r0:=kr1.cell 0
 have r1:=kr1.cell 1
 have p0:=kp1.cell 0
 have HBT:=Lib.hid (between_any s mb f1 T true w1 hm1)
 clear kr kp hw2 hB1
 go_wp2_with fail
 refine(HBT.out).mono ?_
 rintro e w2 ⟨Bd,Bf,Bt,Br,rfl,hB3,hc3,hf3,g1,g2,g3,g4⟩
 have hB4:Below w.heap.size w w2:=hB2.trans (hB3.mono hB2.size)
 have hsz:=hB2.size
 have HTD:Hid (TdP mb (DB s f1 T) w (.returned (.func (.func 227) #[] #[.pointer (some ⟨Bd,0,none⟩),.pointer (some ⟨Bf,0,none⟩),.pointer (some ⟨Bt,0,none⟩),.pointer (some ⟨Br,0,none⟩)])) w2):=Lib.hid (by
  refine⟨_,_,CapC Bd Bt Br mb,rfl,hB4,enters_of Tryz.func227 (by kernel_rfl) rfl,fun b hb=>⟨hc3.lt b hb,?_⟩,fun n W hn hW=>?_⟩
  ·rcases hb with rfl|rfl|rfl|rfl
   ·right;omega
   ·right;omega
   ·right;omega
   ·exact .inl rfl
  ·exact hDS.out n hn Bd Bf Bt Br W (hc3.same (fun b hb=>hW.block b (hc3.lt b hb))) (hf3.below hW))
 clear hc3 hf3
 go_wp2
 go_ret
 exact HTD.out
end
theorem top_seq (n:Nat) (hn:1≤n) (s:ByteArray) (hs:s.size≤60000) (mb Bd Bf Bt Br:Nat) (W:World) (hcap:Cap W Bd Bt Br mb s false s.size) (hbf:Blk W Bf #[.int .i64 ((0:Nat):Int)] 3):
  SeqT n Tryz.prog 227 #[.pointer (some ⟨Bd,0,none⟩),.pointer (some ⟨Bf,0,none⟩),.pointer (some ⟨Bt,0,none⟩),.pointer (some ⟨Br,0,none⟩)] encC (CapC Bd Bt Br mb) (PCs s) W:=by
 refine SeqT.any (n:=3) ?_
 refine between_seq 3 (Nat.le_refl _) s hs false 0 s.size (Nat.zero_le _) (Nat.le_refl _) (subT s) (fun _=>True) trivial (fun _ _ _ _=>trivial) (fun _ _ _ _=>trivial) mb Bd Bf Bt Br W hcap hbf (subT_ne s) ?_
 intro a w _ ha hbn hit hmp
 have hfr:=prt_frm s a
 have h1:(prt s a).frm<(prt s a).to:=by rw [hfr];exact to_gt hbn ha
 have h2:=(prt_le ha hbn).1
 by_cases h5:(prt s a).mode=5
 ·have:=told_dq w s hs mb a ha hbn h5 false hmp
  rw [show subT s a=DB s (a+1) (insT (prt s a)) by unfold subT;rw [if_pos h5]]
  exact this
 by_cases h4:(prt s a).mode=4∨(prt s a).mode=13
 ·have:=told_quo w s hs mb (prt s a).mode (prt s a).frm (prt s a).to (prt s a).up (prt s a).op false h1 h2 h4
  rw [show subT s a=[⟨false,true,s.extract ((prt s a).frm+1) (insT (prt s a))⟩] by unfold subT;rw [if_neg h5,if_pos h4,hfr]]
  exact this
 ·have:=told_exp w s hs mb (prt s a).mode (prt s a).frm (prt s a).to (prt s a).up (prt s a).op false h1 h2 (by omega)
  rw [show subT s a=[⟨true,false,s.extract (prt s a).frm (prt s a).to⟩] by unfold subT;rw [if_neg h5,if_neg h4,hfr]]
  exact this
def qI (s:ByteArray) (i a:Nat):Option Prt:=if(a<s.size∧born s a=true)∧idx s a<i then some (prt s a)else none
theorem qI_zero (s:ByteArray) (a:Nat):(none:Option Prt)=qI s 0 a:=by unfold qI;rw [if_neg (by omega)]
theorem qI_succ {s:ByteArray} {i f:Nat} (h:(bornL s s.size)[i]?=some f) (a:Nat):(if a=(prt s f).frm then some (prt s f)else qI s i a)=qI s (i+1) a:=by
 obtain⟨h1,h2,h3⟩:=idx_get h
 rw [prt_frm]
 unfold qI
 by_cases e:a=f
 ·subst e
  rw [if_pos rfl,if_pos ⟨⟨h2,h3⟩,by omega⟩]
 ·rw [if_neg e]
  by_cases hb:a<s.size∧born s a=true
  ·have hne:idx s a≠i:=by
    intro e2
    rcases Nat.lt_or_gt_of_ne e with g|g
    ·have:=idx_mono hb.2 g;omega
    ·have:=idx_mono h3 g;omega
   by_cases g:idx s a<i
   ·rw [if_pos ⟨hb,g⟩,if_pos ⟨hb,by omega⟩]
   ·rw [if_neg (by omega),if_neg (by omega)]
  ·rw [if_neg (fun h=>hb h.1),if_neg (fun h=>hb h.1)]
theorem qI_all (s:ByteArray) (a:Nat):qI s (PL s).length a=qB s s.size a:=by
 unfold qI qB PL
 rw [List.length_map]
 by_cases hb:a<s.size∧born s a=true
 ·rw [if_pos ⟨hb,idx_lt hb.2 hb.1⟩,if_pos hb]
 ·rw [if_neg (fun h=>hb h.1),if_neg hb]
def PiRl (s:ByteArray) (mb n:Nat) (w:World) (v12:Value) (wr:World):Prop:=∃i:Nat,i≤n∧v12=.int .i64 (i:Int)∧MapQ wr mb i (qI s i)∧Frm (fun b=>b=mb) w wr
section
variable (w:World)
set_option maxRecDepth 100000 in
set_option maxHeartbeats 4000000 in
theorem pieces_any (s:ByteArray) (hs:s.size≤60000):
  Calls Tryz.prog 168 #[.string s] w fun e w'=>∃mb Bd Bf Bt Br,e=.returned (.func (.func 227) #[] #[.pointer (some ⟨Bd,0,none⟩),.pointer (some ⟨Bf,0,none⟩),.pointer (some ⟨Bt,0,none⟩),.pointer (some ⟨Br,0,none⟩)])∧Below w.heap.size w w'∧
   Cap w' Bd Bt Br mb s false s.size∧Blk w' Bf #[.int .i64 ((0:Nat):Int)] 3∧∀b,CapC Bd Bt Br mb b→w.heap.size≤b:=by
 have hmm:=@run_makeMap Tryz.prog
 have kM:=(MapQ.made w).same (W':=(w.alloc (.map #[] 0)).alloc (.cells #[.string s,.map (some w.heap.size)] 184)) (Below.heap_alloc _ _ _ (by simp))
 have kr:=Blk.new (w.alloc (.map #[] 0)) #[.string s,.map (some w.heap.size)] 184
 rw [World.size_alloc]at kr
 have hB0:Below w.heap.size w ((w.alloc (.map #[] 0)).alloc (.cells #[.string s,.map (some w.heap.size)] 184)):=((Below.refl _ w).alloc (Nat.le_refl _) _).alloc (by simp) _
 have HOF:=Lib.hid (fun W=>of_parts_any W s (by omega))
 go_enter Tryz.func168,Tryz.ntmps168
 go_wp2_with fail
 obtain⟨W1,hW1⟩:∃X,(w.alloc (.map #[] 0)).alloc (.cells #[.string s,.map (some w.heap.size)] 184)=X:=⟨_,rfl⟩
 have zW1:W1.heap.size=w.heap.size+2:=by rw [←hW1];simp
 rw [hW1]at kM kr hB0 ⊢
 clear hW1
 refine(HOF.out _).mono ?_
 rintro e w1 ⟨⟨v,rfl,hP⟩,hB1⟩
 have hk1:MapQ w1 w.heap.size 0 (qI s 0):=(kM.same (hB1.block _ kM.lt)).ext (fun a=>qI_zero s a)
 have hr1:=kr.below hB1
 have hB2:Below w.heap.size w w1:=hB0.trans (hB1.mono hB0.size)
 have hz1:w.heap.size+2≤w1.heap.size:=by rw [←zW1];exact hB1.size
 obtain⟨mb,hmb⟩:∃m,w.heap.size=m:=⟨_,rfl⟩
 have HMB:=Lib.hid hmb
 have hpge:∀k,v.ownBlock=some k→mb<k:=fun k hk=>by
  have:=own_ge (show w1.ownsRow W1.heap.size 136 5 v (PL s).length (cellsP (PL s))from hP) k hk
  omega
 rw [hmb]at hk1 hr1 ⊢
 obtain⟨oa,n,oc,rfl,hRd⟩:=hP.read
 have hnl:n≤60000:=by have h1:=hRd.len;have h2:=PL_len s;omega
 have HN:=Lib.hid hRd.len
 have HPP:=Lib.hid hP
 have HPG:=Lib.hid hpge
 have HR1:=Lib.hid hr1
 clear hRd hP hpge kM kr
 go_wp2
 go_loopw [12] (fun v12 wr=>PiRl s mb n w1 v12 wr) (fun v _=>n - (intOf v).toNat)
 case atStart=>exact⟨0,Nat.zero_le _,rfl,hk1,Frm.refl _ _⟩
 case round=>
  obtain⟨i,hi,rfl,hq,hF⟩:=hrel
  have hr2:=HR1.out.frm hF (by omega)
  have r1:=hr2.cell 1
  have lr:=hr2.lt
  have hsz:=hF.size
  have hPr:PtS wr W1.heap.size (.slice oa n oc) (PL s):=own_frm hF HPP.out (fun k hk e=>by have:=HPG.out k hk;omega)
  by_cases hlt:(i:Int)<(n:Int)
  ·have hlt':i<n:=by omega
   have q0:(0:Int)≤(i:Int):=by omega
   obtain⟨oa2,n2,oc2,e2,hRd⟩:=hPr.read
   injection e2 with e3 e4 e5
   subst e3 e4 e5
   obtain⟨ob,p,rfl,hp,_,a0,a1,a2,a3,a4⟩:=hRd.at hlt'
   obtain⟨f0,hf0,hpe,hf1,_,hpf,hpt,_⟩:=PL_get hp
   have hqn:∀W' k,MapQ W' mb k (fun b=>if b=p.frm then some p else qI s i b)→MapQ W' mb k (qI s (i+1)):=fun W' k h=>h.ext (fun b=>by rw [hpe];exact qI_succ hf0 b)
   have HQN:=Lib.hid hqn
   have hpl:p.frm≤1000000:=by omega
   have hil:i≤1000000:=by omega
   clear hp hf0 hpe hf1 hpf hpt hqn hRd
   have hqa:=hq.same (W':=wr.alloc (.cells #[.int .i64 (p.mode:Int),.int .i64 (p.frm:Int),.int .i64 (p.to:Int),.int .i64 p.up,.bool p.op] 136)) (Below.heap_alloc wr _ mb hq.lt)
   have hFa:=hF.alloc (.cells #[.int .i64 (p.mode:Int),.int .i64 (p.frm:Int),.int .i64 (p.to:Int),.int .i64 p.up,.bool p.op] 136)
   go_wp2_with (at_mapUpdate;refine step_put rfl _ _ _ rfl rfl hqa hil p rfl hpl rfl ?_;intro w7 hq7 hg7)
   go_roundw
   case rel=>exact⟨i+1,by omega,by go_num,HQN.out _ _ hq7,hFa.grown hg7 (fun k hk=>by cases hk;exact .inl rfl)⟩
   case measure=>simp [intOf];omega
  ·obtain rfl:i=n:=by omega
   have hmp:MapP wr mb s:=⟨i,hq.ext (fun a=>by rw [HN.out];exact qI_all s a)⟩
   have HBT:=Lib.hid (between_any s mb 0 s.size false wr hmp)
   have r0:=hr2.cell 0
   clear hq
   go_wp2_with fail
   refine(HBT.out).mono ?_
   rintro e w2 ⟨Bd,Bf,Bt,Br,rfl,hB3,hc3,hf3,g1,g2,g3,g4⟩
   have hBw:Below w.heap.size w w2:=by
    have h5:Below w.heap.size w wr:=hB2.trans (hF.below (n:=w.heap.size) hB2.size (fun k hk=>by rw [HMB.out];omega))
    exact h5.trans (hB3.mono h5.size)
   have HC3:=Lib.hid hc3
   have HF3:=Lib.hid hf3
   clear hc3 hf3
   go_wp2
   go_ret
   refine⟨mb,Bd,Bf,Bt,Br,rfl,hBw,HC3.out,HF3.out,fun b hb=>?_⟩
   have:=HMB.out
   have:=hB2.size
   rcases hb with rfl|rfl|rfl|rfl<;>omega
end
def BldV (b:Nat) (v:Value) (x:List Value) (W:World):Prop:=(Blk W b #[.pointer none,v] 155∨Blk W b #[.pointer (some ⟨b,0,none⟩),v] 155)∧W.ownsRow b 5 1 v x.length x
theorem BldV.frm {b:Nat} {v:Value} {x:List Value} {W W':World} {p:Nat→Prop} (h:BldV b v x W) (hf:Frm p W W') (h1:¬p b) (h2:∀g,v.ownBlock=some g→¬p g):BldV b v x W':=
 ⟨h.1.imp (fun h=>h.frm hf h1) (fun h=>h.frm hf h1),own_frm hf h.2 h2⟩
theorem BldV.ne {b:Nat} {v:Value} {x:List Value} {W:World} (h:BldV b v x W):¬v.ownBlock=some b:=fun e2=>by
 rcases h.2.2 with⟨g1,_⟩|⟨g,cap,cur,g1,_,g3,_⟩
 ·rw [g1]at e2;cases e2
 ·rw [g1]at e2
  have e':g=b:=by simpa [Value.ownBlock]using e2
  subst e'
  rcases h.1 with hb|hb
  ·rw [show W.heap[g]?=_ from hb]at g3
   injection g3 with g3
   injection g3 with _ g5 _
   exact absurd g5 (by decide)
  ·rw [show W.heap[g]?=_ from hb]at g3
   injection g3 with g3
   injection g3 with _ g5 _
   exact absurd g5 (by decide)
theorem BldV.isB {b:Nat} {v:Value} {x:List Value} {W:World} (h:BldV b v x W):Bld b x W:=by
 rcases h.1 with hb|hb
 ·exact .inl ⟨Nat.le_refl _,v,hb,h.2,h.ne⟩
 ·exact .inr ⟨Nat.le_refl _,v,hb,h.2,h.ne⟩
theorem BldV.lt {b:Nat} {v:Value} {x:List Value} {W:World} (h:BldV b v x W):b<W.heap.size:=by
 rcases h.1 with hb|hb<;>exact hb.lt
section
variable (w:World)
set_option maxRecDepth 100000 in
set_option maxHeartbeats 2000000 in
theorem wstring_own (b:Nat) (v:Value) (x:List Value) (s:ByteArray) (h:BldV b v x w) (hl:x.length≤1000000) (hs:s.size≤1000000):
  Calls Tryz.prog 165 #[.pointer (some ⟨b,0,none⟩),.string s] w fun e w'=>e=.returned (.tuple #[.int .i64 s.size,.nilIface])∧∃v',BldV b v' (x++Lib.strCells s) w'∧Frm (fun k=>k=b∨v.ownBlock=some k) w w'∧∀g,v'.ownBlock=some g→v.ownBlock=some g∨w.heap.size≤g:=by
 have hne:=h.ne
 have hown:=h.2
 obtain⟨oa,oc,rfl⟩:∃oa oc,v=.slice oa x.length oc:=by
  rcases hown.2 with⟨h1,h2⟩|⟨g,cap,cur,h1,_⟩
  ·exact⟨none,0,by rw [h1,h2]⟩
  ·exact⟨_,_,h1⟩
 have hcc:Calls Tryz.prog 197 #[.pointer (some ⟨b,0,none⟩)] w fun e w'=>e=.returned (.tuple #[])∧Blk w' b #[.pointer (some ⟨b,0,none⟩),.slice oa x.length oc] 155∧Frm (fun k=>k=b) w w':=by
  rcases h.1 with hb|hb
  ·refine(Any.Builder_copyCheck_fresh (ρ:=renB) { laidN166 with } laidX.toX72 b w (hb.cell 0) (by simp [World.shape?,show w.heap[b]?=_ from hb];rfl) (hb.frozen 0)).mono ?_
   rintro e w' ⟨rfl,rfl⟩
   exact⟨rfl,hb.set 0 _,Frm.setCell (p:=fun k=>k=b) (Frm.refl _ w) 0 (.inl rfl) _⟩
  ·refine(Any.Builder_copyCheck_used (ρ:=renB) { laidN166 with } laidX.toX72 b w (hb.cell 0)).mono ?_
   rintro e w' ⟨rfl,rfl⟩
   exact⟨rfl,hb,Frm.refl _ _⟩
 have HCC:=Lib.hid hcc
 clear hcc
 go_enter Tryz.func165,Tryz.ntmps165
 go_wp2_with fail
 refine(HCC.out).mono ?_
 rintro e w1 ⟨rfl,hb1,hF1⟩
 have hown1:=own_frm hF1 hown (fun k hk e=>hne (e▸hk))
 obtain⟨z,hz⟩:∃z,x.length=z:=⟨_,rfl⟩
 have HZ:=Lib.hid hz
 have hzl:z≤1000000:=by omega
 rw [hz]at hown1 hb1
 have c1:=hb1.cell 1
 have f1:=hb1.frozen 1
 have hb1l:b≤w1.heap.size:=by have:=hb1.lt;omega
 have hne1:some b≠(Value.slice oa z oc).ownBlock:=fun e=>hne (by rw [hz];exact e.symm)
 have HB1:=Lib.hid hb1
 have HOWN:=Lib.hid hown1
 clear hz hown1
 go_wp2_with (at_builtin;refine wpl_app_text rfl _ _ rfl b z _ x s rfl rfl HOWN.out hb1l (by omega) (by omega) ?_;intro oa' oc' w' hown2 hgr hg';have o7:=hb1.grown hgr hne1;have d1:=o7.cell 1;have df:=o7.frozen 1)
 go_ret2
 refine⟨rfl,.slice oa' (z+s.size) oc',⟨.inr ?_,?_⟩,?_,?_⟩
 ·exact o7.set 1 _
 ·have e1:(x++Lib.strCells s).length=z+s.size:=by rw [List.length_append,Lib.strCells_length,HZ.out]
  rw [e1]
  refine own_frm (Frm.setCell (p:=fun k=>k=b) (Frm.refl _ w') 1 (.inl rfl) _) hown2 (fun k hk e=>?_)
  subst e
  rcases hg' with e2|e2
  ·exact hne1 (hk.symm.trans e2)
  ·rw [e2]at hk
   have:=HB1.out.lt
   injection hk with hk
   omega
 ·refine(hF1.mono (fun _ _ h=> .inl h)).trans (Frm.setCell (p:=fun k=>k=b∨(Value.slice oa x.length oc).ownBlock=some k) ((Frm.refl _ w1).grown hgr (fun k hk=> .inl (.inr (by rw [HZ.out];exact hk)))) 1 (.inl (.inl rfl)) _) (fun _ _ h=>h)
 ·intro g hg
  rcases hg' with e2|e2
  ·left;rw [HZ.out];exact e2.symm.trans hg
  ·right
   rw [e2]at hg
   injection hg with hg
   have:=hF1.size
   omega
end
def catW (f:Pc→ByteArray):List Pc→ByteArray
 | []=>ByteArray.empty
 |x::l=>f x++catW f l
theorem catW_append (f:Pc→ByteArray) (a b:List Pc):catW f (a++b)=catW f a++catW f b:=by
 induction a with
 |nil=>simp [catW]
 |cons x a ih=>simp [catW,ih,ByteArray.append_assoc]
theorem catW_snoc (f:Pc→ByteArray) (a:List Pc) (x:Pc):Lib.strCells (catW f (a++ [x]))=Lib.strCells (catW f a)++Lib.strCells (f x):=by
 rw [catW_append]
 simp [catW,Lib.strCells]
def PcOk (f:Pc→ByteArray) (L:List Pc):Prop:=∀pre x rest,L=pre++x::rest→x.t.size≤60000∧(catW f pre).size≤400000∧(f x).size≤400000
open Go.RowKit
theorem fl_size (dbl:Bool) (h:ByteArray) (w:Bool):(bareL (fl dbl h w)).size=h.size:=by
 unfold fl
 split
 ·rename_i hh;simp [bareL];exact hh.1.symm
 ·simp [bareL]
theorem itself_size2 {s:ByteArray} {p:Prt} {dbl:Bool} {X:ByteArray} (h:itself s p dbl=some X):X.size≤p.to - p.frm:=itself_size (dbl:=dbl) (by rw [if_pos rfl];exact h)
theorem rm_tot {s:ByteArray} {dbl:Bool} {sub:Nat→List Pc} {e E:Nat} {Rch:Nat→Prop} (he:e≤s.size) (heE:e≤E) (hR1:∀a,Rch a→a<e→born s a=false→Rch (a+1)) (hR2:∀a,Rch a→a<e→born s a=true→Rch (prt s a).to∧(prt s a).to≤E)
  (hsub:∀a,Rch a→a<e→born s a=true→(bareL (sub a)).size≤(prt s a).to - a):∀(k a:Nat) (h:ByteArray) (w:Bool),Rch a→a≤E→(bareL (rm s dbl sub e k a h w)).size≤h.size+(E - a)
 |0,a,h,w,_,_=>by unfold rm;rw [fl_size];omega
 |k+1,a,h,w,hr,ha=>by
  unfold rm
  by_cases hae:a<e
  ·rw [if_pos hae]
   by_cases hb:born s a=true
   ·rw [if_pos hb]
    have hg:=to_gt hb (by omega)
    obtain⟨r1,r2⟩:=hR2 a hr hae hb
    cases hi:itself s (prt s a) dbl with
    |some t=>
     have h1:=itself_size2 hi
     rw [prt_frm]at h1
     have:=rm_tot (dbl:=dbl) he heE hR1 hR2 hsub k _ (h++t) w r1 r2
     rw [ByteArray.size_append]at this
     simp only
     omega
    |none=>
     have h1:=hsub a hr hae hb
     have:=rm_tot (dbl:=dbl) he heE hR1 hR2 hsub k _ ByteArray.empty false r1 r2
     simp only
     rw [bareL_append,bareL_append,ByteArray.size_append,ByteArray.size_append,fl_size]
     have e0:(ByteArray.empty).size=0:=rfl
     omega
   ·rw [if_neg hb]
    have:=rm_tot (dbl:=dbl) he heE hR1 hR2 hsub k _ (h++s.extract a (a+1)) w (hR1 a hr hae (by simpa using hb)) (by omega)
    rw [ByteArray.size_append]at this
    have e1:(s.extract a (a+1)).size≤1:=by simp;omega
    omega
  ·rw [if_neg hae,fl_size];omega
def DqR (s:ByteArray) (f x:Nat):Prop:=f+1≤x∧(x<insT (prt s f)→AtB s x ((5,f)::blw s f))
theorem dq_facts {s:ByteArray} {f:Nat} (hf:f<s.size) (hb:born s f=true) (hm:(prt s f).mode=5):
  insT (prt s f)≤s.size∧insT (prt s f)≤(prt s f).to∧DqR s f (f+1)∧(∀a,DqR s f a→a<insT (prt s f)→pres s (a+1) f=true):=by
 have hto:=to_gt hb hf
 have hle:=(prt_le hf hb).1
 have hfr:=prt_frm s f
 have hins:=insT_le (prt s f) (by rw [hfr];exact hto) hle (by rw [hm];rfl)
 rw [hfr]at hins
 have h5:md s (f+1) f=5:=dq_born (eK_pres2 hb hf) (cnt_5 (by rw [←prt_mo hb hf];exact hm))
 have hB:nt s (f+1)=(5,f)::blw s f:=by have:=born_split hb;rw [h5]at this;exact this
 have hi2:insT (prt s f)≤(prt s f).to:=(insT_le (prt s f) (by rw [hfr];exact hto) (Nat.le_refl _) (by rw [hm];rfl)).2
 refine⟨hins.2,hi2,⟨Nat.le_refl _,fun _ _=> .inl hB⟩,?_⟩
 rintro x ⟨h1,_⟩ h2
 have h2':=h2
 have hpe:=prt_eq hb hf
 have h12:¬cnt (md s (eK s f s.size) f)=12:=by rw [←prt_mo hb hf,hm];decide
 rw [if_neg h12]at hpe
 refine eK_pres (k:=s.size) (by omega) ?_
 rw [hpe]at h2
 have hm5:cnt (md s (eK s f s.size) f)=5:=by rw [←prt_mo hb hf];exact hm
 unfold insT at h2
 simp only [hm5]at h2
 have e1:headM 5=1:=rfl
 have e2:tailM 5=1:=rfl
 rw [e1,e2]at h2
 by_cases hE:eK s f s.size=s.size
 ·omega
 ·rw [if_neg hE]at h2
  have:decide (eK s f s.size=s.size)=false:=decide_eq_false hE
  rw [this]at h2
  simp at h2
  repeat' split at h2
  all_goals omega
theorem dq_next {s:ByteArray} {f:Nat} (hf:f<s.size) (hb:born s f=true) (hm:(prt s f).mode=5):
  (∀a,DqR s f a→a<insT (prt s f)→born s a=false→DqR s f (a+1))∧∀a,DqR s f a→a<insT (prt s f)→born s a=true→DqR s f (prt s a).to∧(prt s a).to≤(prt s f).to:=by
 obtain⟨h1,h2,_,hin⟩:=dq_facts hf hb hm
 refine⟨?_,?_⟩
 ·rintro a ⟨g1,g2⟩ hlt hbn
  exact⟨by omega,fun _ _=> .inl ((g2 hlt).none (.inr ⟨f,_,rfl,hin a ⟨g1,g2⟩ hlt⟩) (by omega) hbn)⟩
 ·rintro a ⟨g1,g2⟩ hlt hbn
  have ha:a<s.size:=by omega
  have:=to_gt hbn ha
  have hw:=(g2 hlt).born (.inr ⟨f,_,rfl,hin a ⟨g1,g2⟩ hlt⟩) ha hbn
  exact⟨⟨by omega,fun _=>by rw [←hw];exact at_behind ha hbn⟩,cover_to hb hbn (by omega) ha (hin a ⟨g1,g2⟩ hlt)⟩
theorem DB_tot {s:ByteArray} {f:Nat} (hf:f<s.size) (hb:born s f=true) (hm:(prt s f).mode=5):(bareL (DB s (f+1) (insT (prt s f)))).size≤(prt s f).to - f:=by
 obtain⟨h1,h2,h3,hin⟩:=dq_facts hf hb hm
 have hto:=to_gt hb hf
 obtain⟨n1,n2⟩:=dq_next hf hb hm
 have:=rm_tot (s:=s) (dbl:=true) (sub:=subD s) (e:=insT (prt s f)) (E:=(prt s f).to) (Rch:=DqR s f) h1 h2 n1 n2 (fun a hr hlt hbn=>by
  unfold subD
  simp [bareL]
  omega) (insT (prt s f) - (f+1)) (f+1) ByteArray.empty true h3 (by omega)
 have e0:(ByteArray.empty).size=0:=rfl
 unfold DB Rm
 omega
theorem PCs_tot (s:ByteArray):(bareL (PCs s)).size≤s.size:=by
 have:=rm_tot (s:=s) (dbl:=false) (sub:=subT s) (e:=s.size) (E:=s.size) (Rch:=fun _=>True) (Nat.le_refl _) (Nat.le_refl _) (fun _ _ _ _=>trivial) (fun a _ hlt hbn=>⟨trivial,(prt_le hlt hbn).1⟩) (fun a _ hlt hbn=>by
  have hto:=to_gt hbn hlt
  have hfr:=prt_frm s a
  unfold subT
  split
  ·rename_i h5
   exact DB_tot hlt hbn h5
  ·split
   ·rename_i h4
    have hins:=insT_le (prt s a) (z:=(prt s a).to) (by rw [hfr];exact hto) (Nat.le_refl _) (by rcases h4 with e|e<;>rw [e]<;>rfl)
    simp [bareL]
    omega
   ·simp [bareL]
    omega) s.size 0 ByteArray.empty false trivial (Nat.zero_le _)
 have e0:(ByteArray.empty).size=0:=rfl
 unfold PCs Rm
 simp only [Nat.sub_zero]
 omega
theorem catW_t (l:List Pc):catW (fun x=>x.t) l=bareL l:=by
 induction l with
 |nil=>rfl
 |cons x l ih=>show x.t++_=x.t++_;rw [ih]
theorem pcOk_t {s:ByteArray} (hs:s.size≤60000):PcOk (fun x=>x.t) (PCs s):=by
 intro pre x rest e
 have:=PCs_tot s
 rw [e,bareL_append,ByteArray.size_append]at this
 have e2:(bareL (x::rest)).size=x.t.size+(bareL rest).size:=by show(x.t++bareL rest).size=_;rw [ByteArray.size_append]
 rw [catW_t]
 show x.t.size≤60000∧(bareL pre).size≤400000∧x.t.size≤400000
 omega
theorem by8_ext {s:ByteArray} {a b i:Nat} (hb:b≤s.size) (hi:i<b - a):by8 (s.extract a b) i=by8 s (a+i):=by
 unfold by8
 rw [bt_extract s a b i hb hi]
theorem ext_size {s:ByteArray} {a b:Nat} (hb:b≤s.size):(s.extract a b).size=b - a:=by
 rw [ByteArray.size_extract];omega
attribute [local go_sem] Oper.semAt_some
def BaI (w:World) (z Bb:Nat) (pre:List Pc) (T:Nat→Prop) (W:World):Prop:=
 ∃v,BldV Bb v (Lib.strCells (catW (fun x=>x.t) pre)) W∧(∀g,v.ownBlock=some g→z+2≤g∧¬T g)∧(∀b,T b→z+2≤b)∧z+2≤W.heap.size∧Below w.heap.size w W
theorem BaI.abid {w:World} {z Bb:Nat} (hb:Bb<z) (hw:w.heap.size≤z):AbidL (z+1) (BaI w z Bb):=by
 rintro pre T W W' T' ⟨v,h1,h2,hT,hzW,hB⟩ hf hT'
 have no:∀b,b<z→¬(T b∨b=z+1):=fun b hb hh=>by rcases hh with g|g;have:=hT b g;omega;omega
 refine⟨v,h1.frm hf (no _ hb) (fun g hg hh=>?_),fun g hg=>⟨(h2 g hg).1,fun hh=>?_⟩,fun b hb=>?_,?_,?_⟩
 ·have:=h2 g hg
  rcases hh with e|e
  ·exact this.2 e
  ·omega
 ·rcases hT' g hh with e|e
  ·exact(h2 g hg).2 e
  ·have:=own_lt h1.2 g hg;omega
 ·rcases hT' b hb with e|e
  ·exact hT b e
  ·omega
 ·have:=hf.size;omega
 ·exact hB.trans ((hf.below (n:=w.heap.size) hB.size (fun b hh=>by rcases hh with e|e;have:=hT b e;omega;omega)))
section
variable (w:World)
set_option maxRecDepth 100000 in
set_option maxHeartbeats 8000000 in
theorem bare8_any (s:ByteArray) (hs:s.size≤60000):
  Calls Tryz.prog 135 #[.string s] w fun e w'=>e=.returned (.string (bareL (PCs s)))∧Below w.heap.size w w':=by
 have hok:=pcOk_t hs
 have HPI:=Lib.hid (fun W=>pieces_any W s hs)
 have hcb:catW (fun x=>x.t) (PCs s)=bareL (PCs s):=catW_t _
 have HCB:=Lib.hid hcb
 clear hcb
 refine(callsIn_wide (n:=5)).1 ?_
 have hfn:Fence.wide.fn 135:=trivial
 have bb:=Blk.new w #[.pointer none,.slice none 0 0] 155
 have hB0:Below w.heap.size w (w.alloc (.cells #[.pointer none,.slice none 0 0] 155)):=(Below.refl _ w).alloc (Nat.le_refl _) _
 have hz0:(w.alloc (.cells #[.pointer none,.slice none 0 0] 155)).heap.size=w.heap.size+1:=by simp
 refine callsIn_of_wp_marks Tryz.func135 rfl hfn ?_ rfl
 refine(wpIn_wide (n:=5)).2 ?_
 simp only [Tryz.ntmps135,List.size_toArray,List.length_cons,List.length_nil,Nat.reduceAdd,Nat.reduceSub,Array.replicate_succ,Array.replicate_zero,List.push_toArray,List.append_toArray,List.nil_append,List.cons_append]
 go_wp2_with fail
 obtain⟨W0,hW0⟩:∃X,w.alloc (.cells #[.pointer none,.slice none 0 0] 155)=X:=⟨_,rfl⟩
 rw [hW0]at bb hB0 hz0 ⊢
 clear hW0
 obtain⟨Bb,h6⟩:∃x,w.heap.size=x:=⟨_,rfl⟩
 have H6:=Lib.hid h6
 rw [h6]at bb hz0 ⊢
 refine(HPI.out _).mono ?_
 rintro en W1 ⟨mb,Bd,Bf,Bt,Br,rfl,hB1,hcap,hbf,hge⟩
 have hz1:=hB1.size
 have hBw:Below w.heap.size w W1:=hB0.trans (hB1.mono hB0.size)
 have hseq:∀W,Below W1.heap.size W1 W→SeqT (5 - 1) Tryz.prog 227 #[.pointer (some ⟨Bd,0,none⟩),.pointer (some ⟨Bf,0,none⟩),.pointer (some ⟨Bt,0,none⟩),.pointer (some ⟨Br,0,none⟩)] encC (CapC Bd Bt Br mb) (PCs s) W:=fun W hW=>
  top_seq 4 (by omega) s hs mb Bd Bf Bt Br W (hcap.same (fun b hb=>hW.block b (hcap.lt b hb))) (hbf.below hW)
 have hord:Bb<W1.heap.size∧w.heap.size≤W1.heap.size:=by omega
 have hcge:∀b,CapC Bd Bt Br mb b→Bb<b∧b<W1.heap.size:=fun b hb=>⟨by have:=hge b hb;omega,hcap.lt b hb⟩
 have HSEQ:=Lib.hid hseq
 have HCG:=Lib.hid hcge
 have HOK:=Lib.hid hok
 have cb:=bb.below hB1
 clear hseq hcge hcap hbf hge hok h6 bb hB0 hz0 hB1 hz1
 go_wp2
 refine(wpIn_wide (n:=5)).1 (wpT (L:=PCs s) (encs:=encC) (C:=CapC Bd Bt Br mb) (gf:=227) (lb:=#[.pointer (some ⟨Bd,0,none⟩),.pointer (some ⟨Bf,0,none⟩),.pointer (some ⟨Bt,0,none⟩),.pointer (some ⟨Br,0,none⟩)]) rfl (enters_of Tryz.func227 (by kernel_rfl) rfl) HSEQ.out (fun b hb=>(HCG.out b hb).2) ?hps
  (BaI w W1.heap.size Bb) (fun _ _ _ _=>False) (BaI.abid hord.1 hord.2) (fun _ _ _ _ _ _ h _ _=>h) ?start ?round ?fin ?stop)
 case hps=>intro x;rfl
 case start=>
  intro W hB hz
  exact⟨.slice none 0 0,⟨.inl (cb.below hB),World.ownsRow_nil _ _ _ _⟩,(fun g hg=>by cases hg),(fun b hb=>hb.elim),by omega,hBw.trans (hB.mono hBw.size)⟩
 case stop=>rintro c pre T W h;exact h.elim
 case fin=>
  rintro T W ⟨v,h1,h2,hT,hzW,hB⟩ hWz hWd
  have hstr:=Tryz.Builder_String_any_k Bb Bb (catW (fun x=>x.t) (PCs s)).data.toList W (Lib.IsBuilderF.of h1.isB) (by have:=h1.lt;omega)
  have HSTR:=Lib.hid hstr
  have hWd':=Lib.hid hWd
  clear hstr h1 h2
  dsimp only
  go_wp2_with fail
  refine(HSTR.out).mono ?_
  rintro en W2 ⟨rfl,_,hB2,ho2⟩
  have hD2:=ho2 W1.heap.size _ hWd (fun e=>by injection e with e';omega) (fun c fz e=>by cases e)
  have HD:=Lib.hid hD2
  have HB2:=Lib.hid hB2
  clear ho2 hD2 hB2
  go_wp2
  have hBF:Below w.heap.size w W2:=hB.trans (HB2.out.mono (by have:=H6.out;omega))
  refine⟨by simp,.inl ⟨_,_,rfl,run_takeDeferred HD.out,?_⟩⟩
  refine⟨.string (bareL (PCs s)),?_,rfl,?_⟩
  ·rw [←HCB.out]
   simp [results,Tryz.f135,go_sem]
  ·exact hBF.trans (belowK_b (w:=w) (Nat.le_refl _) W2 W1.heap.size _ _ (by omega) HD.out rfl rfl)
 case round=>
  rintro pre x rest T W hLx ⟨v,h1,h2,hT,hzW,hB⟩ hTb hWz hrec hdef t1 t2
  simp only [encC,aggC]
  gi_wp2
  obtain⟨W2,hW2⟩:∃X,W.alloc (.cells #[.bool x.ex,.bool x.q,.string x.t] 119)=X:=⟨_,rfl⟩
  have hB2:Below W.heap.size W W2:=by rw [←hW2];exact(Below.refl _ _).alloc (Nat.le_refl _) _
  have kX:Blk W2 W.heap.size #[.bool x.ex,.bool x.q,.string x.t] 119:=by rw [←hW2];exact Blk.new W _ _
  have z2:W2.heap.size=W.heap.size+1:=by rw [←hW2];simp
  rw [hW2]
  clear hW2
  refine⟨hB2.block _ (by omega),hB2.block _ (by omega),⟨hB2.size,fun b hb _=>hB2.block b hb⟩,fun r=>?_⟩
  obtain⟨W3,hW3⟩:∃X,W2.putObj (W1.heap.size+1) (.loop r)=X:=⟨_,rfl⟩
  have z3:W3.heap.size=W.heap.size+1:=by rw [←hW3,←z2];simp
  have hF3:Frm (fun b=>b=W1.heap.size+1) W W3:=by
   rw [←hW3]
   exact(Frm.of_below hB2).trans (frm_put (p:=fun b=>b=W1.heap.size+1) W2 _ rfl) (fun _ _ h=>h)
  have kX3:Blk W3 W.heap.size #[.bool x.ex,.bool x.q,.string x.t] 119:=by
   rw [←hW3]
   exact(World.putObj_heap_other (by omega)).trans kX
  rw [hW3]
  clear hW3 kX hB2 z2 hrec hdef
  have hb3:=h1.frm hF3 (by omega) (fun g hg e=>by have:=(h2 g hg).1;omega)
  have x2:=kX3.cell 2
  have hBW3:Below w.heap.size w W3:=hB.trans (hF3.below (by omega) (fun b hb=>by omega))
  have hokx:=HOK.out pre x rest hLx
  have HOK2:=Lib.hid hokx
  have hwl:w.heap.size≤W3.heap.size:=hBW3.size
  have hvlt:∀g,v.ownBlock=some g→g<W.heap.size:=own_lt h1.2
  have H2:=Lib.hid h2
  have hws:=wstring_own W3 Bb v (Lib.strCells (catW (fun x=>x.t) pre)) x.t hb3 (by rw [Lib.strCells_length];have:=hokx.2.1;omega) (by have:=hokx.1;omega)
  have HWS:=Lib.hid (CallsIn.inRound (W1.heap.size+1) ((callsIn_wide (n:=5 - 1 - 1 - 1)).2 hws))
  have h11:1≤5 - 1 - 1:=by omega
  clear h1 h2 hb3 hLx hws hokx
  gi_wp2_with fail
  refine⟨trivial,(HWS.out).mono ?_⟩
  rintro en W7 ⟨rfl,v',hv7,hF7,hg7⟩
  have hno:∀b,b<W1.heap.size+2→b≠Bb→¬(b=Bb∨v.ownBlock=some b):=fun b hb hn hh=>by
   rcases hh with e|e
   ·exact hn e
   ·have:=(H2.out b e).1;omega
  have g1:=hF7.block (W1.heap.size+1) (by omega) (hno _ (by omega) (by omega))
  have g2:=hF7.block W1.heap.size (by omega) (hno _ (by omega) (by omega))
  have hII:BaI w W1.heap.size Bb (pre++ [x]) T W7:=by
   refine⟨v',by rw [catW_snoc];exact hv7,fun g hg=>?_,hT,by have:=hF7.size;omega,?_⟩
   ·rcases hg7 g hg with e|e
    ·exact H2.out g e
    ·exact⟨by omega,fun ht=>by have:=hTb g ht;omega⟩
   ·exact hBW3.trans (hF7.below hwl (fun b hb=>by
     have:=H6.out
     rcases hb with e|e
     ·omega
     ·have:=(H2.out b e).1;omega))
  have HII:=Lib.hid hII
  have hKK:KpT (CapC Bd Bt Br mb) T W3 W7:=KpT.of_frm hF7 (fun b _ hb=>⟨fun ht=>by
    rcases hb with e|e
    ·have:=hT b ht;omega
    ·exact(H2.out b e).2 ht,fun hc=>by
    have h1:=HCG.out b hc
    rcases hb with e|e
    ·omega
    ·have:=(H2.out b e).1;omega⟩)
  have HKK:=Lib.hid hKK
  clear hII hKK
  gi_wp2
  exact⟨g1,g2,HKK.out,HII.out⟩
end
end Go.Proofs.YtkolpaonccmgiaaGreatDoor

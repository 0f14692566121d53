/- What take and Feed of layer 6 (modes) leave of a m -/
import Derived.Test.YtkolpaonccmgiaaGreatDoorQs
import Derived.Deep.LoopGhost
set_option linter.unusedVariables false
namespace Go.Proofs.YtkolpaonccmgiaaGreatDoor
set_option linter.unusedSectionVars false
set_option linter.unusedVariables false
open Go.RowKit
theorem feed_plain {m f:Nat} {r:List Fr} {fresh:Bool} {b p:Nat} (h3:m≠3) (h11:m≠11) (h12:m≠12):feed ⟨(m,f)::r,fresh⟩ b p=plainF ((m,f)::r) fresh b p:=by
 unfold feed
 simp only [h3,h11,h12,if_false]
theorem quoted_4 (b f p:Nat) (r:List Fr) (fresh:Bool):plainF ((4,f)::r) fresh b p=⟨if b=39 then r else if inB b ⟨#[]⟩=true then(openedN b,p)::(4,f)::r else(4,f)::r,fresh⟩:=by
 by_cases h34:b=34
 ·subst h34;rfl
 by_cases h36:b=36
 ·subst h36;rfl
 by_cases h39:b=39
 ·subst h39;rfl
 by_cases h92:b=92
 ·subst h92;rfl
 by_cases h96:b=96
 ·subst h96;rfl
 have hi:inB b ⟨#[]⟩=false:=by
  rw [Bool.eq_false_iff]
  intro e
  simp [inB]at e
  try omega
 have ho:opn b=15:=by unfold opn;simp [h92,h36,h96]
 have hm:mv 4 b fresh=(.keep,fresh):=by unfold mv;simp [isProg, *]
 show fin (mv 4 b fresh) ((4,f)::r) p=_
 rw [hm,hi,if_neg h39]
 rfl
theorem quoted_5 (b f p:Nat) (r:List Fr) (fresh:Bool):plainF ((5,f)::r) fresh b p=⟨if b=34 then r else if inB b ⟨#[92,36,96]⟩=true then(openedN b,p)::(5,f)::r else(5,f)::r,fresh⟩:=by
 by_cases h34:b=34
 ·subst h34;rfl
 by_cases h36:b=36
 ·subst h36;rfl
 by_cases h39:b=39
 ·subst h39;rfl
 by_cases h92:b=92
 ·subst h92;rfl
 by_cases h96:b=96
 ·subst h96;rfl
 have hi:inB b ⟨#[92,36,96]⟩=false:=by
  rw [Bool.eq_false_iff]
  intro e
  simp [inB]at e
  try omega
 have ho:opn b=15:=by unfold opn;simp [h92,h36,h96]
 have hm:mv 5 b fresh=(.keep,fresh):=by unfold mv;simp [isProg, *]
 show fin (mv 5 b fresh) ((5,f)::r) p=_
 rw [hm,hi,if_neg h34]
 rfl
theorem quoted_6 (b f p:Nat) (r:List Fr) (fresh:Bool):plainF ((6,f)::r) fresh b p=⟨if b=96 then r else if inB b ⟨#[92]⟩=true then(openedN b,p)::(6,f)::r else(6,f)::r,fresh⟩:=by
 by_cases h34:b=34
 ·subst h34;rfl
 by_cases h36:b=36
 ·subst h36;rfl
 by_cases h39:b=39
 ·subst h39;rfl
 by_cases h92:b=92
 ·subst h92;rfl
 by_cases h96:b=96
 ·subst h96;rfl
 have hi:inB b ⟨#[92]⟩=false:=by
  rw [Bool.eq_false_iff]
  intro e
  simp [inB]at e
  try omega
 have ho:opn b=15:=by unfold opn;simp [h92,h36,h96]
 have hm:mv 6 b fresh=(.keep,fresh):=by unfold mv;simp [isProg, *]
 show fin (mv 6 b fresh) ((6,f)::r) p=_
 rw [hm,hi,if_neg h96]
 rfl
theorem quoted_7 (b f p:Nat) (r:List Fr) (fresh:Bool):plainF ((7,f)::r) fresh b p=⟨if b=125 then r else if inB b ⟨#[92,36,96,34,39]⟩=true then(openedN b,p)::(7,f)::r else(7,f)::r,fresh⟩:=by
 by_cases h34:b=34
 ·subst h34;rfl
 by_cases h36:b=36
 ·subst h36;rfl
 by_cases h39:b=39
 ·subst h39;rfl
 by_cases h92:b=92
 ·subst h92;rfl
 by_cases h96:b=96
 ·subst h96;rfl
 by_cases h125:b=125
 ·subst h125;rfl
 have hi:inB b ⟨#[92,36,96,34,39]⟩=false:=by
  rw [Bool.eq_false_iff]
  intro e
  simp [inB]at e
  try omega
 have ho:opn b=15:=by unfold opn;simp [h92,h36,h96]
 have hm:mv 7 b fresh=(.keep,fresh):=by unfold mv;simp [isProg, *]
 show fin (mv 7 b fresh) ((7,f)::r) p=_
 rw [hm,hi,if_neg h125]
 rfl
theorem quoted_8 (b f p:Nat) (r:List Fr) (fresh:Bool):plainF ((8,f)::r) fresh b p=⟨if b=125 then r else if inB b ⟨#[92,36,96,34]⟩=true then(openedN b,p)::(8,f)::r else(8,f)::r,fresh⟩:=by
 by_cases h34:b=34
 ·subst h34;rfl
 by_cases h36:b=36
 ·subst h36;rfl
 by_cases h39:b=39
 ·subst h39;rfl
 by_cases h92:b=92
 ·subst h92;rfl
 by_cases h96:b=96
 ·subst h96;rfl
 by_cases h125:b=125
 ·subst h125;rfl
 have hi:inB b ⟨#[92,36,96,34]⟩=false:=by
  rw [Bool.eq_false_iff]
  intro e
  simp [inB]at e
  try omega
 have ho:opn b=15:=by unfold opn;simp [h92,h36,h96]
 have hm:mv 8 b fresh=(.keep,fresh):=by unfold mv;simp [isProg, *]
 show fin (mv 8 b fresh) ((8,f)::r) p=_
 rw [hm,hi,if_neg h125]
 rfl
theorem quoted_14 (b f p:Nat) (r:List Fr) (fresh:Bool):plainF ((14,f)::r) true b p=⟨if b=10 then r else if inB b ⟨#[]⟩=true then(openedN b,p)::(14,f)::r else(14,f)::r,true⟩:=by
 by_cases h10:b=10
 ·subst h10;rfl
 by_cases h34:b=34
 ·subst h34;rfl
 by_cases h36:b=36
 ·subst h36;rfl
 by_cases h39:b=39
 ·subst h39;rfl
 by_cases h92:b=92
 ·subst h92;rfl
 by_cases h96:b=96
 ·subst h96;rfl
 have hi:inB b ⟨#[]⟩=false:=by
  rw [Bool.eq_false_iff]
  intro e
  simp [inB]at e
  try omega
 have ho:opn b=15:=by unfold opn;simp [h92,h36,h96]
 have hm:mv 14 b true=(.keep,true):=by unfold mv;simp [isProg, *]
 show fin (mv 14 b true) ((14,f)::r) p=_
 rw [hm,hi,if_neg h10]
 rfl
section
variable (mb g cap p:Nat) (w:World)
set_option maxHeartbeats 1000000 in
theorem take_4 (b f:Nat) (r:List Fr) (fresh:Bool) (hM:Mc w mb g cap ⟨(4,f)::r,fresh⟩ p) (hl:r.length≤100000) (hb:b<256) (X:Ms) (hX:Hid (X=plainF ((4,f)::r) fresh b p)):
  Calls Tryz.prog 222 #[.pointer (some ⟨mb,0,none⟩),.int .i64 4,.int .u8 b] w fun e w'=>(∃v,e=.returned v)∧McTo w mb g X p w':=by
 have hcall:=quoted_any mb g cap p w b 39 ⟨#[]⟩ (4,f) r fresh hM hl hb
 rw [←quoted_4 b f p r fresh,←hX.out]at hcall
 clear hX
 go_enter Tryz.func222,Tryz.ntmps222
 go_wp2_with fail
 refine hcall.mono ?_
 rintro e w1 ⟨⟨v,rfl⟩,hM1⟩
 go_wp2
 refine bodyPost_end (results_none rfl _ _ _) rfl ?_
 exact⟨⟨_,rfl⟩,hM1⟩
set_option maxHeartbeats 1000000 in
theorem take_5 (b f:Nat) (r:List Fr) (fresh:Bool) (hM:Mc w mb g cap ⟨(5,f)::r,fresh⟩ p) (hl:r.length≤100000) (hb:b<256) (X:Ms) (hX:Hid (X=plainF ((5,f)::r) fresh b p)):
  Calls Tryz.prog 222 #[.pointer (some ⟨mb,0,none⟩),.int .i64 5,.int .u8 b] w fun e w'=>(∃v,e=.returned v)∧McTo w mb g X p w':=by
 have hcall:=quoted_any mb g cap p w b 34 ⟨#[92,36,96]⟩ (5,f) r fresh hM hl hb
 rw [←quoted_5 b f p r fresh,←hX.out]at hcall
 clear hX
 go_enter Tryz.func222,Tryz.ntmps222
 go_wp2_with fail
 refine hcall.mono ?_
 rintro e w1 ⟨⟨v,rfl⟩,hM1⟩
 go_wp2
 refine bodyPost_end (results_none rfl _ _ _) rfl ?_
 exact⟨⟨_,rfl⟩,hM1⟩
set_option maxHeartbeats 1000000 in
theorem take_6 (b f:Nat) (r:List Fr) (fresh:Bool) (hM:Mc w mb g cap ⟨(6,f)::r,fresh⟩ p) (hl:r.length≤100000) (hb:b<256) (X:Ms) (hX:Hid (X=plainF ((6,f)::r) fresh b p)):
  Calls Tryz.prog 222 #[.pointer (some ⟨mb,0,none⟩),.int .i64 6,.int .u8 b] w fun e w'=>(∃v,e=.returned v)∧McTo w mb g X p w':=by
 have hcall:=quoted_any mb g cap p w b 96 ⟨#[92]⟩ (6,f) r fresh hM hl hb
 rw [←quoted_6 b f p r fresh,←hX.out]at hcall
 clear hX
 go_enter Tryz.func222,Tryz.ntmps222
 go_wp2_with fail
 refine hcall.mono ?_
 rintro e w1 ⟨⟨v,rfl⟩,hM1⟩
 go_wp2
 refine bodyPost_end (results_none rfl _ _ _) rfl ?_
 exact⟨⟨_,rfl⟩,hM1⟩
set_option maxHeartbeats 1000000 in
theorem take_7 (b f:Nat) (r:List Fr) (fresh:Bool) (hM:Mc w mb g cap ⟨(7,f)::r,fresh⟩ p) (hl:r.length≤100000) (hb:b<256) (X:Ms) (hX:Hid (X=plainF ((7,f)::r) fresh b p)):
  Calls Tryz.prog 222 #[.pointer (some ⟨mb,0,none⟩),.int .i64 7,.int .u8 b] w fun e w'=>(∃v,e=.returned v)∧McTo w mb g X p w':=by
 have hcall:=quoted_any mb g cap p w b 125 ⟨#[92,36,96,34,39]⟩ (7,f) r fresh hM hl hb
 rw [←quoted_7 b f p r fresh,←hX.out]at hcall
 clear hX
 go_enter Tryz.func222,Tryz.ntmps222
 go_wp2_with fail
 refine hcall.mono ?_
 rintro e w1 ⟨⟨v,rfl⟩,hM1⟩
 go_wp2
 refine bodyPost_end (results_none rfl _ _ _) rfl ?_
 exact⟨⟨_,rfl⟩,hM1⟩
set_option maxHeartbeats 1000000 in
theorem take_8 (b f:Nat) (r:List Fr) (fresh:Bool) (hM:Mc w mb g cap ⟨(8,f)::r,fresh⟩ p) (hl:r.length≤100000) (hb:b<256) (X:Ms) (hX:Hid (X=plainF ((8,f)::r) fresh b p)):
  Calls Tryz.prog 222 #[.pointer (some ⟨mb,0,none⟩),.int .i64 8,.int .u8 b] w fun e w'=>(∃v,e=.returned v)∧McTo w mb g X p w':=by
 have hcall:=quoted_any mb g cap p w b 125 ⟨#[92,36,96,34]⟩ (8,f) r fresh hM hl hb
 rw [←quoted_8 b f p r fresh,←hX.out]at hcall
 clear hX
 go_enter Tryz.func222,Tryz.ntmps222
 go_wp2_with fail
 refine hcall.mono ?_
 rintro e w1 ⟨⟨v,rfl⟩,hM1⟩
 go_wp2
 refine bodyPost_end (results_none rfl _ _ _) rfl ?_
 exact⟨⟨_,rfl⟩,hM1⟩
set_option maxHeartbeats 1000000 in
theorem take_14 (b f:Nat) (r:List Fr) (hM:Mc w mb g cap ⟨(14,f)::r,true⟩ p) (hl:r.length≤100000) (hb:b<256) (X:Ms) (hX:Hid (X=plainF ((14,f)::r) true b p)):
  Calls Tryz.prog 222 #[.pointer (some ⟨mb,0,none⟩),.int .i64 14,.int .u8 b] w fun e w'=>(∃v,e=.returned v)∧McTo w mb g X p w':=by
 have hcall:=quoted_any mb g cap p w b 10 ⟨#[]⟩ (14,f) r true hM hl hb
 rw [←quoted_14 b f p r true,←hX.out]at hcall
 clear hX
 go_enter Tryz.func222,Tryz.ntmps222
 go_wp2_with fail
 refine hcall.mono ?_
 rintro e w1 ⟨⟨v,rfl⟩,hM1⟩
 go_wp2
 refine bodyPost_end (results_none rfl _ _ _) rfl ?_
 exact⟨⟨_,rfl⟩,hM1⟩
set_option maxHeartbeats 1000000 in
theorem take_0 (b f:Nat) (r:List Fr) (fresh:Bool) (hM:Mc w mb g cap ⟨(0,f)::r,fresh⟩ p) (hl:r.length≤100000) (hb:b<256) (X:Ms) (hX:Hid (X=plainF ((0,f)::r) fresh b p)):
  Calls Tryz.prog 222 #[.pointer (some ⟨mb,0,none⟩),.int .i64 0,.int .u8 b] w fun e w'=>(∃v,e=.returned v)∧McTo w mb g X p w':=by
 have hcall:=plain_any mb g cap p w 0 b f r fresh hM hl hb (by decide) X hX
 clear hX
 go_enter Tryz.func222,Tryz.ntmps222
 go_wp2_with fail
 refine hcall.mono ?_
 rintro e w1 ⟨⟨v,rfl⟩,hM1⟩
 go_wp2
 refine bodyPost_end (results_none rfl _ _ _) rfl ?_
 exact⟨⟨_,rfl⟩,hM1⟩
set_option maxHeartbeats 1000000 in
theorem take_1 (b f:Nat) (r:List Fr) (fresh:Bool) (hM:Mc w mb g cap ⟨(1,f)::r,fresh⟩ p) (hl:r.length≤100000) (hb:b<256) (X:Ms) (hX:Hid (X=plainF ((1,f)::r) fresh b p)):
  Calls Tryz.prog 222 #[.pointer (some ⟨mb,0,none⟩),.int .i64 1,.int .u8 b] w fun e w'=>(∃v,e=.returned v)∧McTo w mb g X p w':=by
 have hcall:=plain_any mb g cap p w 1 b f r fresh hM hl hb (by decide) X hX
 clear hX
 go_enter Tryz.func222,Tryz.ntmps222
 go_wp2_with fail
 refine hcall.mono ?_
 rintro e w1 ⟨⟨v,rfl⟩,hM1⟩
 go_wp2
 refine bodyPost_end (results_none rfl _ _ _) rfl ?_
 exact⟨⟨_,rfl⟩,hM1⟩
set_option maxHeartbeats 1000000 in
theorem take_2 (b f:Nat) (r:List Fr) (fresh:Bool) (hM:Mc w mb g cap ⟨(2,f)::r,fresh⟩ p) (hl:r.length≤100000) (hb:b<256) (X:Ms) (hX:Hid (X=plainF ((2,f)::r) fresh b p)):
  Calls Tryz.prog 222 #[.pointer (some ⟨mb,0,none⟩),.int .i64 2,.int .u8 b] w fun e w'=>(∃v,e=.returned v)∧McTo w mb g X p w':=by
 have hcall:=plain_any mb g cap p w 2 b f r fresh hM hl hb (by decide) X hX
 clear hX
 go_enter Tryz.func222,Tryz.ntmps222
 go_wp2_with fail
 refine hcall.mono ?_
 rintro e w1 ⟨⟨v,rfl⟩,hM1⟩
 go_wp2
 refine bodyPost_end (results_none rfl _ _ _) rfl ?_
 exact⟨⟨_,rfl⟩,hM1⟩
set_option maxHeartbeats 1000000 in
theorem take_9 (b f:Nat) (r:List Fr) (fresh:Bool) (hM:Mc w mb g cap ⟨(9,f)::r,fresh⟩ p) (hl:r.length≤100000) (hb:b<256) (X:Ms) (hX:Hid (X=plainF ((9,f)::r) fresh b p)):
  Calls Tryz.prog 222 #[.pointer (some ⟨mb,0,none⟩),.int .i64 9,.int .u8 b] w fun e w'=>(∃v,e=.returned v)∧McTo w mb g X p w':=by
 have hcall:=arith_any mb g cap p w b 9 f r fresh hM hl hb (by decide)
 rw [←hX.out]at hcall
 clear hX
 go_enter Tryz.func222,Tryz.ntmps222
 go_wp2_with fail
 refine hcall.mono ?_
 rintro e w1 ⟨⟨v,rfl⟩,hM1⟩
 go_wp2
 refine bodyPost_end (results_none rfl _ _ _) rfl ?_
 exact⟨⟨_,rfl⟩,hM1⟩
set_option maxHeartbeats 1000000 in
theorem take_10 (b f:Nat) (r:List Fr) (fresh:Bool) (hM:Mc w mb g cap ⟨(10,f)::r,fresh⟩ p) (hl:r.length≤100000) (hb:b<256) (X:Ms) (hX:Hid (X=plainF ((10,f)::r) fresh b p)):
  Calls Tryz.prog 222 #[.pointer (some ⟨mb,0,none⟩),.int .i64 10,.int .u8 b] w fun e w'=>(∃v,e=.returned v)∧McTo w mb g X p w':=by
 have hcall:=arith_any mb g cap p w b 10 f r fresh hM hl hb (by decide)
 rw [←hX.out]at hcall
 clear hX
 go_enter Tryz.func222,Tryz.ntmps222
 go_wp2_with fail
 refine hcall.mono ?_
 rintro e w1 ⟨⟨v,rfl⟩,hM1⟩
 go_wp2
 refine bodyPost_end (results_none rfl _ _ _) rfl ?_
 exact⟨⟨_,rfl⟩,hM1⟩
set_option maxHeartbeats 1000000 in
theorem take_3 (f:Nat) (r:List Fr) (fresh:Bool) (hM:Mc w mb g cap ⟨(3,f)::r,fresh⟩ p) (hl:r.length≤100000) (b:Nat):
  Calls Tryz.prog 222 #[.pointer (some ⟨mb,0,none⟩),.int .i64 3,.int .u8 b] w fun e w'=>(∃v,e=.returned v)∧McTo w mb g ⟨(9,f)::r,false⟩ p w':=by
 go_enter Tryz.func222,Tryz.ntmps222
 go_wp2_with fail
 refine(turn_any mb g cap p _ 3 f 9 r fresh hM (by omega)).mono ?_
 rintro e w1 ⟨⟨v,rfl⟩,hM1,hF⟩
 have d1:=hM1.obj.cell 1
 have f1:=hM1.obj.frozen 1
 go_wp2
 refine bodyPost_end (results_none rfl _ _ _) rfl ?_
 exact⟨⟨_,rfl⟩,_,_,hM1.fr false,hF.setCell 1 (.inl (.inl rfl)) _,.inl rfl⟩
set_option maxHeartbeats 1000000 in
theorem take_11 (f:Nat) (r:List Fr) (fresh:Bool) (hM:Mc w mb g cap ⟨(11,f)::r,fresh⟩ p) (hl:r.length≤100000) (b:Nat):
  Calls Tryz.prog 222 #[.pointer (some ⟨mb,0,none⟩),.int .i64 11,.int .u8 b] w fun e w'=>(∃v,e=.returned v)∧McTo w mb g ⟨r,fresh⟩ p w':=by
 go_enter Tryz.func222,Tryz.ntmps222
 go_wp2_with fail
 refine(shut_any mb g cap p _ (11,f) r fresh hM (by omega)).mono ?_
 rintro e w1 ⟨⟨v,rfl⟩,hM1,hF⟩
 go_wp2
 refine bodyPost_end (results_none rfl _ _ _) rfl ?_
 exact⟨⟨_,rfl⟩,_,_,hM1,hF,.inl rfl⟩
set_option maxHeartbeats 1000000 in
theorem take_12 (b f:Nat) (r:List Fr) (fresh:Bool) (hM:Mc w mb g cap ⟨(12,f)::r,fresh⟩ p) (hl:r.length≤100000) (hr:r≠ []) (X:Ms)
  (hX:Hid (X=if b=40 then⟨(3,f)::r,true⟩else if b=123 then⟨(brace (top r),f)::r,fresh⟩else⟨r,fresh⟩)):
  Calls Tryz.prog 222 #[.pointer (some ⟨mb,0,none⟩),.int .i64 12,.int .u8 b] w fun e w'=>(∃v,e=.returned v)∧McTo w mb g X p w':=by
 have hcall:=dollar_any mb g cap p w b f r fresh hM hl hr X hX
 clear hX
 go_enter Tryz.func222,Tryz.ntmps222
 go_wp2_with fail
 refine hcall.mono ?_
 rintro e w1 ⟨⟨v,rfl⟩,hM1⟩
 go_wp2
 refine bodyPost_end (results_none rfl _ _ _) rfl ?_
 exact⟨⟨_,rfl⟩,hM1⟩
set_option maxHeartbeats 1000000 in
theorem take_13 (b f:Nat) (r:List Fr) (fresh:Bool) (hM:Mc w mb g cap ⟨(13,f)::r,fresh⟩ p) (hl:r.length≤100000) (X:Ms) (hX:Hid (X=plainF ((13,f)::r) fresh b p)):
  Calls Tryz.prog 222 #[.pointer (some ⟨mb,0,none⟩),.int .i64 13,.int .u8 b] w fun e w'=>(∃v,e=.returned v)∧McTo w mb g X p w':=by
 have hX':X=⟨r,if b=10 then fresh else false⟩:=hX.out
 clear hX
 by_cases h:b=10
 ·rw [if_pos h]at hX'
  subst h
  subst hX'
  cases fresh
  all_goals
   go_enter Tryz.func222,Tryz.ntmps222
   go_wp2_with fail
   refine(shut_any mb g cap p _ (13,f) r _ hM (by omega)).mono ?_
   rintro e w1 ⟨⟨v,rfl⟩,hM1,hF⟩
   have d1:=hM1.obj.cell 1
   have f1:=hM1.obj.frozen 1
   simp at d1
   go_wp2
   refine bodyPost_end (results_none rfl _ _ _) rfl ?_
   exact⟨⟨_,rfl⟩,_,_,hM1.fr _,hF.setCell 1 (.inl (.inl rfl)) _,.inl rfl⟩
 ·rw [if_neg h]at hX'
  have t1:((b:Int)==10)=false:=beq_eq_false_iff_ne.2 (by omega)
  subst hX'
  cases fresh
  all_goals
   go_enter Tryz.func222,Tryz.ntmps222
   go_wp2_with fail
   refine(shut_any mb g cap p _ (13,f) r _ hM (by omega)).mono ?_
   rintro e w1 ⟨⟨v,rfl⟩,hM1,hF⟩
   have d1:=hM1.obj.cell 1
   have f1:=hM1.obj.frozen 1
   simp at d1
   go_wp2
   refine bodyPost_end (results_none rfl _ _ _) rfl ?_
   exact⟨⟨_,rfl⟩,_,_,hM1.fr _,hF.setCell 1 (.inl (.inl rfl)) _,.inl rfl⟩
def takes (m b:Nat):Prop:=(m=11→b=41)∧(m=3→b=40)∧(m=12→b=40∨b=123∨b=36)
theorem take_any (m b f:Nat) (r:List Fr) (fresh:Bool) (hM:Mc w mb g cap ⟨(m,f)::r,fresh⟩ p) (hI:Inv ⟨(m,f)::r,fresh⟩) (hl:r.length≤100000) (hb:b<256) (ht:takes m b) (X:Ms) (hX:Hid (X=feed ⟨(m,f)::r,fresh⟩ b p)):
  Calls Tryz.prog 222 #[.pointer (some ⟨mb,0,none⟩),.int .i64 m,.int .u8 b] w fun e w'=>(∃v,e=.returned v)∧McTo w mb g X p w':=by
 have hle:=good_le hI.good
 obtain⟨t11,t3,t12⟩:=ht
 have hp:m≠3→m≠11→m≠12→Hid (X=plainF ((m,f)::r) fresh b p):=fun a c d=>by
  have:=hX.out
  rw [feed_plain a c d]at this
  exact Lib.hid this
 by_cases h3:m=3
 ·subst h3
  obtain rfl:=t3 rfl
  have e:X=⟨(9,f)::r,false⟩:=hX.out
  rw [e]
  exact take_3 mb g cap p w f r fresh hM hl 40
 by_cases h11:m=11
 ·subst h11
  obtain rfl:=t11 rfl
  have e:X=⟨r,fresh⟩:=hX.out
  rw [e]
  exact take_11 mb g cap p w f r fresh hM hl 41
 by_cases h12:m=12
 ·subst h12
  have hr:r≠ []:=by
   intro e
   subst e
   exact absurd hI.good (by simp [good])
  refine take_12 mb g cap p w b f r fresh hM hl hr X (Lib.hid ?_)
  rw [hX.out]
  rcases t12 rfl with rfl|rfl|rfl<;>rfl
 have hq:=hp h3 h11 h12
 clear hp t11 t3 t12 hX
 by_cases h14:m=14
 ·subst h14
  obtain rfl:fresh=true:=hI.fr.1 rfl
  exact take_14 mb g cap p w b f r hM hl hb X hq
 by_cases h13:m=13
 ·subst h13
  exact take_13 mb g cap p w b f r fresh hM hl X hq
 by_cases e0:m=0
 ·subst e0
  exact take_0 mb g cap p w b f r fresh hM hl hb X hq
 by_cases e1:m=1
 ·subst e1
  exact take_1 mb g cap p w b f r fresh hM hl hb X hq
 by_cases e2:m=2
 ·subst e2
  exact take_2 mb g cap p w b f r fresh hM hl hb X hq
 by_cases e4:m=4
 ·subst e4
  exact take_4 mb g cap p w b f r fresh hM hl hb X hq
 by_cases e5:m=5
 ·subst e5
  exact take_5 mb g cap p w b f r fresh hM hl hb X hq
 by_cases e6:m=6
 ·subst e6
  exact take_6 mb g cap p w b f r fresh hM hl hb X hq
 by_cases e7:m=7
 ·subst e7
  exact take_7 mb g cap p w b f r fresh hM hl hb X hq
 by_cases e8:m=8
 ·subst e8
  exact take_8 mb g cap p w b f r fresh hM hl hb X hq
 by_cases e9:m=9
 ·subst e9
  exact take_9 mb g cap p w b f r fresh hM hl hb X hq
 by_cases e10:m=10
 ·subst e10
  exact take_10 mb g cap p w b f r fresh hM hl hb X hq
 omega
end
theorem Mc.drn {w:World} {mb g cap:Nat} {x:Ms} {n:Nat} (h:Mc w mb g cap x n) (k:Nat):Mc (w.drewN k) mb g cap x n:=h.frm ((Frm.refl (fun _=>False) w).drewN k) (fun h=>h) (fun h=>h)
def passOn (st:List Fr):List Fr:=
 match st with
 | []=> []
 |(m,f)::r=>if m=12 then r else if m=3 then(1,f)::r else(9,f)::r
theorem pass_on {m f:Nat} {r:List Fr} {fresh:Bool} {b p:Nat} (hI:Inv ⟨(m,f)::r,fresh⟩) (hn:¬takes m b):
  ∃m2 f2 r2,passOn ((m,f)::r)=(m2,f2)::r2∧Inv ⟨(m2,f2)::r2,fresh⟩∧feed ⟨(m2,f2)::r2,fresh⟩ b p=feed ⟨(m,f)::r,fresh⟩ b p∧m2≠3∧m2≠11∧m2≠12∧r2.length≤r.length:=by
 have hm:m=12∨m=3∨m=11:=by
  unfold takes at hn
  omega
 have hg:=hI.good
 have hf:=hI.fr
 have hnf:m=12∨m=11→fresh=false:=by
  intro h
  rw [Bool.eq_false_iff]
  intro e
  have h2:=hf.2 e
  rcases h with rfl|rfl<;>simp [isProg,top]at h2
 rcases hm with rfl|rfl|rfl
 ·have hb:b≠40∧b≠123∧b≠36:=by unfold takes at hn;omega
  obtain rfl:=hnf (.inl rfl)
  obtain⟨m2,f2,r2,rfl,h1,h2⟩:=good_more hg (by omega)
  have hB:=over_base h1
  unfold base at hB
  rw [decide_eq_true_iff]at hB
  refine⟨m2,f2,r2,rfl,⟨h2,⟨fun e=>?_,fun e=>by simp at e⟩⟩,?_,hB.1,hB.2.2.1,hB.2.2.2.1,by simp⟩
  ·have e':m2=14:=e;omega
  ·rw [feed_plain hB.1 hB.2.2.1 hB.2.2.2.1]
   unfold feed
   simp [hb]
 ·have hb:b≠40:=by unfold takes at hn;omega
  refine⟨1,f,r,rfl,⟨good_turn hg (by omega) 1 (by decide) f,⟨fun e=>by simp [top]at e,fun e=> .inl rfl⟩⟩,?_,by decide,by decide,by decide,Nat.le_refl _⟩
  unfold feed
  simp [hb]
 ·have hb:b≠41:=by unfold takes at hn;omega
  obtain rfl:=hnf (.inr rfl)
  refine⟨9,f,r,rfl,⟨good_turn hg (by omega) 9 (by decide) f,⟨fun e=>by simp [top]at e,fun e=>by simp at e⟩⟩,?_,by decide,by decide,by decide,Nat.le_refl _⟩
  unfold feed
  simp [hb]
section
variable (mb g cap p:Nat) (w:World)
def FdRel (b:Nat) (X:Ms) (k:Nat) (wr:World):Prop:=
 ∃g' cap' m f r fresh,Mc wr mb g' cap' ⟨(m,f)::r,fresh⟩ p∧Frm (mfoot mb g) w wr∧(g'=g∨w.heap.size≤g')∧Inv ⟨(m,f)::r,fresh⟩∧r.length≤100000∧Hid (X=feed ⟨(m,f)::r,fresh⟩ b p)∧(k=0→m≠3∧m≠11∧m≠12)
theorem in_open (b:Nat):inB b ⟨#[40,123,36]⟩=decide (b=40∨b=123∨b=36):=by
 rw [Bool.eq_iff_iff,decide_eq_true_iff]
 simp [inB]
set_option maxRecDepth 100000 in
set_option maxHeartbeats 4000000 in
theorem feed_any (b:Nat) (x:Ms) (hM:Mc w mb g cap x p) (hI:Inv x) (hl:x.st.length≤100000) (hb:b<256) (hp:p≤1000000) (X:Ms) (hX:Hid (X=feed x b p)):
  Calls Tryz.prog 193 #[.pointer (some ⟨mb,0,none⟩),.int .u8 b] w fun e w'=>(∃v,e=.returned v)∧McTo w mb g X (p+1) w':=by
 have HO:=Lib.hid (in_open b)
 go_enter Tryz.func193,Tryz.ntmps193
 go_wp2
 go_step3
 go_wp2
 go_step3
 go_wp2
 go_loopg [4] 1 (fun k v wr=>FdRel mb g p w b X k wr)
 case atStart=>
  obtain⟨st,fresh⟩:=x
  cases st with
  |nil=>exact absurd hI.good (by simp [good])
  |cons a r=>
   simp at hl
   exact⟨g,cap,a.1,a.2,r,fresh,hM,Frm.refl _ _,.inl rfl,hI,by omega,hX,fun h=>by omega⟩
 case round=>
  obtain⟨g',cap',m,f,r,fresh,hMr,hF,hg,hIr,hlr,hXr,hk⟩:=hrel
  clear hM hI hl hX
  have HI:=Lib.hid hIr
  clear hIr
  go_wp2_with fail
  refine(mode_any mb g' cap' p _ m f r fresh hMr (by omega)).mono ?_
  rintro e w1 ⟨rfl,q,rfl⟩
  by_cases ht:takes m b
  ·clear hk
   by_cases h11:m=11
   ·subst h11
    obtain rfl:=ht.1 rfl
    go_wp2_with fail
    refine(take_any mb g' cap' p _ 11 41 f r fresh (hMr.drn q) HI.out hlr (by decide) ht X hXr).mono ?_
    rintro e w2 ⟨⟨v,rfl⟩,hT⟩
    have hTT:=McTo.trans (x:=X) (p:=p) (hF.drewN q) hg hT
    obtain⟨g2,cap2,hM2,hF2,hg2⟩:=hT
    have d2:=hM2.obj.cell 2
    have df:=hM2.obj.frozen 2
    simp at d2
    have e1:IntKind.i64.wrap ((p:Int)+1)=((p+1:Nat):Int):=by rw [IntWalk.i64_in _ (by omega)];omega
    go_wp2
    rw [Exit.noGoto_normal]
    refine bodyPost_end (results_none rfl _ _ _) rfl ?_
    exact⟨⟨_,rfl⟩,hTT.at (p+1)⟩
   by_cases h3:m=3
   ·subst h3
    obtain rfl:=ht.2.1 rfl
    go_wp2_with fail
    refine(take_any mb g' cap' p _ 3 40 f r fresh (hMr.drn q) HI.out hlr (by decide) ht X hXr).mono ?_
    rintro e w2 ⟨⟨v,rfl⟩,hT⟩
    have hTT:=McTo.trans (x:=X) (p:=p) (hF.drewN q) hg hT
    obtain⟨g2,cap2,hM2,hF2,hg2⟩:=hT
    have d2:=hM2.obj.cell 2
    have df:=hM2.obj.frozen 2
    simp at d2
    have e1:IntKind.i64.wrap ((p:Int)+1)=((p+1:Nat):Int):=by rw [IntWalk.i64_in _ (by omega)];omega
    go_wp2
    rw [Exit.noGoto_normal]
    refine bodyPost_end (results_none rfl _ _ _) rfl ?_
    exact⟨⟨_,rfl⟩,hTT.at (p+1)⟩
   by_cases h12:m=12
   ·subst h12
    have hin:inB b ⟨#[40,123,36]⟩=true:=by rw [HO.out,decide_eq_true_iff];exact ht.2.2 rfl
    have HT:=Lib.hid ht
    clear ht
    go_wp2_with fail
    refine(index_inB _ _ hb _).mono ?_
    rintro e w1 ⟨⟨x,rfl,hx⟩,rfl⟩
    rw [hin]at hx
    have hx0:¬x<0:=by have:=of_decide_eq_true hx;omega
    have hx1:decide (x<0)=false:=decide_eq_false_iff_not.2 hx0
    clear hin
    go_wp2_with fail
    refine(take_any mb g' cap' p _ 12 b f r fresh (hMr.drn q) HI.out hlr hb HT.out X hXr).mono ?_
    rintro e w2 ⟨⟨v,rfl⟩,hT⟩
    have hTT:=McTo.trans (x:=X) (p:=p) (hF.drewN q) hg hT
    obtain⟨g2,cap2,hM2,hF2,hg2⟩:=hT
    have d2:=hM2.obj.cell 2
    have df:=hM2.obj.frozen 2
    simp at d2
    have e1:IntKind.i64.wrap ((p:Int)+1)=((p+1:Nat):Int):=by rw [IntWalk.i64_in _ (by omega)];omega
    go_wp2
    rw [Exit.noGoto_normal]
    refine bodyPost_end (results_none rfl _ _ _) rfl ?_
    exact⟨⟨_,rfl⟩,hTT.at (p+1)⟩
   have t11:((m:Int)==11)=false:=beq_eq_false_iff_ne.2 (by omega)
   have t3:((m:Int)==3)=false:=beq_eq_false_iff_ne.2 (by omega)
   have t12:((m:Int)==12)=false:=beq_eq_false_iff_ne.2 (by omega)
   have HT:=Lib.hid ht
   clear ht h11 h3 h12
   go_wp2_with fail
   refine(take_any mb g' cap' p _ m b f r fresh (hMr.drn q) HI.out hlr hb HT.out X hXr).mono ?_
   rintro e w2 ⟨⟨v,rfl⟩,hT⟩
   have hTT:=McTo.trans (x:=X) (p:=p) (hF.drewN q) hg hT
   obtain⟨g2,cap2,hM2,hF2,hg2⟩:=hT
   have d2:=hM2.obj.cell 2
   have df:=hM2.obj.frozen 2
   simp at d2
   have e1:IntKind.i64.wrap ((p:Int)+1)=((p+1:Nat):Int):=by rw [IntWalk.i64_in _ (by omega)];omega
   go_wp2
   rw [Exit.noGoto_normal]
   refine bodyPost_end (results_none rfl _ _ _) rfl ?_
   exact⟨⟨_,rfl⟩,hTT.at (p+1)⟩
  ·obtain⟨m2,f2,r2,hpo,hI2,hfe,hn1,hn2,hn3,hr2⟩:=pass_on (p:=p) HI.out ht
   have hk1:gk≠0:=fun e=>by
    have:=hk e
    unfold takes at ht
    omega
   have hm:(m=12∧b≠40∧b≠123∧b≠36)∨(m=3∧b≠40)∨(m=11∧b≠41):=by
    unfold takes at ht
    omega
   have HK:Hid (X=feed ⟨(m2,f2)::r2,fresh⟩ b p∧Inv ⟨(m2,f2)::r2,fresh⟩∧(m2≠3∧m2≠11∧m2≠12)∧r2.length≤100000):=Lib.hid ⟨hXr.out.trans hfe.symm,hI2,⟨hn1,hn2,hn3⟩,by omega⟩
   clear ht hk hI2 hfe hn1 hn2 hn3 hr2 hXr HI
   rcases hm with⟨rfl,b1,b2,b3⟩|⟨rfl,b1⟩|⟨rfl,b1⟩
   ·have e:r=(m2,f2)::r2:=hpo
    clear hpo
    have hin:inB b ⟨#[40,123,36]⟩=false:=by rw [HO.out,decide_eq_false_iff_not];omega
    go_wp2_with fail
    refine(index_inB _ _ hb _).mono ?_
    rintro e w1 ⟨⟨x,rfl,hx⟩,rfl⟩
    rw [hin]at hx
    have hx0:x<0:=by have:=of_decide_eq_false hx;omega
    have hx1:decide (x<0)=true:=decide_eq_true_iff.2 hx0
    clear hin
    subst e
    go_wp2_with fail
    refine(shut_any mb g' cap' p _ (12,f) ((m2,f2)::r2) fresh (hMr.drn q) (by omega)).mono ?_
    rintro e w2 ⟨⟨v,rfl⟩,hM2,hF2⟩
    go_wp2
    go_roundg 0
    case measure=>omega
    case rel=>exact⟨g',cap',m2,f2,r2,fresh,hM2,(hF.drewN q).trans hF2 (fun i hi hh=>by
      rcases hh with hh|hh
      ·exact .inl hh
      ·rcases hg with hg|hg
       ·exact .inr (hh.trans hg)
       ·omega),hg,HK.out.2.1,HK.out.2.2.2,Lib.hid HK.out.1,fun _=>HK.out.2.2.1⟩
   ·obtain⟨⟨rfl,rfl⟩,rfl⟩:(1=m2∧f=f2)∧r=r2:=by simpa [passOn]using hpo
    clear hpo
    go_wp2_with fail
    refine(turn_any mb g' cap' p _ 3 f 1 r fresh (hMr.drn q) (by omega)).mono ?_
    rintro e w2 ⟨⟨v,rfl⟩,hM2,hF2⟩
    go_wp2
    go_roundg 0
    case measure=>omega
    case rel=>exact⟨g',cap',1,f,r,fresh,hM2,(hF.drewN q).trans hF2 (fun i hi hh=>by
      rcases hh with hh|hh
      ·exact .inl hh
      ·rcases hg with hg|hg
       ·exact .inr (hh.trans hg)
       ·omega),hg,HK.out.2.1,HK.out.2.2.2,Lib.hid HK.out.1,fun _=>HK.out.2.2.1⟩
   ·obtain⟨⟨rfl,rfl⟩,rfl⟩:(9=m2∧f=f2)∧r=r2:=by simpa [passOn]using hpo
    clear hpo
    go_wp2_with fail
    refine(turn_any mb g' cap' p _ 11 f 9 r fresh (hMr.drn q) (by omega)).mono ?_
    rintro e w2 ⟨⟨v,rfl⟩,hM2,hF2⟩
    go_wp2
    go_roundg 0
    case measure=>omega
    case rel=>exact⟨g',cap',9,f,r,fresh,hM2,(hF.drewN q).trans hF2 (fun i hi hh=>by
      rcases hh with hh|hh
      ·exact .inl hh
      ·rcases hg with hg|hg
       ·exact .inr (hh.trans hg)
       ·omega),hg,HK.out.2.1,HK.out.2.2.2,Lib.hid HK.out.1,fun _=>HK.out.2.2.1⟩
end
end Go.Proofs.YtkolpaonccmgiaaGreatDoor

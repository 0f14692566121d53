/- What the document's own begin, or, one and many of -/
import Derived.Test.YtkolpaonccmgiaaGreatDoorSi
import Derived.Test.YtkolpaonccmgiaaGreatDoorRuCc
set_option linter.unusedVariables false
namespace Go.Proofs.YtkolpaonccmgiaaGreatDoor.Q
set_option linter.unusedSectionVars false
set_option linter.unusedVariables false
open Go.RowKit
def PlR (w:World) (v:Value) (m:Nat) (f:Nat→Bool):Prop:=∃b c,v=.slice (some ⟨b,0,none⟩) m c∧b<w.heap.size∧∀i,i<m→w.cell? ⟨b,i,none⟩=some (.bool (f i))
theorem PlR.below {w w':World} {v:Value} {m:Nat} {f:Nat→Bool} (h:PlR w v m f) (hb:Below w.heap.size w w'):PlR w' v m f:=by
 obtain⟨b,c,h1,h2,h3⟩:=h
 exact⟨b,c,h1,Nat.lt_of_lt_of_le h2 hb.size,fun i hi=>(hb.cell (p:=⟨b,i,none⟩) h2).trans (h3 i hi)⟩
theorem infoBo:(Tryz.prog.info? 4).map (fun i=>(i.zero,i.size,i.bytes))=some (some (.bool false),1,1):=by kernel_rfl
theorem made_bool (m:Nat):madeCells (Value.bool false).cells m=Array.replicate m (.bool false):=by
 apply Array.ext
 ·simp [madeCells]
 ·intro i h1 h2
  simp [madeCells,Value.cells,Nat.mod_one]
theorem mk_places (w:World) (m:Nat) (hm:m≤1000000):(Instr.makeSlice 93 (.int .i64 (m:Int)) (.int .i64 (m:Int))).run Tryz.prog w=.ok (.slice (some ⟨w.heap.size,0,none⟩) m m) (w.alloc (.cells (Array.replicate m (.bool false)) 4)):=by
 obtain⟨i,hi,hz,hs,hby⟩:=info_parts infoBo
 have h:=run_make (P:=Tryz.prog) w 93 4 i (.bool false) Tryz.underlying93 hi hz .i64 .i64 (m:Int) (m:Int) (by omega) (Int.le_refl _) (by rw [hby];omega) (by omega)
 rw [hs,Int.toNat_natCast,Nat.mul_one,made_bool]at h
 exact h
def fls (_:Nat):Bool:=false
def FilR (w:World) (m B k:Nat) (d f:Nat→Bool) (wr:World):Prop:=(∃cs:Array Value,Blk wr B cs 4∧cs.size=m∧(∀j,j<m→cs[j]?=some (.bool (if j<k then f j else d j))))∧Below w.heap.size w wr
theorem FilR.start {w:World} {m:Nat} {f:Nat→Bool} (h0:m=0∨True):FilR w m w.heap.size 0 fls f (w.alloc (.cells (Array.replicate m (.bool false)) 4)):=
 ⟨⟨_,Blk.new w _ _,by simp,fun j hj=>by simp [hj,fls]⟩,(Below.refl _ _).alloc (Nat.le_refl _) _⟩
theorem FilR.step {w wr:World} {m B k:Nat} {d f:Nat→Bool} {b:Bool} (h:FilR w m B k d f wr) (hB:w.heap.size≤B) (hk:k<m) (hf:f k=b):FilR w m B (k+1) d f (wr.setCell ⟨B,k,none⟩ (.bool b)):=by
 obtain⟨⟨cs,h1,h2,h3⟩,hb⟩:=h
 refine⟨⟨_,h1.set k (.bool b),by simp [h2],fun j hj=>?_⟩,hb.setCell (p:=⟨B,k,none⟩) hB _⟩
 rw [Array.getElem?_setIfInBounds]
 by_cases g:k=j
 ·subst g
  rw [if_pos rfl,if_pos (by omega),if_pos (by omega),hf]
 ·rw [if_neg g,h3 j hj]
  by_cases g2:j<k
  ·rw [if_pos g2,if_pos (by omega)]
  ·rw [if_neg g2,if_neg (by omega)]
theorem FilR.drew {w wr:World} {m B k:Nat} {d f:Nat→Bool} (h:FilR w m B k d f wr) (n:Nat):FilR w m B k d f (wr.drewN n):=⟨by obtain⟨cs,h1,h2⟩:=h.1;exact⟨cs,h1.drewN n,h2⟩,belN h.2 n⟩
theorem FilR.cell {w wr:World} {m B k:Nat} {d f:Nat→Bool} (h:FilR w m B k d f wr) {j:Nat} (hj:j<m):wr.cell? ⟨B,j,none⟩=some (.bool (if j<k then f j else d j))∧wr.frozen? ⟨B,j,none⟩=false:=by
 obtain⟨⟨cs,h1,h2,h3⟩,hb⟩:=h
 exact⟨(h1.cell j).trans (h3 j hj),h1.frozen j⟩
theorem FilR.done {w wr:World} {m B k:Nat} {d f:Nat→Bool} (h:FilR w m B k d f wr) (hk:m≤k):PlR wr (.slice (some ⟨B,0,none⟩) m m) m f:=by
 obtain⟨⟨cs,h1,h2,h3⟩,hb⟩:=h
 refine⟨B,m,rfl,h1.lt,fun i hi=>?_⟩
 rw [h1.cell i,h3 i hi,if_pos (by omega)]
section
variable (w:World)
set_option maxRecDepth 100000 in
set_option maxHeartbeats 2000000 in
theorem or_own (x y:Value) (m:Nat) (f g:Nat→Bool) (hx:PlR w x m f) (hy:PlR w y m g) (hm:m≤1000000):
  Calls Tryz.prog 84 #[x,y] w fun e w'=>e=.returned (.slice (some ⟨w.heap.size,0,none⟩) m m)∧FilR w m w.heap.size m fls (orF f g) w':=by
 obtain⟨bx,cx,rfl,hbx,hcx⟩:=hx
 obtain⟨by',cy,rfl,hby,hcy⟩:=hy
 have HX:=Lib.hid hcx
 have HY:=Lib.hid hcy
 have hmk:=mk_places w m hm
 have HST:=Lib.hid (FilR.start (w:=w) (m:=m) (f:=orF f g) (.inr trivial))
 clear hcx hcy
 go_enter Tryz.func84,Tryz.ntmps84
 go_wp2
 go_loopw [6] (fun v6 wr=>∃i:Nat,i≤m∧v6=.int .i64 (i:Int)∧FilR w m w.heap.size i fls (orF f g) wr) (fun v6 _=>m - (intOf v6).toNat)
 case atStart=>exact⟨0,Nat.zero_le _,rfl,HST.out⟩
 case round=>
  obtain⟨i,hi,rfl,hF⟩:=hrel
  have HF:=Lib.hid hF
  clear hF hmk
  by_cases hlt:i<m
  ·have q0:(0:Int)≤(i:Int):=by omega
   have q1:(i:Int)<(m:Int):=by omega
   have e1:IntKind.i64.wrap ((i:Int)+1)=((i+1:Nat):Int):=by rw [IntWalk.i64_in _ (by omega)];rfl
   have k1:=(HF.out.2.cell (p:=⟨bx,i,none⟩) hbx).trans (HX.out i hlt)
   have k2:=(HF.out.2.cell (p:=⟨by',i,none⟩) hby).trans (HY.out i hlt)
   obtain⟨k3,k4⟩:=HF.out.cell hlt
   obtain⟨b1,hb1⟩:∃b,f i=b:=⟨_,rfl⟩
   obtain⟨b2,hb2⟩:∃b,g i=b:=⟨_,rfl⟩
   rw [hb1]at k1
   rw [hb2]at k2
   have HS:=Lib.hid (HF.out.step (b:=b1||b2) (Nat.le_refl _) hlt (by unfold orF;rw [hb1,hb2]))
   clear hb1 hb2
   have HE1:=Lib.hid e1
   clear e1
   cases b1
   ·go_wp2
    refine⟨⟨i+1,by omega,by go_num,HS.out⟩,by simp [intOf];omega⟩
   ·go_wp2
    refine⟨⟨i+1,by omega,by go_num,HS.out⟩,by simp [intOf];omega⟩
  ·obtain rfl:i=m:=by omega
   go_wp2
   go_ret
   exact⟨rfl,HF.out⟩
theorem or_any (x y:Value) (m:Nat) (f g:Nat→Bool) (hx:PlR w x m f) (hy:PlR w y m g) (hm:m≤1000000):
  Calls Tryz.prog 84 #[x,y] w fun e w'=>∃v,e=.returned v∧PlR w' v m (orF f g)∧Below w.heap.size w w':=
 (or_own w x y m f g hx hy hm).mono fun e w' ⟨h1,h2⟩=>⟨_,h1,h2.done (Nat.le_refl _),h2.2⟩
set_option maxRecDepth 100000 in
set_option maxHeartbeats 2000000 in
theorem begin_p_any (row:ByteArray) (hm:row.size≤100000):
  Calls Tryz.prog 82 #[.string row] w fun e w'=>∃v,e=.returned v∧PlR w' v (row.size+1) begF∧Below w.heap.size w w':=by
 have hmk:(Instr.makeSlice 93 (.int .i64 ((row.size:Int)+1)) (.int .i64 ((row.size:Int)+1))).run Tryz.prog w=.ok (.slice (some ⟨w.heap.size,0,none⟩) (row.size+1) (row.size+1)) (w.alloc (.cells (Array.replicate (row.size+1) (.bool false)) 4)):=mk_places w (row.size+1) (by omega)
 have HST:=Lib.hid (FilR.start (w:=w) (m:=row.size+1) (f:=begF) (.inr trivial))
 obtain⟨k1,k2⟩:=HST.out.cell (j:=0) (by omega)
 have e1:IntKind.i64.wrap ((row.size:Int)+1)=(row.size:Int)+1:=IntWalk.i64_in _ (by omega)
 have q1:(0:Int)<(row.size:Int)+1:=by omega
 go_enter Tryz.func82,Tryz.ntmps82
 go_wp2
 go_ret
 refine⟨_,rfl,⟨w.heap.size,_,rfl,(Blk.new w _ _).lt,fun i hi=>?_⟩,(Below.refl _ _).alloc (Nat.le_refl _) _⟩
 rw [(Blk.new w _ _).cell i,Array.getElem?_setIfInBounds]
 cases i with
 |zero=>simp [begF]
 |succ i=>simp [begF,hi]
set_option maxRecDepth 100000 in
set_option maxHeartbeats 2000000 in
theorem pone_any (row cs:ByteArray) (x:Value) (f:Nat→Bool) (hx:PlR w x (row.size+1) f) (hm:row.size≤100000) (hcs:cs.size≤1000000):
  Calls Tryz.prog 85 #[.string row,x,.string cs] w fun e w'=>∃v,e=.returned v∧PlR w' v (row.size+1) (oneF row f cs)∧Below w.heap.size w w':=by
 obtain⟨bx,cx,rfl,hbx,hcx⟩:=hx
 have HX:=Lib.hid hcx
 have hmk:(Instr.makeSlice 93 (.int .i64 ((row.size:Int)+1)) (.int .i64 ((row.size:Int)+1))).run Tryz.prog w=.ok (.slice (some ⟨w.heap.size,0,none⟩) (row.size+1) (row.size+1)) (w.alloc (.cells (Array.replicate (row.size+1) (.bool false)) 4)):=mk_places w (row.size+1) (by omega)
 have HIN:=Lib.hid (fun c W=>in_any c cs W hcs)
 have HST:=Lib.hid (FilR.start (w:=w) (m:=row.size+1) (f:=oneF row f cs) (.inr trivial))
 have HF1:=Lib.hid (show FilR w (row.size+1) w.heap.size 1 fls (oneF row f cs) (w.alloc (.cells (Array.replicate (row.size+1) (.bool false)) 4))from⟨by
  obtain⟨cs',h1,h2,h3⟩:=HST.out.1
  refine⟨cs',h1,h2,fun j hj=>?_⟩
  rw [h3 j hj]
  by_cases g:j<1
  ·obtain rfl:j=0:=by omega
   rfl
  ·rw [if_neg (by omega),if_neg g],HST.out.2⟩)
 clear hcx
 go_enter Tryz.func85,Tryz.ntmps85
 go_wp2
 go_loopw [8] (fun v8 wr=>∃i:Nat,i≤row.size∧v8=.int .i64 (i:Int)∧FilR w (row.size+1) w.heap.size (i+1) fls (oneF row f cs) wr) (fun v8 _=>row.size - (intOf v8).toNat)
 case atStart=>exact⟨0,Nat.zero_le _,rfl,HF1.out⟩
 case round=>
  obtain⟨i,hi,rfl,hF⟩:=hrel
  have HF:=Lib.hid hF
  clear hF hmk
  by_cases hlt:i<row.size
  ·have q0:(0:Int)≤(i:Int):=by omega
   have q1:(i:Int)<(row.size:Int):=by omega
   have q2:(i:Int)<(row.size:Int)+1:=by omega
   have q3:(i:Int)+1<(row.size:Int)+1:=by omega
   have q4:(0:Int)≤(i:Int)+1:=by omega
   have e1:IntKind.i64.wrap ((i:Int)+1)=(i:Int)+1:=IntWalk.i64_in _ (by omega)
   have k1:=(HF.out.2.cell (p:=⟨bx,i,none⟩) hbx).trans (HX.out i (by omega))
   obtain⟨k3,k4⟩:=HF.out.cell (j:=i+1) (by omega)
   obtain⟨b1,hb1⟩:∃b,f i=b:=⟨_,rfl⟩
   obtain⟨b2,hb2⟩:∃b,inB (bt row i).toNat cs=b:=⟨_,rfl⟩
   rw [hb1]at k1
   have HS:=Lib.hid (HF.out.step (b:=b1 && b2) (Nat.le_refl _) (by omega) (by show(f i && inB (bt row i).toNat cs)=_;rw [hb1,hb2]))
   rw [bt_eq hlt]at hb2
   have HI:=Lib.hid (hb2▸HIN.out row[i].toNat wr)
   clear hb1 hb2
   cases b1
   ·go_wp2
    refine⟨⟨i+1,by omega,by go_num,HS.out⟩,by simp [intOf];omega⟩
   ·go_wp2_with fail
    refine HI.out.mono ?_
    rintro e w2 ⟨rfl,rfl⟩
    go_wp2
    refine⟨⟨i+1,by omega,by go_num,HS.out⟩,by simp [intOf];omega⟩
  ·obtain rfl:i=row.size:=by omega
   go_wp2
   go_ret
   exact⟨_,rfl,HF.out.done (Nat.le_refl _),HF.out.2⟩
set_option maxRecDepth 100000 in
set_option maxHeartbeats 2000000 in
theorem many_any (row cs:ByteArray) (x:Value) (f:Nat→Bool) (hx:PlR w x (row.size+1) f) (hm:row.size≤100000) (hcs:cs.size≤1000000):
  Calls Tryz.prog 83 #[.string row,x,.string cs] w fun e w'=>∃v,e=.returned v∧PlR w' v (row.size+1) (manyF row f cs)∧Below w.heap.size w w':=by
 have HIN:=Lib.hid (fun c W=>in_any c cs W hcs)
 have HOR:=Lib.hid (or_own w x x (row.size+1) f f hx hx (by omega))
 go_enter Tryz.func83,Tryz.ntmps83
 go_wp2_with fail
 refine HOR.out.mono ?_
 rintro e w1 ⟨rfl,hf1⟩
 have HF1:=Lib.hid (show FilR w (row.size+1) w.heap.size 1 f (manyF row f cs) w1 from⟨by
  obtain⟨cs',h1,h2,h3⟩:=hf1.1
  refine⟨cs',h1,h2,fun j hj=>?_⟩
  rw [h3 j hj,if_pos hj]
  unfold orF
  rw [Bool.or_self]
  by_cases g:j<1
  ·obtain rfl:j=0:=by omega
   rfl
  ·rw [if_neg g],hf1.2⟩)
 clear hf1 HOR
 go_wp2
 go_loopw [8] (fun v8 wr=>∃i:Nat,i≤row.size∧v8=.int .i64 (i:Int)∧FilR w (row.size+1) w.heap.size (i+1) f (manyF row f cs) wr) (fun v8 _=>row.size - (intOf v8).toNat)
 case atStart=>exact⟨0,Nat.zero_le _,rfl,HF1.out⟩
 case round=>
  obtain⟨i,hi,rfl,hF⟩:=hrel
  have HF:=Lib.hid hF
  clear hF
  by_cases hlt:i<row.size
  ·have q0:(0:Int)≤(i:Int):=by omega
   have q1:(i:Int)<(row.size:Int):=by omega
   have q2:(i:Int)<(row.size:Int)+1:=by omega
   have q3:(i:Int)+1<(row.size:Int)+1:=by omega
   have q4:(0:Int)≤(i:Int)+1:=by omega
   have e1:IntKind.i64.wrap ((i:Int)+1)=(i:Int)+1:=IntWalk.i64_in _ (by omega)
   have k1:=(HF.out.cell (j:=i) (by omega)).1
   obtain⟨k3,k4⟩:=HF.out.cell (j:=i+1) (by omega)
   rw [if_pos (by omega)]at k1
   rw [if_neg (by omega)]at k3
   obtain⟨b1,hb1⟩:∃b,f (i+1)=b:=⟨_,rfl⟩
   obtain⟨b3,hb3⟩:∃b,manyF row f cs i=b:=⟨_,rfl⟩
   obtain⟨b2,hb2⟩:∃b,inB (bt row i).toNat cs=b:=⟨_,rfl⟩
   have HS:=Lib.hid (HF.out.step (b:=b1||(b3 && b2)) (Nat.le_refl _) (by omega) (by show(f (i+1)||(manyF row f cs i && inB (bt row i).toNat cs))=_;rw [hb1,hb2,hb3]))
   rw [hb1]at k3
   rw [hb3]at k1
   rw [bt_eq hlt]at hb2
   have HI:=Lib.hid (hb2▸HIN.out row[i].toNat wr)
   clear hb1 hb2 hb3
   cases b1
   ·cases b3
    ·go_wp2
     refine⟨⟨i+1,by omega,by go_num,HS.out⟩,by simp [intOf];omega⟩
    ·go_wp2_with fail
     refine HI.out.mono ?_
     rintro e w2 ⟨rfl,rfl⟩
     go_wp2
     refine⟨⟨i+1,by omega,by go_num,HS.out⟩,by simp [intOf];omega⟩
   ·go_wp2
    refine⟨⟨i+1,by omega,by go_num,HS.out⟩,by simp [intOf];omega⟩
  ·obtain rfl:i=row.size:=by omega
   go_wp2
   go_ret
   exact⟨_,rfl,HF.out.done (Nat.le_refl _),HF.out.2⟩
end
section
variable (w:World)
set_option maxRecDepth 100000 in
set_option maxHeartbeats 4000000 in
theorem plist_any (row:ByteArray) (x:Value) (f:Nat→Bool) (hx:PlR w x (row.size+1) f) (hm:row.size≤100000):
  Calls Tryz.prog 88 #[.string row,x] w fun e w'=>∃v,e=.returned v∧PlR w' v (row.size+1) (listF row f)∧Below w.heap.size w w':=by
 have HX:=Lib.hid hx
 clear hx
 go_enter Tryz.func88,Tryz.ntmps88
 have HB0:=Lib.hid (Below.refl w.heap.size w)
 go_wp2_with fail
 refine(many_any w row tN _ _ HX.out hm (by decide)).mono ?_
 rintro e wa1 ⟨va1,rfl,hp1,hb1⟩
 have HB1:=Lib.hid (HB0.out.trans (hb1.mono HB0.out.size))
 have HX:=Lib.hid (HX.out.below hb1)
 have HP1:=Lib.hid hp1
 clear hp1 hb1
 go_wp2_with fail
 refine(pone_any wa1 row tL _ _ HP1.out hm (by decide)).mono ?_
 rintro e wa2 ⟨va2,rfl,hp2,hb2⟩
 have HB2:=Lib.hid (HB1.out.trans (hb2.mono HB1.out.size))
 have HX:=Lib.hid (HX.out.below hb2)
 have HP1:=Lib.hid (HP1.out.below hb2)
 have HP2:=Lib.hid hp2
 clear hp2 hb2
 go_wp2
 go_ret
 exact⟨_,rfl,HP2.out,HB2.out⟩
set_option maxRecDepth 100000 in
set_option maxHeartbeats 4000000 in
theorem psep_any (row:ByteArray) (x:Value) (f:Nat→Bool) (hx:PlR w x (row.size+1) f) (hm:row.size≤100000):
  Calls Tryz.prog 87 #[.string row,x] w fun e w'=>∃v,e=.returned v∧PlR w' v (row.size+1) (sepF row f)∧Below w.heap.size w w':=by
 have HX:=Lib.hid hx
 clear hx
 go_enter Tryz.func87,Tryz.ntmps87
 have HB0:=Lib.hid (Below.refl w.heap.size w)
 go_wp2_with fail
 refine(pone_any w row (t2 59 38) _ _ HX.out hm (by decide)).mono ?_
 rintro e wa1 ⟨va1,rfl,hp1,hb1⟩
 have HB1:=Lib.hid (HB0.out.trans (hb1.mono HB0.out.size))
 have HX:=Lib.hid (HX.out.below hb1)
 have HP1:=Lib.hid hp1
 clear hp1 hb1
 go_wp2_with fail
 refine(many_any wa1 row tN _ _ HP1.out hm (by decide)).mono ?_
 rintro e wa2 ⟨va2,rfl,hp2,hb2⟩
 have HB2:=Lib.hid (HB1.out.trans (hb2.mono HB1.out.size))
 have HX:=Lib.hid (HX.out.below hb2)
 have HP1:=Lib.hid (HP1.out.below hb2)
 have HP2:=Lib.hid hp2
 clear hp2 hb2
 go_wp2_with fail
 refine(pone_any wa2 row tN _ _ HX.out hm (by decide)).mono ?_
 rintro e wa3 ⟨va3,rfl,hp3,hb3⟩
 have HB3:=Lib.hid (HB2.out.trans (hb3.mono HB2.out.size))
 have HX:=Lib.hid (HX.out.below hb3)
 have HP1:=Lib.hid (HP1.out.below hb3)
 have HP2:=Lib.hid (HP2.out.below hb3)
 have HP3:=Lib.hid hp3
 clear hp3 hb3
 go_wp2_with fail
 refine(many_any wa3 row tN _ _ HP3.out hm (by decide)).mono ?_
 rintro e wa4 ⟨va4,rfl,hp4,hb4⟩
 have HB4:=Lib.hid (HB3.out.trans (hb4.mono HB3.out.size))
 have HX:=Lib.hid (HX.out.below hb4)
 have HP1:=Lib.hid (HP1.out.below hb4)
 have HP2:=Lib.hid (HP2.out.below hb4)
 have HP3:=Lib.hid (HP3.out.below hb4)
 have HP4:=Lib.hid hp4
 clear hp4 hb4
 go_wp2_with fail
 refine(or_any wa4 _ _ _ _ _ HP2.out HP4.out (by omega)).mono ?_
 rintro e wa5 ⟨va5,rfl,hp5,hb5⟩
 have HB5:=Lib.hid (HB4.out.trans (hb5.mono HB4.out.size))
 have HX:=Lib.hid (HX.out.below hb5)
 have HP1:=Lib.hid (HP1.out.below hb5)
 have HP2:=Lib.hid (HP2.out.below hb5)
 have HP3:=Lib.hid (HP3.out.below hb5)
 have HP4:=Lib.hid (HP4.out.below hb5)
 have HP5:=Lib.hid hp5
 clear hp5 hb5
 go_wp2
 go_ret
 exact⟨_,rfl,HP5.out,HB5.out⟩
def RpRl (w:World) (row:ByteArray) (p:Nat) (F:Nat→Bool) (v1 v7:Value) (wr:World):Prop:=∃(j:Nat) (g:Nat→Bool),j≤row.size+1∧v7=.int .i64 (j:Int)∧PlR wr v1 (row.size+1) g∧repF row p (row.size+1 - j) g=F∧Below w.heap.size w wr
set_option maxRecDepth 100000 in
set_option maxHeartbeats 4000000 in
theorem rep1_any (row:ByteArray) (x:Value) (f:Nat→Bool) (hx:PlR w x (row.size+1) f) (hm:row.size≤100000):
  Calls Tryz.prog 86 #[.string row,x,.int .i64 1] w fun e w'=>∃v,e=.returned v∧PlR w' v (row.size+1) (rpF row 1 f)∧Below w.heap.size w w':=by
 have HX:=Lib.hid hx
 clear hx
 go_enter Tryz.func86,Tryz.ntmps86
 go_wp2
 go_loopw [1,7] (fun v1 v7 wr=>RpRl w row 1 (rpF row 1 f) v1 v7 wr) (fun _ v7 _=>row.size+1 - (intOf v7).toNat)
 case atStart=>exact⟨0,f,Nat.zero_le _,rfl,HX.out,rfl,Below.refl _ _⟩
 case round=>
  obtain⟨j,g,hj,rfl,hP,hR,hB⟩:=hrel
  clear HX
  have HX:=Lib.hid hP
  have HB0:=Lib.hid hB
  have HR:=Lib.hid hR
  clear hP hB hR
  by_cases hlt:j≤row.size
  ·have q1:(j:Int)≤(row.size:Int):=by omega
   have e1:IntKind.i64.wrap ((j:Int)+1)=(j:Int)+1:=IntWalk.i64_in _ (by omega)
   go_wp2_with fail
   refine(psep_any wr row _ _ HX.out hm).mono ?_
   rintro e wa1 ⟨va1,rfl,hp1,hb1⟩
   have HB1:=Lib.hid (HB0.out.trans (hb1.mono HB0.out.size))
   have HX:=Lib.hid (HX.out.below hb1)
   have HP1:=Lib.hid hp1
   clear hp1 hb1
   go_wp2_with fail
   refine(pone_any wa1 row (t1 65) _ _ HP1.out hm (by decide)).mono ?_
   rintro e wa2 ⟨va2,rfl,hp2,hb2⟩
   have HB2:=Lib.hid (HB1.out.trans (hb2.mono HB1.out.size))
   have HX:=Lib.hid (HX.out.below hb2)
   have HP1:=Lib.hid (HP1.out.below hb2)
   have HP2:=Lib.hid hp2
   clear hp2 hb2
   go_wp2_with fail
   refine(or_any wa2 _ _ _ _ _ HX.out HP2.out (by omega)).mono ?_
   rintro e wa3 ⟨va3,rfl,hp3,hb3⟩
   have HB3:=Lib.hid (HB2.out.trans (hb3.mono HB2.out.size))
   have HX:=Lib.hid (HX.out.below hb3)
   have HP1:=Lib.hid (HP1.out.below hb3)
   have HP2:=Lib.hid (HP2.out.below hb3)
   have HP3:=Lib.hid hp3
   clear hp3 hb3
   go_wp2
   refine⟨⟨j+1,_,by omega,by go_num,HP3.out,?_,HB3.out⟩,by simp [intOf];omega⟩
   rw [←HR.out,show row.size+1 - j=row.size+1 - (j+1)+1 by omega]
   rfl
  ·have q1:¬(j:Int)≤(row.size:Int):=by omega
   have hr:=HR.out
   rw [show row.size+1 - j=0 by omega]at hr
   have HR2:=Lib.hid (show g=rpF row 1 f from hr)
   clear hr HR
   go_wp2
   go_ret
   exact⟨_,rfl,HR2.out▸HX.out,HB0.out⟩
set_option maxRecDepth 100000 in
set_option maxHeartbeats 4000000 in
theorem rep2_any (row:ByteArray) (x:Value) (f:Nat→Bool) (hx:PlR w x (row.size+1) f) (hm:row.size≤100000):
  Calls Tryz.prog 86 #[.string row,x,.int .i64 2] w fun e w'=>∃v,e=.returned v∧PlR w' v (row.size+1) (rpF row 2 f)∧Below w.heap.size w w':=by
 have HX:=Lib.hid hx
 clear hx
 go_enter Tryz.func86,Tryz.ntmps86
 go_wp2
 go_loopw [1,7] (fun v1 v7 wr=>RpRl w row 2 (rpF row 2 f) v1 v7 wr) (fun _ v7 _=>row.size+1 - (intOf v7).toNat)
 case atStart=>exact⟨0,f,Nat.zero_le _,rfl,HX.out,rfl,Below.refl _ _⟩
 case round=>
  obtain⟨j,g,hj,rfl,hP,hR,hB⟩:=hrel
  clear HX
  have HX:=Lib.hid hP
  have HB0:=Lib.hid hB
  have HR:=Lib.hid hR
  clear hP hB hR
  by_cases hlt:j≤row.size
  ·have q1:(j:Int)≤(row.size:Int):=by omega
   have e1:IntKind.i64.wrap ((j:Int)+1)=(j:Int)+1:=IntWalk.i64_in _ (by omega)
   go_wp2_with fail
   refine(pone_any wr row (t2 97 111) _ _ HX.out hm (by decide)).mono ?_
   rintro e wa1 ⟨va1,rfl,hp1,hb1⟩
   have HB1:=Lib.hid (HB0.out.trans (hb1.mono HB0.out.size))
   have HX:=Lib.hid (HX.out.below hb1)
   have HP1:=Lib.hid hp1
   clear hp1 hb1
   go_wp2_with fail
   refine(many_any wa1 row tN _ _ HP1.out hm (by decide)).mono ?_
   rintro e wa2 ⟨va2,rfl,hp2,hb2⟩
   have HB2:=Lib.hid (HB1.out.trans (hb2.mono HB1.out.size))
   have HX:=Lib.hid (HX.out.below hb2)
   have HP1:=Lib.hid (HP1.out.below hb2)
   have HP2:=Lib.hid hp2
   clear hp2 hb2
   go_wp2_with fail
   refine(pone_any wa2 row (t1 73) _ _ HP2.out hm (by decide)).mono ?_
   rintro e wa3 ⟨va3,rfl,hp3,hb3⟩
   have HB3:=Lib.hid (HB2.out.trans (hb3.mono HB2.out.size))
   have HX:=Lib.hid (HX.out.below hb3)
   have HP1:=Lib.hid (HP1.out.below hb3)
   have HP2:=Lib.hid (HP2.out.below hb3)
   have HP3:=Lib.hid hp3
   clear hp3 hb3
   go_wp2_with fail
   refine(or_any wa3 _ _ _ _ _ HX.out HP3.out (by omega)).mono ?_
   rintro e wa4 ⟨va4,rfl,hp4,hb4⟩
   have HB4:=Lib.hid (HB3.out.trans (hb4.mono HB3.out.size))
   have HX:=Lib.hid (HX.out.below hb4)
   have HP1:=Lib.hid (HP1.out.below hb4)
   have HP2:=Lib.hid (HP2.out.below hb4)
   have HP3:=Lib.hid (HP3.out.below hb4)
   have HP4:=Lib.hid hp4
   clear hp4 hb4
   go_wp2
   refine⟨⟨j+1,_,by omega,by go_num,HP4.out,?_,HB4.out⟩,by simp [intOf];omega⟩
   rw [←HR.out,show row.size+1 - j=row.size+1 - (j+1)+1 by omega]
   rfl
  ·have q1:¬(j:Int)≤(row.size:Int):=by omega
   have hr:=HR.out
   rw [show row.size+1 - j=0 by omega]at hr
   have HR2:=Lib.hid (show g=rpF row 2 f from hr)
   clear hr HR
   go_wp2
   go_ret
   exact⟨_,rfl,HR2.out▸HX.out,HB0.out⟩
set_option maxRecDepth 100000 in
set_option maxHeartbeats 4000000 in
theorem rep3_any (row:ByteArray) (x:Value) (f:Nat→Bool) (hx:PlR w x (row.size+1) f) (hm:row.size≤100000):
  Calls Tryz.prog 86 #[.string row,x,.int .i64 3] w fun e w'=>∃v,e=.returned v∧PlR w' v (row.size+1) (rpF row 3 f)∧Below w.heap.size w w':=by
 have HX:=Lib.hid hx
 clear hx
 go_enter Tryz.func86,Tryz.ntmps86
 go_wp2
 go_loopw [1,7] (fun v1 v7 wr=>RpRl w row 3 (rpF row 3 f) v1 v7 wr) (fun _ v7 _=>row.size+1 - (intOf v7).toNat)
 case atStart=>exact⟨0,f,Nat.zero_le _,rfl,HX.out,rfl,Below.refl _ _⟩
 case round=>
  obtain⟨j,g,hj,rfl,hP,hR,hB⟩:=hrel
  clear HX
  have HX:=Lib.hid hP
  have HB0:=Lib.hid hB
  have HR:=Lib.hid hR
  clear hP hB hR
  by_cases hlt:j≤row.size
  ·have q1:(j:Int)≤(row.size:Int):=by omega
   have e1:IntKind.i64.wrap ((j:Int)+1)=(j:Int)+1:=IntWalk.i64_in _ (by omega)
   go_wp2_with fail
   refine(pone_any wr row (t1 124) _ _ HX.out hm (by decide)).mono ?_
   rintro e wa1 ⟨va1,rfl,hp1,hb1⟩
   have HB1:=Lib.hid (HB0.out.trans (hb1.mono HB0.out.size))
   have HX:=Lib.hid (HX.out.below hb1)
   have HP1:=Lib.hid hp1
   clear hp1 hb1
   go_wp2_with fail
   refine(many_any wa1 row tN _ _ HP1.out hm (by decide)).mono ?_
   rintro e wa2 ⟨va2,rfl,hp2,hb2⟩
   have HB2:=Lib.hid (HB1.out.trans (hb2.mono HB1.out.size))
   have HX:=Lib.hid (HX.out.below hb2)
   have HP1:=Lib.hid (HP1.out.below hb2)
   have HP2:=Lib.hid hp2
   clear hp2 hb2
   go_wp2_with fail
   refine(pone_any wa2 row tC _ _ HP2.out hm (by decide)).mono ?_
   rintro e wa3 ⟨va3,rfl,hp3,hb3⟩
   have HB3:=Lib.hid (HB2.out.trans (hb3.mono HB2.out.size))
   have HX:=Lib.hid (HX.out.below hb3)
   have HP1:=Lib.hid (HP1.out.below hb3)
   have HP2:=Lib.hid (HP2.out.below hb3)
   have HP3:=Lib.hid hp3
   clear hp3 hb3
   go_wp2_with fail
   refine(or_any wa3 _ _ _ _ _ HX.out HP3.out (by omega)).mono ?_
   rintro e wa4 ⟨va4,rfl,hp4,hb4⟩
   have HB4:=Lib.hid (HB3.out.trans (hb4.mono HB3.out.size))
   have HX:=Lib.hid (HX.out.below hb4)
   have HP1:=Lib.hid (HP1.out.below hb4)
   have HP2:=Lib.hid (HP2.out.below hb4)
   have HP3:=Lib.hid (HP3.out.below hb4)
   have HP4:=Lib.hid hp4
   clear hp4 hb4
   go_wp2
   refine⟨⟨j+1,_,by omega,by go_num,HP4.out,?_,HB4.out⟩,by simp [intOf];omega⟩
   rw [←HR.out,show row.size+1 - j=row.size+1 - (j+1)+1 by omega]
   rfl
  ·have q1:¬(j:Int)≤(row.size:Int):=by omega
   have hr:=HR.out
   rw [show row.size+1 - j=0 by omega]at hr
   have HR2:=Lib.hid (show g=rpF row 3 f from hr)
   clear hr HR
   go_wp2
   go_ret
   exact⟨_,rfl,HR2.out▸HX.out,HB0.out⟩
set_option maxRecDepth 100000 in
set_option maxHeartbeats 4000000 in
theorem rep4_any (row:ByteArray) (x:Value) (f:Nat→Bool) (hx:PlR w x (row.size+1) f) (hm:row.size≤100000):
  Calls Tryz.prog 86 #[.string row,x,.int .i64 4] w fun e w'=>∃v,e=.returned v∧PlR w' v (row.size+1) (rpF row 4 f)∧Below w.heap.size w w':=by
 have HX:=Lib.hid hx
 clear hx
 go_enter Tryz.func86,Tryz.ntmps86
 go_wp2
 go_loopw [1,7] (fun v1 v7 wr=>RpRl w row 4 (rpF row 4 f) v1 v7 wr) (fun _ v7 _=>row.size+1 - (intOf v7).toNat)
 case atStart=>exact⟨0,f,Nat.zero_le _,rfl,HX.out,rfl,Below.refl _ _⟩
 case round=>
  obtain⟨j,g,hj,rfl,hP,hR,hB⟩:=hrel
  clear HX
  have HX:=Lib.hid hP
  have HB0:=Lib.hid hB
  have HR:=Lib.hid hR
  clear hP hB hR
  by_cases hlt:j≤row.size
  ·have q1:(j:Int)≤(row.size:Int):=by omega
   have e1:IntKind.i64.wrap ((j:Int)+1)=(j:Int)+1:=IntWalk.i64_in _ (by omega)
   go_wp2_with fail
   refine(pone_any wr row (t1 101) _ _ HX.out hm (by decide)).mono ?_
   rintro e wa1 ⟨va1,rfl,hp1,hb1⟩
   have HB1:=Lib.hid (HB0.out.trans (hb1.mono HB0.out.size))
   have HX:=Lib.hid (HX.out.below hb1)
   have HP1:=Lib.hid hp1
   clear hp1 hb1
   go_wp2_with fail
   refine(plist_any wa1 row _ _ HP1.out hm).mono ?_
   rintro e wa2 ⟨va2,rfl,hp2,hb2⟩
   have HB2:=Lib.hid (HB1.out.trans (hb2.mono HB1.out.size))
   have HX:=Lib.hid (HX.out.below hb2)
   have HP1:=Lib.hid (HP1.out.below hb2)
   have HP2:=Lib.hid hp2
   clear hp2 hb2
   go_wp2_with fail
   refine(pone_any wa2 row (t1 116) _ _ HP2.out hm (by decide)).mono ?_
   rintro e wa3 ⟨va3,rfl,hp3,hb3⟩
   have HB3:=Lib.hid (HB2.out.trans (hb3.mono HB2.out.size))
   have HX:=Lib.hid (HX.out.below hb3)
   have HP1:=Lib.hid (HP1.out.below hb3)
   have HP2:=Lib.hid (HP2.out.below hb3)
   have HP3:=Lib.hid hp3
   clear hp3 hb3
   go_wp2_with fail
   refine(plist_any wa3 row _ _ HP3.out hm).mono ?_
   rintro e wa4 ⟨va4,rfl,hp4,hb4⟩
   have HB4:=Lib.hid (HB3.out.trans (hb4.mono HB3.out.size))
   have HX:=Lib.hid (HX.out.below hb4)
   have HP1:=Lib.hid (HP1.out.below hb4)
   have HP2:=Lib.hid (HP2.out.below hb4)
   have HP3:=Lib.hid (HP3.out.below hb4)
   have HP4:=Lib.hid hp4
   clear hp4 hb4
   go_wp2_with fail
   refine(or_any wa4 _ _ _ _ _ HX.out HP4.out (by omega)).mono ?_
   rintro e wa5 ⟨va5,rfl,hp5,hb5⟩
   have HB5:=Lib.hid (HB4.out.trans (hb5.mono HB4.out.size))
   have HX:=Lib.hid (HX.out.below hb5)
   have HP1:=Lib.hid (HP1.out.below hb5)
   have HP2:=Lib.hid (HP2.out.below hb5)
   have HP3:=Lib.hid (HP3.out.below hb5)
   have HP4:=Lib.hid (HP4.out.below hb5)
   have HP5:=Lib.hid hp5
   clear hp5 hb5
   go_wp2
   refine⟨⟨j+1,_,by omega,by go_num,HP5.out,?_,HB5.out⟩,by simp [intOf];omega⟩
   rw [←HR.out,show row.size+1 - j=row.size+1 - (j+1)+1 by omega]
   rfl
  ·have q1:¬(j:Int)≤(row.size:Int):=by omega
   have hr:=HR.out
   rw [show row.size+1 - j=0 by omega]at hr
   have HR2:=Lib.hid (show g=rpF row 4 f from hr)
   clear hr HR
   go_wp2
   go_ret
   exact⟨_,rfl,HR2.out▸HX.out,HB0.out⟩
set_option maxRecDepth 100000 in
set_option maxHeartbeats 4000000 in
theorem rep5_any (row:ByteArray) (x:Value) (f:Nat→Bool) (hx:PlR w x (row.size+1) f) (hm:row.size≤100000):
  Calls Tryz.prog 86 #[.string row,x,.int .i64 5] w fun e w'=>∃v,e=.returned v∧PlR w' v (row.size+1) (rpF row 5 f)∧Below w.heap.size w w':=by
 have HX:=Lib.hid hx
 clear hx
 go_enter Tryz.func86,Tryz.ntmps86
 go_wp2
 go_loopw [1,7] (fun v1 v7 wr=>RpRl w row 5 (rpF row 5 f) v1 v7 wr) (fun _ v7 _=>row.size+1 - (intOf v7).toNat)
 case atStart=>exact⟨0,f,Nat.zero_le _,rfl,HX.out,rfl,Below.refl _ _⟩
 case round=>
  obtain⟨j,g,hj,rfl,hP,hR,hB⟩:=hrel
  clear HX
  have HX:=Lib.hid hP
  have HB0:=Lib.hid hB
  have HR:=Lib.hid hR
  clear hP hB hR
  by_cases hlt:j≤row.size
  ·have q1:(j:Int)≤(row.size:Int):=by omega
   have e1:IntKind.i64.wrap ((j:Int)+1)=(j:Int)+1:=IntWalk.i64_in _ (by omega)
   go_wp2_with fail
   refine(pone_any wr row (t1 84) _ _ HX.out hm (by decide)).mono ?_
   rintro e wa1 ⟨va1,rfl,hp1,hb1⟩
   have HB1:=Lib.hid (HB0.out.trans (hb1.mono HB0.out.size))
   have HX:=Lib.hid (HX.out.below hb1)
   have HP1:=Lib.hid hp1
   clear hp1 hb1
   go_wp2_with fail
   refine(pone_any wa1 row (t1 121) _ _ HP1.out hm (by decide)).mono ?_
   rintro e wa2 ⟨va2,rfl,hp2,hb2⟩
   have HB2:=Lib.hid (HB1.out.trans (hb2.mono HB1.out.size))
   have HX:=Lib.hid (HX.out.below hb2)
   have HP1:=Lib.hid (HP1.out.below hb2)
   have HP2:=Lib.hid hp2
   clear hp2 hb2
   go_wp2_with fail
   refine(many_any wa2 row tN _ _ HP2.out hm (by decide)).mono ?_
   rintro e wa3 ⟨va3,rfl,hp3,hb3⟩
   have HB3:=Lib.hid (HB2.out.trans (hb3.mono HB2.out.size))
   have HX:=Lib.hid (HX.out.below hb3)
   have HP1:=Lib.hid (HP1.out.below hb3)
   have HP2:=Lib.hid (HP2.out.below hb3)
   have HP3:=Lib.hid hp3
   clear hp3 hb3
   go_wp2_with fail
   refine(or_any wa3 _ _ _ _ _ HX.out HP3.out (by omega)).mono ?_
   rintro e wa4 ⟨va4,rfl,hp4,hb4⟩
   have HB4:=Lib.hid (HB3.out.trans (hb4.mono HB3.out.size))
   have HX:=Lib.hid (HX.out.below hb4)
   have HP1:=Lib.hid (HP1.out.below hb4)
   have HP2:=Lib.hid (HP2.out.below hb4)
   have HP3:=Lib.hid (HP3.out.below hb4)
   have HP4:=Lib.hid hp4
   clear hp4 hb4
   go_wp2
   refine⟨⟨j+1,_,by omega,by go_num,HP4.out,?_,HB4.out⟩,by simp [intOf];omega⟩
   rw [←HR.out,show row.size+1 - j=row.size+1 - (j+1)+1 by omega]
   rfl
  ·have q1:¬(j:Int)≤(row.size:Int):=by omega
   have hr:=HR.out
   rw [show row.size+1 - j=0 by omega]at hr
   have HR2:=Lib.hid (show g=rpF row 5 f from hr)
   clear hr HR
   go_wp2
   go_ret
   exact⟨_,rfl,HR2.out▸HX.out,HB0.out⟩
set_option maxRecDepth 100000 in
set_option maxHeartbeats 4000000 in
theorem rep6_any (row:ByteArray) (x:Value) (f:Nat→Bool) (hx:PlR w x (row.size+1) f) (hm:row.size≤100000):
  Calls Tryz.prog 86 #[.string row,x,.int .i64 6] w fun e w'=>∃v,e=.returned v∧PlR w' v (row.size+1) (rpF row 6 f)∧Below w.heap.size w w':=by
 have HX:=Lib.hid hx
 clear hx
 go_enter Tryz.func86,Tryz.ntmps86
 go_wp2
 go_loopw [1,7] (fun v1 v7 wr=>RpRl w row 6 (rpF row 6 f) v1 v7 wr) (fun _ v7 _=>row.size+1 - (intOf v7).toNat)
 case atStart=>exact⟨0,f,Nat.zero_le _,rfl,HX.out,rfl,Below.refl _ _⟩
 case round=>
  obtain⟨j,g,hj,rfl,hP,hR,hB⟩:=hrel
  clear HX
  have HX:=Lib.hid hP
  have HB0:=Lib.hid hB
  have HR:=Lib.hid hR
  clear hP hB hR
  by_cases hlt:j≤row.size
  ·have q1:(j:Int)≤(row.size:Int):=by omega
   have e1:IntKind.i64.wrap ((j:Int)+1)=(j:Int)+1:=IntWalk.i64_in _ (by omega)
   go_wp2_with fail
   refine(pone_any wr row (t1 124) _ _ HX.out hm (by decide)).mono ?_
   rintro e wa1 ⟨va1,rfl,hp1,hb1⟩
   have HB1:=Lib.hid (HB0.out.trans (hb1.mono HB0.out.size))
   have HX:=Lib.hid (HX.out.below hb1)
   have HP1:=Lib.hid hp1
   clear hp1 hb1
   go_wp2_with fail
   refine(pone_any wa1 row (t1 87) _ _ HP1.out hm (by decide)).mono ?_
   rintro e wa2 ⟨va2,rfl,hp2,hb2⟩
   have HB2:=Lib.hid (HB1.out.trans (hb2.mono HB1.out.size))
   have HX:=Lib.hid (HX.out.below hb2)
   have HP1:=Lib.hid (HP1.out.below hb2)
   have HP2:=Lib.hid hp2
   clear hp2 hb2
   go_wp2_with fail
   refine(or_any wa2 _ _ _ _ _ HX.out HP2.out (by omega)).mono ?_
   rintro e wa3 ⟨va3,rfl,hp3,hb3⟩
   have HB3:=Lib.hid (HB2.out.trans (hb3.mono HB2.out.size))
   have HX:=Lib.hid (HX.out.below hb3)
   have HP1:=Lib.hid (HP1.out.below hb3)
   have HP2:=Lib.hid (HP2.out.below hb3)
   have HP3:=Lib.hid hp3
   clear hp3 hb3
   go_wp2
   refine⟨⟨j+1,_,by omega,by go_num,HP3.out,?_,HB3.out⟩,by simp [intOf];omega⟩
   rw [←HR.out,show row.size+1 - j=row.size+1 - (j+1)+1 by omega]
   rfl
  ·have q1:¬(j:Int)≤(row.size:Int):=by omega
   have hr:=HR.out
   rw [show row.size+1 - j=0 by omega]at hr
   have HR2:=Lib.hid (show g=rpF row 6 f from hr)
   clear hr HR
   go_wp2
   go_ret
   exact⟨_,rfl,HR2.out▸HX.out,HB0.out⟩
theorem rep_any (row:ByteArray) (x:Value) (f:Nat→Bool) (hx:PlR w x (row.size+1) f) (hm:row.size≤100000) (p:Nat) (h1:1≤p) (h2:p≤6):
  Calls Tryz.prog 86 #[.string row,x,.int .i64 (p:Int)] w fun e w'=>∃v,e=.returned v∧PlR w' v (row.size+1) (rpF row p f)∧Below w.heap.size w w':=by
 obtain rfl|rfl|rfl|rfl|rfl|rfl:p=1∨p=2∨p=3∨p=4∨p=5∨p=6:=by omega
 ·exact rep1_any w row x f hx hm
 ·exact rep2_any w row x f hx hm
 ·exact rep3_any w row x f hx hm
 ·exact rep4_any w row x f hx hm
 ·exact rep5_any w row x f hx hm
 ·exact rep6_any w row x f hx hm
end
end Go.Proofs.YtkolpaonccmgiaaGreatDoor.Q

/- What Parse, Begins and Command of layer 13 (parse) -/
import Derived.Test.YtkolpaonccmgiaaGreatDoorSz
set_option linter.unusedVariables false
namespace Go.Proofs.YtkolpaonccmgiaaGreatDoor.Q
set_option linter.unusedSectionVars false
set_option linter.unusedVariables false
open Go.RowKit
section
variable {n:Nat} {lv:Nat→Lf} {la:Option Addr} {lc g:Nat} {w0:World} {P:Nat→Prop}
def PrRl (n:Nat) (lv:Nat→Lf) (la:Option Addr) (lc g:Nat) (w0:World) (P:Nat→Prop) (s:PS) (v:Value) (wr:World):Prop:=
 ∃(fl:Bool) (r:PS),v=.bool fl∧Mk (kP n lv la lc g) w0 P r wr∧pot r≤(cond fl 5 1)∧s.a≤r.a∧(fl=false→∀s',Ev n lv (prgP n lv) r s'→Ev n lv (prgP n lv) s s')∧(fl=true→∀s',Ev n lv (.seq (aftP n lv) (prgP n lv)) r s'→Ev n lv (prgP n lv) s s')
theorem aft_nl {r s':PS} (hn:isS n lv [110] r=true) (h:Ev n lv (.seq (aftP n lv) (prgP n lv)) (nxt r) s'):Ev n lv (.seq (aftP n lv) (prgP n lv)) r s':=by
 cases h with|seq h1 h2=>cases h1 with|seq h1 h3=>exact .seq (.seq (.go hn .adv rfl .skip h1) h3) h2
theorem aft_err {r r1 s':PS} (hl:ltT n r=true) (hn:isS n lv [110] r=false) (he:Ev n lv errP r r1) (h:Ev n lv (prgP n lv) r1 s'):Ev n lv (.seq (aftP n lv) (prgP n lv)) r s':=
 .seq (.seq (.stop hn) (.yes hl he)) h
theorem aft_end {r:PS} (hl:ltT n r=false) (hn:isS n lv [110] r=false):Ev n lv (.seq (aftP n lv) (prgP n lv)) r r:=
 .seq (.seq (.stop hn) (.no hl .skip)) (.stop hl)
theorem prg_nl {r s':PS} (hl:ltT n r=true) (hn:isS n lv [110] r=true) (h:Ev n lv (prgP n lv) (nxt r) s'):Ev n lv (prgP n lv) r s':=.go hl (.yes hn .adv) rfl .skip h
theorem prg_err {r r1 s':PS} (hl:ltT n r=true) (hn:isS n lv [110] r=false) (hp:pipT n lv r=false) (he:Ev n lv errP r r1) (h:Ev n lv (prgP n lv) r1 s'):Ev n lv (prgP n lv) r s':=.go hl (.no hn (.no hp he)) rfl .skip h
theorem prg_lst {r r1 s':PS} (hl:ltT n r=true) (hn:isS n lv [110] r=false) (hp:pipT n lv r=true) (he:Ev n lv .lst r r1) (h:Ev n lv (.seq (aftP n lv) (prgP n lv)) r1 s'):Ev n lv (prgP n lv) r s':=by
 cases h with|seq h1 h2=>exact .go hl (.no hn (.yes hp (.seq he h1))) rfl .skip h2
theorem isS_out {l:List Nat} (hl:63∉l) {r:PS} (h:n≤r.a):isS n lv l r=false:=by
 cases e:isS n lv l r with
 |false=>rfl
 |true=>have:=isS_le (lv:=lv) e hl;omega
theorem err_lt {r r1:PS} (h:Ev n lv errP r r1):r.a<r1.a:=h.word_lt
set_option maxRecDepth 100000 in
set_option maxHeartbeats 2000000 in
theorem listed_top {w:World} {s:PS} (hM:Mk (kP n lv la lc g) w0 P s w) (hp:pot s≤10) (b:Bool) (hb:pipT n lv s=b):
  Calls Tryz.prog 49 #[.pointer (some ⟨g,0,none⟩)] w fun e w'=>e=.returned (.bool b)∧∃s',Ev n lv (.ite (pipT n lv) .lst .skip) s s'∧Mk (kP n lv la lc g) w0 P s' w':=by
 have hc:=pipe_tells (n:=n) (lv:=lv) (la:=la) (lc:=lc) (g:=g) w0 P w s hM
 rw [hb]at hc
 have HC:=Lib.hid hc
 have HM:=Lib.hid hM
 have HB:=Lib.hid hb
 have hmf:=mkfun
 clear hc
 cases b with
 |true=>
  have HN:=Lib.hid (fun W (h:Mk (kP n lv la lc g) w0 P s W)=>node_any 2 79 #[.pointer (some ⟨g,0,none⟩)] #[] (enter_of _ _ _ Tryz.func79 (by kernel_rfl) rfl) (lsbP n lv) _ (list_any (lst_ok s.a)) W s h ⟨⟨Nat.le_refl _,by rw [pot_bgn];omega⟩,pot_len h (by omega)⟩)
  clear hM hb
  go_enter Tryz.func49,Tryz.ntmps49
  go_wp2_with fail
  refine(HC.out).mono ?_
  rintro e w1 ⟨rfl,hb1⟩
  have HM1:=Lib.hid (HM.out.below hb1)
  clear hb1
  go_wp2_with fail
  refine(HN.out _ HM1.out).mono ?_
  rintro e w2 ⟨rfl,s2,he2,hM2⟩
  have HM2:=Lib.hid hM2
  have HE2:=Lib.hid he2
  have ha2:=he2.kp.a
  clear hM2 he2
  go_wp2
  go_ret
  exact⟨rfl,_,.yes HB.out (.lst HE2.out),HM2.out⟩
 |false=>
  clear hM hb
  go_enter Tryz.func49,Tryz.ntmps49
  go_wp2_with fail
  refine(HC.out).mono ?_
  rintro e w1 ⟨rfl,hb1⟩
  have HM1:=Lib.hid (HM.out.below hb1)
  clear hb1
  go_wp2
  go_ret
  exact⟨rfl,_,.no HB.out .skip,HM1.out⟩
set_option maxRecDepth 100000 in
set_option maxHeartbeats 2000000 in
theorem program_any:Does (kP n lv la lc g) w0 P 29 #[.pointer (some ⟨g,0,none⟩)] (prgP n lv) (fun s=>pot s≤1):=by
 intro w s hM hp
 have HLT:=Lib.hid (fun w s (h:Mk (kP n lv la lc g) w0 P s w)=>listed_top h)
 have HER:=Lib.hid (node_any 17 50 #[.pointer (some ⟨g,0,none⟩)] #[] (enter_of _ _ _ Tryz.func50 (by kernel_rfl) rfl) .adv _ (one_any (n:=n) (lv:=lv) (la:=la) (lc:=lc) (g:=g) (w0:=w0) (P:=P)))
 have hmf:=mkfun
 have HTK:=Lib.hid (fun t l (hl:Sg t l) w s (h:Mk (kP n lv la lc g) w0 P s w)=>take_any t l hl h)
 have HM:=Lib.hid hM
 clear hM
 go_enter Tryz.func29,Tryz.ntmps29
 go_wp2
 go_loopw [2] (fun v wr=>PrRl n lv la lc g w0 P s v wr) (fun _ wr=>n+1 - atM g wr)
 case atStart=>exact⟨false,s,rfl,HM.out,hp,Nat.le_refl _,fun _ _ h=>h,fun h=>by cases h⟩
 case round=>
  obtain⟨fl,r,rfl,hMr,hpr,har,hk1,hk2⟩:=hrel
  obtain⟨nv,hB,hO,h3,h4⟩:=hMr.own
  have c0:wr.cell? ⟨g,0,none⟩=some (.slice la n lc):=hB.cell 0
  have c1:wr.cell? ⟨g,1,none⟩=some (.int .i64 (r.a:Int)):=hB.cell 1
  have hale:=hMr.ale
  change r.a≤n at hale
  have HMR:=Lib.hid hMr
  have HK1:=Lib.hid hk1
  have HK2:=Lib.hid hk2
  obtain⟨ra,hra⟩:∃ra,r.a=ra:=⟨_,rfl⟩
  rw [hra]at c1
  have HRA:=Lib.hid hra
  clear hMr hk1 hk2 hB hO h3 h4 hra
  by_cases hlt:r.a<n
  ·have t1:(ra:Int)<(n:Int):=by have:=HRA.out;omega
   have t2:decide (ra<n)=true:=by have:=HRA.out;simp;omega
   have HL:=Lib.hid (show ltT n r=true from decide_eq_true hlt)
   go_wp2
   go_quiet (fail)
   obtain⟨W,hW⟩:∃W,wr.drewN nq=W:=⟨_,rfl⟩
   have hbW:Below wr.heap.size wr W:=by rw [←hW];exact below_drewN (Below.refl _ _) _
   have HMW:=Lib.hid (HMR.out.below hbW)
   rw [hW]
   clear hW hbW c0 c1
   obtain⟨b3,hb3⟩:∃b,isS n lv [110] r=b:=⟨_,rfl⟩
   have HC3:=Lib.hid (HTK.out ⟨#[110]⟩ [110] (by decide+kernel) _ _ HMW.out b3 hb3)
   have HB3:=Lib.hid hb3
   clear hb3
   cases b3 with
   |true=>
    go_wp2_with fail
    refine HC3.out.mono ?_
    rintro e w3 ⟨rfl,hM3⟩
    have HM3:=Lib.hid (show Mk (kP n lv la lc g) w0 P (nxt r) w3 from hM3)
    have hp3:=pot_nxt r
    have ha3:(nxt r).a=r.a+1:=rfl
    clear hM3
    cases fl with
    |false=>
     change pot r≤1 at hpr
     go_wp2
     go_roundw
     case rel=>exact⟨false,_,rfl,HM3.out,by show pot (nxt r)≤1;omega,by omega,fun _ s' h=>HK1.out (by trivial) _ (prg_nl HL.out HB3.out h),fun h=>by cases h⟩
     case measure=>
      have e1:=atM_of HM3.out
      have e2:=atM_of HMR.out
      have:=isS_le (lv:=lv) HB3.out (by decide)
      rw [e1,e2]
      omega
    |true=>
     change pot r≤5 at hpr
     go_wp2
     go_roundw
     case rel=>exact⟨true,_,rfl,HM3.out,by show pot (nxt r)≤5;omega,by omega,(fun h=>by cases h),fun _ s' h=>HK2.out (by trivial) _ (aft_nl HB3.out h)⟩
     case measure=>
      have e1:=atM_of HM3.out
      have e2:=atM_of HMR.out
      have:=isS_le (lv:=lv) HB3.out (by decide)
      rw [e1,e2]
      omega
   |false=>
    go_wp2_with fail
    refine HC3.out.mono ?_
    rintro e w3 ⟨rfl,hM3⟩
    have HM3:=Lib.hid (show Mk (kP n lv la lc g) w0 P r w3 from hM3)
    clear hM3
    cases fl with
    |true=>
     change pot r≤5 at hpr
     go_wp2_with fail
     refine(HER.out _ _ HM3.out ⟨hlt,pot_len HM3.out (by omega)⟩).mono ?_
     rintro e w4 ⟨rfl,s4,he4,hM4⟩
     have HM4:=Lib.hid hM4
     have HE4:=Lib.hid he4
     have ha4:=he4.kp.a
     have hp4:=potle he4 (by rfl) (c:= -29) (of_decide_eq_true (by rfl))
     clear hM4 he4
     go_wp2
     go_roundw
     case rel=>exact⟨false,_,rfl,HM4.out,by show pot s4≤1;omega,by omega,fun _ s' h=>HK2.out (by trivial) _ (aft_err HL.out HB3.out HE4.out h),fun h=>by cases h⟩
     case measure=>
      have e1:=atM_of HM4.out
      have e2:=atM_of HMR.out
      have:=err_lt HE4.out
      rw [e1,e2]
      omega
    |false=>
     change pot r≤1 at hpr
     obtain⟨b,hb⟩:∃b,pipT n lv r=b:=⟨_,rfl⟩
     have HLS:=Lib.hid (HLT.out _ _ HM3.out (by omega) b hb)
     have HB:=Lib.hid hb
     clear hb
     cases b with
     |true=>
      go_wp2_with fail
      refine HLS.out.mono ?_
      rintro e w4 ⟨rfl,s4,he4,hM4⟩
      cases he4 with
      |no h _=>rw [HB.out]at h;cases h
      |yes _ he4=>
      have hp4:=potle he4 (by rfl) (c:=4) (of_decide_eq_true (by rfl))
      have ha4:r.a<s4.a:=by cases he4 with|lst h=>exact h.list_lt HB.out
      have HM4:=Lib.hid hM4
      have HE4:=Lib.hid he4
      clear hM4 he4
      go_wp2
      go_roundw
      case rel=>exact⟨true,_,rfl,HM4.out,by show pot s4≤5;omega,by omega,(fun h=>by cases h),fun _ s' h=>HK1.out (by trivial) _ (prg_lst HL.out HB3.out HB.out HE4.out h)⟩
      case measure=>
       have e1:=atM_of HM4.out
       have e2:=atM_of HMR.out
       have:=ha4
       rw [e1,e2]
       omega
     |false=>
      go_wp2_with fail
      refine HLS.out.mono ?_
      rintro e w4 ⟨rfl,s4,he4,hM4⟩
      cases he4 with
      |yes h _=>rw [HB.out]at h;cases h
      |no _ he4=>
      cases he4
      have HM4:=Lib.hid hM4
      clear hM4
      go_wp2_with fail
      refine(HER.out _ _ HM4.out ⟨hlt,pot_len HM4.out (by omega)⟩).mono ?_
      rintro e w5 ⟨rfl,s5,he5,hM5⟩
      have HM5:=Lib.hid hM5
      have HE5:=Lib.hid he5
      have ha5:=he5.kp.a
      have hp5:=potle he5 (by rfl) (c:= -29) (of_decide_eq_true (by rfl))
      clear hM5 he5
      go_wp2
      go_roundw
      case rel=>exact⟨false,_,rfl,HM5.out,by show pot s5≤1;omega,by omega,fun _ s' h=>HK1.out (by trivial) _ (prg_err HL.out HB3.out HB.out HE5.out h),fun h=>by cases h⟩
      case measure=>
       have e1:=atM_of HM5.out
       have e2:=atM_of HMR.out
       have:=err_lt HE5.out
       rw [e1,e2]
       omega
  ·have t1:¬(ra:Int)<(n:Int):=by have:=HRA.out;omega
   have t2:decide (ra<n)=false:=by have:=HRA.out;simp;omega
   have HL:=Lib.hid (show ltT n r=false from decide_eq_false hlt)
   go_wp2
   go_quiet (fail)
   obtain⟨W,hW⟩:∃W,wr.drewN nq=W:=⟨_,rfl⟩
   have hbW:Below wr.heap.size wr W:=by rw [←hW];exact below_drewN (Below.refl _ _) _
   have HMW:=Lib.hid (HMR.out.below hbW)
   rw [hW]
   clear hW hbW c0 c1
   have HN:=Lib.hid (isS_out (n:=n) (lv:=lv) (l:=[110]) (by decide) (r:=r) (by omega))
   cases fl with
   |false=>
    go_wp2
    go_end0
    exact⟨rfl,_,HK1.out (by trivial) _ (.stop HL.out),HMW.out⟩
   |true=>
    go_wp2
    go_end0
    exact⟨rfl,_,HK2.out (by trivial) _ (aft_end HL.out HN.out),HMW.out⟩
set_option maxRecDepth 100000 in
set_option maxHeartbeats 2000000 in
theorem newmaker_raw {w:World} (hL:LfRow w la n lv) (hT:Tx w) (hs:∀i,i<n→(lv i).s.size≤100) (i:Int):
  Calls Tryz.prog 27 #[.slice la n lc,.int .i64 i] w fun e w'=>e=.returned (.pointer (some ⟨w.heap.size,0,none⟩))∧Blk w' w.heap.size (mkC (.slice la n lc) i (lfI n lv i) (sgn (lfI n lv i).k (lfI n lv i).s) (.slice none 0 0) (-1) 0) 50∧Below w.heap.size w w':=by
 have hb1:Below w.heap.size w (w.alloc (.cells (mkC (.slice la n lc) 0 ⟨0,⟨#[]⟩,0,0⟩ 0 (.slice none 0 0) (-1) 0) 50)):=(Below.refl _ w).alloc (Nat.le_refl _) _
 have hbx:=Blk.new w (mkC (.slice la n lc) 0 ⟨0,⟨#[]⟩,0,0⟩ 0 (.slice none 0 0) (-1) 0) 50
 have hsz:(lfI n lv i).s.size≤1000000:=by
  unfold lfI
  split
  ·rename_i h
   have:=hs i.toNat (by omega)
   omega
  ·exact Nat.zero_le _
 have h0:=hT.1
 have hC:=move_raw _ w.heap.size n la lc lv 0 ⟨0,⟨#[]⟩,0,0⟩ 0 (.slice none 0 0) (-1) 0 hbx (hL.below hb1) (fun b off h0 hl=>by
  obtain⟨b',off',e1,e2,_⟩:=hL 0 h0
  rw [hl]at e1
  cases e1
  omega) (hT.b hb1) (by omega) i hsz
 have HC:=Lib.hid hC
 have HB1:=Lib.hid hb1
 unfold mkC at HC
 simp only [Int.natCast_zero]at HC
 clear hb1 hbx hsz hC hL hT hs h0
 go_enter Tryz.func27,Tryz.ntmps27
 go_wp2_with fail
 refine HC.out.mono ?_
 rintro e w1 ⟨rfl,hB,hF⟩
 have HB:=Lib.hid hB
 have HF:=Lib.hid (HB1.out.trans (hF.below HB1.out.size (fun k hk=>by omega)))
 clear hB hF
 go_wp2
 go_ret
 exact⟨rfl,HB.out,HF.out⟩
theorem mk_new {w w':World} {i:Nat} (hi:i≤n) (hL:LfRow w la n lv) (hT:Tx w) (hs:∀i,i<n→(lv i).s.size≤100) (hn:n≤10000) (hB:Blk w' w.heap.size (mkC (.slice la n lc) (i:Int) (lfI n lv i) (sgn (lfI n lv i).k (lfI n lv i).s) (.slice none 0 0) (-1) 0) 50) (hb:Below w.heap.size w w'):
  Mk (kP n lv la lc w.heap.size) w (fun k=>k<w.heap.size) ⟨i,[],-1,0⟩ w':=by
 refine⟨⟨fun k hk=>hk,hL,fun b off h0 hl=>?_,hT,hT.1,hs,hn⟩,?_,hi,Nat.lt_irrefl _,.slice none 0 0,?_,World.ownsRow_nil _ _ _ _,by simp [Value.ownBlock],by simp [Value.ownBlock]⟩
 ·obtain⟨b',off',e1,e2,_⟩:=hL 0 h0
  change la=some ⟨b,off,none⟩at hl
  rw [hl]at e1
  cases e1
  exact e2
 ·exact⟨hb.os,hb.tape,hb.output,hb.size,fun k hk _=>hb.block k hk⟩
 ·rw [lfI_nat]at hB
  exact hB
theorem mk_below {g:Nat} {w w':World} {s:PS} (h:Mk (kP n lv la lc g) w (fun k=>k<w.heap.size) s w'):Below w.heap.size w w':=h.frm.below (Nat.le_refl _) (fun k hk=>by omega)
theorem mk_own {g:Nat} {w w':World} {s:PS} (h:Mk (kP n lv la lc g) w (fun k=>k<w.heap.size) s w'):∃oa oc,Blk w' g (mkC (.slice la n lc) (s.a:Int) (lfA n lv s.a) (sgA n lv s.a) (.slice oa s.L.length oc) s.u (s.d:Int)) 50∧w'.ownsRow w.heap.size 32 4 (.slice oa s.L.length oc) s.L.length (cellsN s.L):=by
 obtain⟨nv,h1,h2,h3,h4⟩:=h.own
 obtain⟨oa,oc,rfl⟩:=owns_slice' h2
 exact⟨oa,oc,h1,owns_base h2 (fun k hk=>by have:=h4 k hk;omega)⟩
set_option maxRecDepth 100000 in
set_option maxHeartbeats 2000000 in
theorem parse_any (w:World) (hL:LfRow w la n lv) (hT:Tx w) (hs:∀i,i<n→(lv i).s.size≤100) (hn:n≤10000):
  Calls Tryz.prog 13 #[.slice la n lc] w fun e w'=>∃L oa oc,e=.returned (.slice oa L.length oc)∧Tree n lv L∧w'.ownsRow w.heap.size 32 4 (.slice oa L.length oc) L.length (cellsN L)∧Below w.heap.size w w':=by
 have HN:=Lib.hid (newmaker_raw (lc:=lc) hL hT hs (0:Int))
 have HND:=Lib.hid (fun(w0:World) (P:Nat→Prop) (g:Nat)=>node_any 1 29 #[.pointer (some ⟨g,0,none⟩)] #[] (enter_of _ _ _ Tryz.func29 (by kernel_rfl) rfl) (prgP n lv) _ (program_any (n:=n) (lv:=lv) (la:=la) (lc:=lc) (g:=g) (w0:=w0) (P:=P)))
 have HX:=Lib.hid (fun w' h1 h2=>mk_new (w':=w') (lc:=lc) (i:=0) (Nat.zero_le n) hL hT hs hn h1 h2)
 have hmf:=mkfun
 clear hL hT hs hn
 go_enter Tryz.func13,Tryz.ntmps13
 go_wp2_with fail
 refine HN.out.mono ?_
 rintro e w1 ⟨rfl,hB1,hb1⟩
 have HM1:=Lib.hid (HX.out w1 hB1 hb1)
 clear hB1 hb1
 go_wp2_with fail
 refine(HND.out _ _ _ _ _ HM1.out ⟨by simp [pot,bgn],by simp⟩).mono ?_
 rintro e w2 ⟨rfl,s2,he2,hM2⟩
 have ha2:=hM2.ale
 change s2.a≤n at ha2
 have hge:n≤s2.a:=by cases he2 with|node h=>have h2:=prg_end h rfl;exact h2
 have HTR:=Lib.hid (show Tree n lv s2.L from⟨s2,he2,by omega,rfl⟩)
 obtain⟨oa,oc,hB2,hO2⟩:=mk_own hM2
 have c7:w2.cell? ⟨w.heap.size,7,none⟩=some (.slice oa s2.L.length oc):=hB2.cell 7
 have HO:=Lib.hid hO2
 have HBL:=Lib.hid (mk_below hM2)
 obtain⟨z,hz⟩:∃z,s2.L.length=z:=⟨_,rfl⟩
 rw [hz]at c7
 have HZ:=Lib.hid hz
 clear hM2 he2 ha2 hge hB2 hO2 hz
 go_wp2
 go_ret
 exact⟨s2.L,oa,oc,by rw [HZ.out];rfl,HTR.out,HO.out,HBL.out⟩
end
end Go.Proofs.YtkolpaonccmgiaaGreatDoor.Q

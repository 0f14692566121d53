/- What the document's own Parse of layer 13 (parse) returns. Condition: at most 10,000 leaves, each of at most 100 bytes; the table of operators lies as start-up lays it.
What the document's own Begins and Command of layer 13 (parse) return, what SameTree of layer 11 says of two rows that are the same, and what Begins and Command of the program return where there is no leaf. Condition: at most 10,000 leaves, each of at most 100 bytes; the table of operators lies as s
The laws ParseTrees and ParseTexts of layer 13 (parse). Condition: the program's table of operators lies as start-up lays it.
The law ParseCommands of layer 13 (parse). Condition: the program's table of operators lies as start-up lays it. -/
import Derived.Test.YtkolpaonccmgiaaGreatDoorPbP
import Derived.Test.YtkolpaonccmgiaaGreatDoorPbB
import Derived.Test.YtkolpaonccmgiaaGreatDoorRuAic
import Derived.Test.YtkolpaonccmgiaaGreatDoorSc
import Derived.Test.YtkolpaonccmgiaaGreatDoorPbE
import Derived.Test.YtkolpaonccmgiaaGreatDoorSd
import Derived.Test.YtkolpaonccmgiaaGreatDoorTkZ
set_option linter.unusedVariables false
namespace Go.Proofs.YtkolpaonccmgiaaGreatDoor.Q
open Go.RowKit
def SiRl (n:Nat) (lv:Nat→Lf) (w:World) (v3 v4:Value) (wr:World):Prop:=
 ∃(k:Nat) (T:ByteArray),k≤n∧v4=.int .i64 (k:Int)∧v3=.string T∧T.size=k∧(∀i,i<k→(bt T i).toNat=sgA n lv i)∧Below w.heap.size w wr
section
variable {n:Nat} {lv:Nat→Lf} {la:Option Addr} {lc g:Nat} {S:ByteArray} {w0:World} {P:Nat→Prop}
theorem mk_newN {w wr:World} {i:Nat} (hi:i≤n) (hL:LfRow w la n lv) (hT:Tx w) (hs:∀i,i<n→(lv i).s.size≤100) (hn:n≤10000) (hb:Below w.heap.size w wr):
  Mk (kN n lv la lc S wr.heap.size) w (fun k=>k<w.heap.size) ⟨i,[],-1,0⟩ (wr.alloc (.cells (nwC (.slice la n lc) S (.slice none 0 0) (i:Int) (-1) 0) 54)):=by
 have hb2:Below w.heap.size w (wr.alloc (.cells (nwC (.slice la n lc) S (.slice none 0 0) (i:Int) (-1) 0) 54)):=hb.alloc hb.size _
 refine⟨⟨fun k hk=>hk,hL,fun b off h0 hl=>?_,hT,hT.1,hs,hn⟩,?_,hi,fun h=>?_,.slice none 0 0,?_,World.ownsRow_nil _ _ _ _,by simp [Value.ownBlock],by simp [Value.ownBlock]⟩
 ·obtain⟨b',off',e1,e2,_⟩:=hL 0 h0
  change la=some ⟨b,off,none⟩at hl
  rw [hl]at e1
  cases e1
  exact e2
 ·exact⟨hb2.os,hb2.tape,hb2.output,hb2.size,fun k hk hk2=>hb2.block k (by simpa using hk2)⟩
 ·have:=hb.size
  change wr.heap.size<w.heap.size at h
  omega
 ·exact Blk.new wr _ _
theorem mk_belowN {w w':World} {s:PS} (h:Mk (kN n lv la lc S g) w (fun k=>k<w.heap.size) s w'):Below w.heap.size w w':=h.frm.below (Nat.le_refl _) (fun k hk=>by omega)
theorem mk_ownN {w w':World} {s:PS} (h:Mk (kN n lv la lc S g) w (fun k=>k<w.heap.size) s w'):∃oa oc,Blk w' g (nwC (.slice la n lc) S (.slice oa s.L.length oc) (s.a:Int) s.u (s.d:Int)) 54∧w'.ownsRow w.heap.size 32 4 (.slice oa s.L.length oc) s.L.length (cellsN s.L):=by
 obtain⟨nv,h1,h2,h3,h4⟩:=h.own
 obtain⟨oa,oc,rfl⟩:=owns_slice' h2
 exact⟨oa,oc,h1,owns_base h2 (fun k hk=>by have:=h4 k hk;omega)⟩
def PrRn (n:Nat) (lv:Nat→Lf) (la:Option Addr) (lc:Nat) (S:ByteArray) (g:Nat) (w0:World) (P:Nat→Prop) (s:PS) (v:Value) (wr:World):Prop:=
 ∃(l:Int) (r:PS),v=.int .i64 l∧Mk (kN n lv la lc S g) w0 P r wr∧pot r≤(if l=2 then 5 else 1)∧s.a≤r.a∧(l≠2→∀s',Ev n lv (prgP n lv) r s'→Ev n lv (prgP n lv) s s')∧(l=2→∀s',Ev n lv (.seq (aftP n lv) (prgP n lv)) r s'→Ev n lv (prgP n lv) s s')
set_option maxRecDepth 100000 in
set_option maxHeartbeats 8000000 in
theorem refparse_any (w:World) (hL:LfRow w la n lv) (hT:Tx w) (hs:∀i,i<n→(lv i).s.size≤100) (hn:n≤10000):
  Calls Tryz.prog 14 #[.slice la n lc] w fun e w'=>∃L oa oc,e=.returned (.slice oa L.length oc)∧Tree n lv L∧w'.ownsRow w.heap.size 32 4 (.slice oa L.length oc) L.length (cellsN L)∧Below w.heap.size w w':=by
 have HROW:=Lib.hid hL
 have HSM:=Lib.hid hs
 have HTT:=Lib.hid hT
 clear hL hT hs
 go_enter Tryz.func14,Tryz.ntmps14
 go_wp2
 go_loopw [3,4] (fun v3 v4 wr=>SiRl n lv w v3 v4 wr) (fun _ v4 _=>n - (intOf v4).toNat)
 case atStart=>exact⟨0,⟨#[]⟩,Nat.zero_le _,rfl,rfl,rfl,fun i h=>by omega,Below.refl _ _⟩
 case round=>
  obtain⟨k,T,hk,rfl,rfl,hTz,hTb,hbr⟩:=hrel
  have HBR:=Lib.hid hbr
  have HTB:=Lib.hid hTb
  clear hTb
  by_cases hlt:k<n
  ·obtain⟨b,off,hao,hbw,c0,c1,c2,c3⟩:=(HROW.out.below hbr) k hlt
   have hsm:=HSM.out k hlt
   have hsg:sgA n lv k=sgn (lv k).k (lv k).s:=by unfold sgA lfA;rw [if_pos hlt]
   obtain⟨X,hX⟩:∃X,lv k=X:=⟨_,rfl⟩
   rw [hX]at c0 c1 c2 c3 hsm hsg
   obtain⟨pk,ps,pf,pt⟩:=X
   simp only at c0 c1 c2 c3 hsm hsg
   have HSG:=Lib.hid (fun W=>refsign_any W ⟨pk,ps,pf,pt⟩ hsm)
   unfold aggF at HSG
   simp only at HSG
   have hz1:(sgB pk ps).size=1:=rfl
   have hz0:(bt (sgB pk ps) 0).toNat=sgA n lv k:=by rw [hsg];show(sgn pk ps).toUInt8.toNat=_;have:=sgn_lt pk ps;rw [Nat.toUInt8];simp;omega
   obtain⟨Z,hZ⟩:∃Z,sgB pk ps=Z:=⟨_,rfl⟩
   rw [hZ]at HSG hz1 hz0
   have HZ0:=Lib.hid hz0
   have q0:(0:Int)≤(k:Int):=by omega
   have q1:(k:Int)<(n:Int):=by omega
   have e1:IntKind.i64.wrap ((k:Int)+1)=((k+1:Nat):Int):=by rw [IntWalk.i64_in _ (by omega)];rfl
   have HTZ:=Lib.hid hTz
   have hcat:¬9223372036854775807<T.size+Z.size:=by omega
   have HZ1:=Lib.hid hz1
   clear hX hsm hsg hz0 hZ hbr hTz hz1
   subst hao
   go_wp2_with fail
   refine(HSG.out _).mono ?_
   rintro e w1 ⟨rfl,hb1⟩
   have HB1:=Lib.hid (HBR.out.trans (hb1.mono HBR.out.size))
   clear hb1
   go_wp2
   go_roundw
   case rel=>
    refine⟨k+1,T++Z,by omega,rfl,rfl,?_,?_,HB1.out⟩
    ·rw [ByteArray.size_append,HTZ.out,HZ1.out]
    ·intro i hi
     have hz:=HTZ.out
     have hz1:=HZ1.out
     by_cases h:i<k
     ·rw [bt_al (by omega)]
      exact HTB.out i h
     ·obtain rfl:i=k:=by omega
      rw [bt_ar (by omega) (by omega),hz,Nat.sub_self]
      exact HZ0.out
   case measure=>simp [intOf];omega
  ·obtain rfl:k=n:=by omega
   have hS:Hid (SgS k lv T):=Lib.hid ⟨hTz,HTB.out⟩
   have hM:=mk_newN (lc:=lc) (S:=T) (i:=0) (Nat.zero_le _) HROW.out HTT.out HSM.out hn HBR.out
   obtain⟨s,hs0⟩:∃s:PS,s=⟨0,[],-1,0⟩:=⟨_,rfl⟩
   rw [←hs0]at hM
   have HS0:=Lib.hid hs0
   obtain⟨g,hg⟩:∃g,wr.heap.size=g:=⟨_,rfl⟩
   obtain⟨W1,hW1⟩:∃W,wr.alloc (.cells #[.slice la k lc,.string T,.slice none 0 0,.int .i64 0,.int .i64 (-1),.int .i64 0] 54)=W:=⟨_,rfl⟩
   have HG:=Lib.hid hg
   have HW1:=Lib.hid hW1
   rw [hg]at hM
   change Mk _ _ _ _ (wr.alloc (.cells #[.slice la k lc,.string T,.slice none 0 0,.int .i64 0,.int .i64 (-1),.int .i64 0] 54))at hM
   rw [hW1]at hM
   have HM:=Lib.hid hM
   clear hM hs0 hTz
   have hsa:s.a=0:=by rw [HS0.out]
   have hpt:pot s≤0:=by rw [HS0.out];simp [pot]
   have HON:=Lib.hid (fun k' hk=>oneN_any (n:=k) (lv:=lv) (la:=la) (lc:=lc) (S:=T) (g:=g) (w0:=w) (P:=fun j=>j<w.heap.size) k' hk)
   have HPT:=Lib.hid (fun w1 s (h:Mk (kN k lv la lc T g) w (fun j=>j<w.heap.size) s w1)=>pipN_any hS.out w (fun j=>j<w.heap.size) w1 s h)
   have HLL:=Lib.hid (fun a0=>listN_any (w0:=w) (P:=fun j=>j<w.heap.size) (a0:=a0) hS (lstN_ok (la:=la) (lc:=lc) (g:=g) hS a0))
   clear hk hlt HSM HTT HROW hn hbr
   go_wp2_with fail
   refine(begin_any 1 HM.out (pot_lenN HM.out (by omega)) (fun h=>absurd h (by decide))).mono ?_
   rintro e w1 ⟨rfl,hM1⟩
   have HM1:Hid (Mk (kN k lv la lc T g) w (fun j=>j<w.heap.size) (bgn 1 false s) w1):=Lib.hid hM1
   have hp1:=pot_bgn 1 false s
   have ha1:(bgn 1 false s).a=s.a:=rfl
   clear hM1
   go_wp2
   go_loopw [7] (fun v wr=>PrRn k lv la lc T g w (fun j=>j<w.heap.size) (bgn 1 false s) v wr) (fun _ wr=>k+1 - atQ g wr)
   case atStart=>exact⟨0,_,rfl,HM1.out,by rw [if_neg (by decide)];omega,Nat.le_refl _,fun _ _ h=>h,fun h=>absurd h (by decide)⟩
   case round=>
    obtain⟨l,r,rfl,hMr,hpr,har,hk1,hk2⟩:=hrel
    have c0:=now_F hMr
    have c3:=(now_at hMr).1
    have hale:=hMr.ale
    change r.a≤k at hale
    have HMR:=Lib.hid hMr
    have HK1:=Lib.hid hk1
    have HK2:=Lib.hid hk2
    obtain⟨ra,hra⟩:∃ra,r.a=ra:=⟨_,rfl⟩
    rw [hra]at c3
    have HRA:=Lib.hid hra
    clear hMr hk1 hk2 hra
    by_cases hlt:r.a<k
    ·have t1:(ra:Int)<(k:Int):=by have:=HRA.out;omega
     have t2:decide (ra<k)=true:=by have:=HRA.out;simp;omega
     have HL:=Lib.hid (show ltT k r=true from decide_eq_true hlt)
     have HMQ2:=HMR
     obtain⟨b3,hb3⟩:∃b,isS k lv [110] r=b:=⟨_,rfl⟩
     have HC3:=Lib.hid (next_any hS.out ⟨#[110]⟩ [110] (by decide+kernel) HMQ2.out b3 hb3)
     have HB3:=Lib.hid hb3
     clear hb3
     cases b3 with
     |true=>
      go_wp2_with fail
      refine(HC3.out).mono ?_
      rintro e w4 ⟨rfl,hm4⟩
      have HM4:Hid (Mk (kN k lv la lc T g) w (fun j=>j<w.heap.size) r w4):=Lib.hid (by obtain⟨m,rfl⟩:=hm4;exact mk_drew HMQ2.out m)
      clear hm4
      obtain⟨ap5,ax5,e3_5,f3_5,hw5,hM5⟩:=adv_all HM4.out (isS_le (lv:=lv) HB3.out (by decide))
      have HM5:=Lib.hid hM5
      clear hM5
      have hp5:=pot_nxt r
      have ha5:(nxt r).a=r.a+1:=rfl
      go_wp2
      go_roundw
      case rel=>exact⟨l,_,rfl,HM5.out,Int.le_trans (show pot (nxt r)≤pot r by omega) hpr,by omega,fun h s' e=>HK1.out h _ (prg_nl HL.out HB3.out e),fun h s' e=>HK2.out h _ (aft_nl HB3.out e)⟩
      case measure=>
       have e1:=atQ_of HM5.out
       have e2:=atQ_of HMR.out
       have:=isS_le (lv:=lv) HB3.out (by decide)
       have hmm:=HM5.out.ale
       change(nxt r).a≤k at hmm
       rw [e1,e2]
       omega
     |false=>
      go_wp2_with fail
      refine(HC3.out).mono ?_
      rintro e w4 ⟨rfl,hm4⟩
      have HM4:Hid (Mk (kN k lv la lc T g) w (fun j=>j<w.heap.size) r w4):=Lib.hid (by obtain⟨m,rfl⟩:=hm4;exact mk_drew HMQ2.out m)
      clear hm4
      by_cases hl2:l=2
      ·subst hl2
       rw [if_pos rfl]at hpr
       have HMQ5:=HM4
       go_wp2_with fail
       refine(HON.out 17 rfl _ _ HMQ5.out ⟨hlt,pot_lenN HMQ5.out (by omega)⟩).mono ?_
       rintro e w6 ⟨rfl,s6,he6,hM6⟩
       have HM6:=Lib.hid hM6
       have HE6:=Lib.hid he6
       have ha6:=he6.kp.a
       have hp6:=potle he6 (by rfl) (c:= -29) (of_decide_eq_true (by rfl))
       clear hM6 he6
       go_wp2
       go_roundw
       case rel=>exact⟨17,_,rfl,HM6.out,by rw [if_neg (by decide)];omega,by omega,fun _ s' e=>HK2.out (by trivial) _ (aft_err HL.out HB3.out HE6.out e),fun h=>absurd h (by decide)⟩
       case measure=>
        have e1:=atQ_of HM6.out
        have e2:=atQ_of HMR.out
        have:=err_lt HE6.out
        have hmm:=HM6.out.ale
        change s6.a≤k at hmm
        rw [e1,e2]
        omega
      ·rw [if_neg hl2]at hpr
       have u1:(l !=2)=true:=by simpa using hl2
       have u2:(l==2)=false:=by simpa using hl2
       obtain⟨b,hb⟩:∃b,pipT k lv r=b:=⟨_,rfl⟩
       have hc:=HPT.out _ _ HM4.out
       rw [hb]at hc
       have HC:=Lib.hid hc
       have HB:=Lib.hid hb
       have HL2:=Lib.hid hl2
       clear hb hc hl2
       cases b with
       |true=>
        go_wp2_with fail
        refine(HC.out).mono ?_
        rintro e w9 ⟨rfl,hm9⟩
        have HM9:Hid (Mk (kN k lv la lc T g) w (fun j=>j<w.heap.size) r w9):=Lib.hid (by obtain⟨m,rfl⟩:=hm9;exact mk_drew HM4.out m)
        clear hm9
        have HMQ5:=HM9
        go_wp2_with fail
        refine(HLL.out r.a _ _ HMQ5.out ⟨Nat.le_refl _,by omega⟩).mono ?_
        rintro e w6 ⟨rfl,s6,he6,hM6⟩
        have HM6:=Lib.hid hM6
        have HE6:=Lib.hid he6
        have ha6:=he6.kp.a
        have hp6:=potle he6 (by rfl) (c:=4) (of_decide_eq_true (by rfl))
        clear hM6 he6
        have hlt6:=HE6.out.list_lt HB.out
        go_wp2
        go_roundw
        case rel=>exact⟨2,_,rfl,HM6.out,by rw [if_pos rfl];omega,by omega,fun h=>absurd rfl h,fun _ s' e=>HK1.out HL2.out _ (prg_lst HL.out HB3.out HB.out (.lst HE6.out) e)⟩
        case measure=>
         have e1:=atQ_of HM6.out
         have e2:=atQ_of HMR.out
         have:=hlt6
         have hmm:=HM6.out.ale
         change s6.a≤k at hmm
         rw [e1,e2]
         omega
       |false=>
        go_wp2_with fail
        refine(HC.out).mono ?_
        rintro e w9 ⟨rfl,hm9⟩
        have HM9:Hid (Mk (kN k lv la lc T g) w (fun j=>j<w.heap.size) r w9):=Lib.hid (by obtain⟨m,rfl⟩:=hm9;exact mk_drew HM4.out m)
        clear hm9
        have HMQ5:=HM9
        go_wp2_with fail
        refine(HON.out 17 rfl _ _ HMQ5.out ⟨hlt,pot_lenN HMQ5.out (by omega)⟩).mono ?_
        rintro e w6 ⟨rfl,s6,he6,hM6⟩
        have HM6:=Lib.hid hM6
        have HE6:=Lib.hid he6
        have ha6:=he6.kp.a
        have hp6:=potle he6 (by rfl) (c:= -29) (of_decide_eq_true (by rfl))
        clear hM6 he6
        go_wp2
        go_roundw
        case rel=>exact⟨17,_,rfl,HM6.out,by rw [if_neg (by decide)];omega,by omega,fun _ s' e=>HK1.out HL2.out _ (prg_err HL.out HB3.out HB.out HE6.out e),fun h=>absurd h (by decide)⟩
        case measure=>
         have e1:=atQ_of HM6.out
         have e2:=atQ_of HMR.out
         have:=err_lt HE6.out
         have hmm:=HM6.out.ale
         change s6.a≤k at hmm
         rw [e1,e2]
         omega
    ·have t1:¬(ra:Int)<(k:Int):=by have:=HRA.out;omega
     have t2:decide (ra<k)=false:=by have:=HRA.out;simp;omega
     have HE9:Hid (Ev k lv (prgP k lv) (bgn 1 false s) r):=Lib.hid (by
      have hl:=show ltT k r=false from decide_eq_false hlt
      have hx:=isS_out (n:=k) (lv:=lv) (l:=[110]) (by decide) (r:=r) (by omega)
      by_cases h:l=2
      ·exact HK2.out h _ (aft_end hl hx)
      ·exact HK1.out h _ (.stop hl))
     have HMQ2:=HMR
     have HEV3:Hid (Ev k lv (prgP k lv) (bgn 1 false s) r):=Lib.hid (HE9.out)
     go_wp2_with fail
     refine(end_any (k:=1) (s:=s) HEV3.out HMQ2.out (fun h=>absurd h (by decide))).mono ?_
     rintro e w3 ⟨rfl,hM3⟩
     have HM3:=Lib.hid hM3
     clear hM3
     obtain⟨oa,oc,hB3,hO3⟩:=mk_ownN HM3.out
     have hTR:Tree k lv (fin 1 s r).L:=⟨fin 1 s r,by have:=Ev.node HEV3.out;rw [HS0.out]at this ⊢;exact this,by show r.a=k;omega,rfl⟩
     have hBL:=mk_belowN HM3.out
     obtain⟨z,hz⟩:∃z,(fin 1 s r).L.length=z:=⟨_,rfl⟩
     have HX:=Lib.hid (And.intro hTR (And.intro hO3 (And.intro hBL hz)))
     rw [hz]at hB3
     have c2:w3.cell? ⟨g,2,none⟩=some (.slice oa z oc):=hB3.cell 2
     clear hB3 hO3 hTR hBL hz
     go_wp2
     go_ret
     exact⟨_,oa,oc,by rw [HX.out.2.2.2];rfl,HX.out.1,HX.out.2.1,HX.out.2.2.1⟩
end
end Go.Proofs.YtkolpaonccmgiaaGreatDoor.Q
namespace Go.Proofs.YtkolpaonccmgiaaGreatDoor.Q
open Go.RowKit
section
variable {n:Nat} {lv:Nat→Lf} {la:Option Addr} {lc g:Nat} {S:ByteArray} {w0:World} {P:Nat→Prop}
set_option maxRecDepth 100000 in
set_option maxHeartbeats 8000000 in
theorem refbegins_any (w:World) (hL:LfRow w la n lv) (hT:Tx w) (hs:∀i,i<n→(lv i).s.size≤100) (hn:n≤10000) (i:Nat) (hi:i≤n):
  Calls Tryz.prog 24 #[.slice la n lc,.int .i64 (i:Int)] w fun e w'=>e=.returned (.bool (pipT n lv ⟨i,[],-1,0⟩))∧Below w.heap.size w w':=by
 have HROW:=Lib.hid hL
 have HSM:=Lib.hid hs
 have HTT:=Lib.hid hT
 clear hL hT hs
 go_enter Tryz.func24,Tryz.ntmps24
 go_wp2
 go_loopw [5,6] (fun v3 v4 wr=>SiRl n lv w v3 v4 wr) (fun _ v4 _=>n - (intOf v4).toNat)
 case atStart=>exact⟨0,⟨#[]⟩,Nat.zero_le _,rfl,rfl,rfl,fun i h=>by omega,Below.refl _ _⟩
 case round=>
  obtain⟨k,T,hk,rfl,rfl,hTz,hTb,hbr⟩:=hrel
  have HBR:=Lib.hid hbr
  have HTB:=Lib.hid hTb
  clear hTb
  by_cases hlt:k<n
  ·obtain⟨b,off,hao,hbw,c0,c1,c2,c3⟩:=(HROW.out.below hbr) k hlt
   have hsm:=HSM.out k hlt
   have hsg:sgA n lv k=sgn (lv k).k (lv k).s:=by unfold sgA lfA;rw [if_pos hlt]
   obtain⟨X,hX⟩:∃X,lv k=X:=⟨_,rfl⟩
   rw [hX]at c0 c1 c2 c3 hsm hsg
   obtain⟨pk,ps,pf,pt⟩:=X
   simp only at c0 c1 c2 c3 hsm hsg
   have HSG:=Lib.hid (fun W=>refsign_any W ⟨pk,ps,pf,pt⟩ hsm)
   unfold aggF at HSG
   simp only at HSG
   have hz1:(sgB pk ps).size=1:=rfl
   have hz0:(bt (sgB pk ps) 0).toNat=sgA n lv k:=by rw [hsg];show(sgn pk ps).toUInt8.toNat=_;have:=sgn_lt pk ps;rw [Nat.toUInt8];simp;omega
   obtain⟨Z,hZ⟩:∃Z,sgB pk ps=Z:=⟨_,rfl⟩
   rw [hZ]at HSG hz1 hz0
   have HZ0:=Lib.hid hz0
   have q0:(0:Int)≤(k:Int):=by omega
   have q1:(k:Int)<(n:Int):=by omega
   have e1:IntKind.i64.wrap ((k:Int)+1)=((k+1:Nat):Int):=by rw [IntWalk.i64_in _ (by omega)];rfl
   have HTZ:=Lib.hid hTz
   have hcat:¬9223372036854775807<T.size+Z.size:=by omega
   have HZ1:=Lib.hid hz1
   clear hX hsm hsg hz0 hZ hbr hTz hz1
   subst hao
   go_wp2_with fail
   refine(HSG.out _).mono ?_
   rintro e w1 ⟨rfl,hb1⟩
   have HB1:=Lib.hid (HBR.out.trans (hb1.mono HBR.out.size))
   clear hb1
   go_wp2
   go_roundw
   case rel=>
    refine⟨k+1,T++Z,by omega,rfl,rfl,?_,?_,HB1.out⟩
    ·rw [ByteArray.size_append,HTZ.out,HZ1.out]
    ·intro i hi
     have hz:=HTZ.out
     have hz1:=HZ1.out
     by_cases h:i<k
     ·rw [bt_al (by omega)]
      exact HTB.out i h
     ·obtain rfl:i=k:=by omega
      rw [bt_ar (by omega) (by omega),hz,Nat.sub_self]
      exact HZ0.out
   case measure=>simp [intOf];omega
  ·obtain rfl:k=n:=by omega
   have hS:Hid (SgS k lv T):=Lib.hid ⟨hTz,HTB.out⟩
   have hM:=mk_newN (lc:=lc) (S:=T) (i:=i) hi HROW.out HTT.out HSM.out hn HBR.out
   obtain⟨s,hs0⟩:∃s:PS,s=⟨i,[],-1,0⟩:=⟨_,rfl⟩
   rw [←hs0]at hM
   have HS0:=Lib.hid hs0
   obtain⟨g,hg⟩:∃g,wr.heap.size=g:=⟨_,rfl⟩
   obtain⟨W1,hW1⟩:∃W,wr.alloc (.cells #[.slice la k lc,.string T,.slice none 0 0,.int .i64 (i:Int),.int .i64 (-1),.int .i64 0] 54)=W:=⟨_,rfl⟩
   have HG:=Lib.hid hg
   have HW1:=Lib.hid hW1
   rw [hg]at hM
   change Mk _ _ _ _ (wr.alloc (.cells #[.slice la k lc,.string T,.slice none 0 0,.int .i64 (i:Int),.int .i64 (-1),.int .i64 0] 54))at hM
   rw [hW1]at hM
   have HM:=Lib.hid hM
   clear hM hs0 hTz
   have HPT:=Lib.hid (fun w1 s (h:Mk (kN k lv la lc T g) w (fun j=>j<w.heap.size) s w1)=>pipN_any hS.out w (fun j=>j<w.heap.size) w1 s h)
   obtain⟨b,hb⟩:∃b,pipT k lv s=b:=⟨_,rfl⟩
   have hc:=HPT.out _ _ HM.out
   rw [hb]at hc
   have HC:=Lib.hid hc
   have HB:=Lib.hid hb
   clear hk hlt HSM HTT HROW hn hbr hb hc
   go_wp2_with fail
   refine HC.out.mono ?_
   rintro e w1 ⟨rfl,hm1⟩
   have HM1:=Lib.hid (show Below w.heap.size w w1 from by obtain⟨m,rfl⟩:=hm1;exact mk_belowN (mk_drew HM.out m))
   clear hm1
   go_wp2
   go_ret
   exact⟨by rw [←HS0.out,HB.out];rfl,HM1.out⟩
set_option maxRecDepth 100000 in
set_option maxHeartbeats 8000000 in
theorem refcommand_any (w:World) (hL:LfRow w la n lv) (hT:Tx w) (hs:∀i,i<n→(lv i).s.size≤100) (hn:n≤10000) (i:Nat) (hi:i≤n):
  Calls Tryz.prog 26 #[.slice la n lc,.int .i64 (i:Int)] w fun e w'=>Below w.heap.size w w'∧∃s' oa oc,e=.returned (.tuple #[.slice oa s'.L.length oc,.int .i64 (s'.a:Int)])∧Ev n lv (andP n lv) ⟨i,[],-1,0⟩ s'∧s'.a≤n∧w'.ownsRow w.heap.size 32 4 (.slice oa s'.L.length oc) s'.L.length (cellsN s'.L):=by
 have HROW:=Lib.hid hL
 have HSM:=Lib.hid hs
 have HTT:=Lib.hid hT
 clear hL hT hs
 go_enter Tryz.func26,Tryz.ntmps26
 go_wp2
 go_loopw [6,7] (fun v3 v4 wr=>SiRl n lv w v3 v4 wr) (fun _ v4 _=>n - (intOf v4).toNat)
 case atStart=>exact⟨0,⟨#[]⟩,Nat.zero_le _,rfl,rfl,rfl,fun i h=>by omega,Below.refl _ _⟩
 case round=>
  obtain⟨k,T,hk,rfl,rfl,hTz,hTb,hbr⟩:=hrel
  have HBR:=Lib.hid hbr
  have HTB:=Lib.hid hTb
  clear hTb
  by_cases hlt:k<n
  ·obtain⟨b,off,hao,hbw,c0,c1,c2,c3⟩:=(HROW.out.below hbr) k hlt
   have hsm:=HSM.out k hlt
   have hsg:sgA n lv k=sgn (lv k).k (lv k).s:=by unfold sgA lfA;rw [if_pos hlt]
   obtain⟨X,hX⟩:∃X,lv k=X:=⟨_,rfl⟩
   rw [hX]at c0 c1 c2 c3 hsm hsg
   obtain⟨pk,ps,pf,pt⟩:=X
   simp only at c0 c1 c2 c3 hsm hsg
   have HSG:=Lib.hid (fun W=>refsign_any W ⟨pk,ps,pf,pt⟩ hsm)
   unfold aggF at HSG
   simp only at HSG
   have hz1:(sgB pk ps).size=1:=rfl
   have hz0:(bt (sgB pk ps) 0).toNat=sgA n lv k:=by rw [hsg];show(sgn pk ps).toUInt8.toNat=_;have:=sgn_lt pk ps;rw [Nat.toUInt8];simp;omega
   obtain⟨Z,hZ⟩:∃Z,sgB pk ps=Z:=⟨_,rfl⟩
   rw [hZ]at HSG hz1 hz0
   have HZ0:=Lib.hid hz0
   have q0:(0:Int)≤(k:Int):=by omega
   have q1:(k:Int)<(n:Int):=by omega
   have e1:IntKind.i64.wrap ((k:Int)+1)=((k+1:Nat):Int):=by rw [IntWalk.i64_in _ (by omega)];rfl
   have HTZ:=Lib.hid hTz
   have hcat:¬9223372036854775807<T.size+Z.size:=by omega
   have HZ1:=Lib.hid hz1
   clear hX hsm hsg hz0 hZ hbr hTz hz1
   subst hao
   go_wp2_with fail
   refine(HSG.out _).mono ?_
   rintro e w1 ⟨rfl,hb1⟩
   have HB1:=Lib.hid (HBR.out.trans (hb1.mono HBR.out.size))
   clear hb1
   go_wp2
   go_roundw
   case rel=>
    refine⟨k+1,T++Z,by omega,rfl,rfl,?_,?_,HB1.out⟩
    ·rw [ByteArray.size_append,HTZ.out,HZ1.out]
    ·intro i hi
     have hz:=HTZ.out
     have hz1:=HZ1.out
     by_cases h:i<k
     ·rw [bt_al (by omega)]
      exact HTB.out i h
     ·obtain rfl:i=k:=by omega
      rw [bt_ar (by omega) (by omega),hz,Nat.sub_self]
      exact HZ0.out
   case measure=>simp [intOf];omega
  ·obtain rfl:k=n:=by omega
   have hS:Hid (SgS k lv T):=Lib.hid ⟨hTz,HTB.out⟩
   have hM:=mk_newN (lc:=lc) (S:=T) (i:=i) hi HROW.out HTT.out HSM.out hn HBR.out
   obtain⟨s,hs0⟩:∃s:PS,s=⟨i,[],-1,0⟩:=⟨_,rfl⟩
   rw [←hs0]at hM
   have HS0:=Lib.hid hs0
   obtain⟨g,hg⟩:∃g,wr.heap.size=g:=⟨_,rfl⟩
   obtain⟨W1,hW1⟩:∃W,wr.alloc (.cells #[.slice la k lc,.string T,.slice none 0 0,.int .i64 (i:Int),.int .i64 (-1),.int .i64 0] 54)=W:=⟨_,rfl⟩
   have HG:=Lib.hid hg
   have HW1:=Lib.hid hW1
   rw [hg]at hM
   change Mk _ _ _ _ (wr.alloc (.cells #[.slice la k lc,.string T,.slice none 0 0,.int .i64 (i:Int),.int .i64 (-1),.int .i64 0] 54))at hM
   rw [hW1]at hM
   have HM:=Lib.hid hM
   clear hM hs0 hTz
   have HAN:=Lib.hid (fun a0=>andorN_any (w0:=w) (P:=fun j=>j<w.heap.size) (a0:=a0) hS (lstN_ok (la:=la) (lc:=lc) (g:=g) hS a0))
   have hsa:s.a=i:=by rw [HS0.out]
   have hpt:pot s≤0:=by rw [HS0.out];simp only [pot,List.length_nil];omega
   clear hk hlt HSM HTT HROW hn hbr
   go_wp2_with fail
   refine(HAN.out i _ _ HM.out ⟨by omega,by omega⟩).mono ?_
   rintro e w1 ⟨rfl,s1,he1,hM1⟩
   have HM1:=Lib.hid hM1
   have HE1:=Lib.hid he1
   have ha1:=he1.kp.a
   clear hM1 he1
   have ha3:=HM1.out.ale
   change s1.a≤k at ha3
   obtain⟨oa,oc,hB3,hO3⟩:=mk_ownN HM1.out
   have c2:w1.cell? ⟨g,2,none⟩=some (.slice oa s1.L.length oc):=hB3.cell 2
   have c3:w1.cell? ⟨g,3,none⟩=some (.int .i64 (s1.a:Int)):=hB3.cell 3
   have HO:=Lib.hid hO3
   have HBL:=Lib.hid (mk_belowN HM1.out)
   obtain⟨z,hz⟩:∃z,s1.L.length=z:=⟨_,rfl⟩
   obtain⟨a3,haa⟩:∃a3,s1.a=a3:=⟨_,rfl⟩
   rw [hz]at c2
   rw [haa]at c3
   have HZ:=Lib.hid (And.intro hz haa)
   have HA3:=Lib.hid ha3
   clear hB3 hO3 hz haa ha1 ha3
   go_wp2
   go_quiet (fail)
   go_wp2
   go_ret2
   refine⟨belN HBL.out _,s1,oa,oc,?_,by(have h:=HE1.out;rw [HS0.out]at h;exact h),HA3.out,own_frm ((Frm.refl (fun _=>False) _).drewN _) HO.out (fun _ _ h=>h)⟩
   rw [HZ.out.1,HZ.out.2]
   rfl
end
theorem eq_nd (a b c d a' b' c' d':Int) (w:World):(Op.equalIn 10000 32 (.agg #[.int .i64 a,.int .i64 b,.int .i64 c,.int .i64 d]) (.agg #[.int .i64 a',.int .i64 b',.int .i64 c',.int .i64 d'])).run Tryz.prog w=.ok (a==a' &&(b==b' &&(c==c' && d==d'))) w:=by
 have u3:=Tryz.underlying3
 have a3:=Tryz.isAgg3
 have z3:=Tryz.sizeOf3
 have hS:Tryz.prog.underlying 32=some (.struct (Tryz.prog.fieldsOf 32)):=by kernel_rfl
 rw [show(10000:Nat)=9999+1 from rfl,run_equalIn_agg w 9999 32 _ _ hS (by kernel_rfl)]
 simp only [Program.fieldsOf,Tryz.underlying32]
 go_simp
 by_cases h1:a=a'<;>by_cases h2:b=b'<;>by_cases h3:c=c'<;>by_cases h4:d=d'<;>simp [h1,h2,h3,h4]
theorem neq_nd_same (a b c d:Int) (w:World):(binOp .neq 32 (.agg #[.int .i64 a,.int .i64 b,.int .i64 c,.int .i64 d]) (.agg #[.int .i64 a,.int .i64 b,.int .i64 c,.int .i64 d])).run Tryz.prog w=.ok (.bool false) w:=by
 rw [run_neq_struct,eq_nd]
 simp [Result.andThen]
def StRl (m:Nat) (w:World) (v:Value) (wr:World):Prop:=∃k:Nat,k≤m∧v=.int .i64 (k:Int)∧Below w.heap.size w wr
set_option maxRecDepth 100000 in
set_option maxHeartbeats 8000000 in
theorem same_any (w:World) (oa ob:Option Addr) (m ca cb:Nat) (nv:Nat→Nd) (h1:NRow w oa m nv) (h2:NRow w ob m nv) (hm:m≤1000000):
  Calls Tryz.prog 12 #[.slice oa m ca,.slice ob m cb] w fun e w'=>e=.returned (.bool true)∧Below w.heap.size w w':=by
 have H1:=Lib.hid h1
 have H2:=Lib.hid h2
 clear h1 h2
 go_enter Tryz.func12,Tryz.ntmps12
 go_wp2
 go_loopw [5] (fun v wr=>StRl m w v wr) (fun v _=>m - (intOf v).toNat)
 case atStart=>exact⟨0,Nat.zero_le _,rfl,Below.refl _ _⟩
 case round=>
  obtain⟨k,hk,rfl,hbr⟩:=hrel
  have HBR:=Lib.hid hbr
  by_cases hlt:k<m
  ·obtain⟨b1,o1,hao,hbw,c0,c1,c2,c3⟩:=(H1.out.below hbr) k hlt
   obtain⟨b2,o2,hbo,hbw2,d0,d1,d2,d3⟩:=(H2.out.below hbr) k hlt
   subst hao
   subst hbo
   obtain⟨X,hX⟩:∃X,nv k=X:=⟨_,rfl⟩
   rw [hX]at c0 c1 c2 c3 d0 d1 d2 d3
   obtain⟨pk,pf,pt,pu⟩:=X
   simp only at c0 c1 c2 c3 d0 d1 d2 d3
   have hneq:=neq_nd_same pk pf pt pu
   have q0:(0:Int)≤(k:Int):=by omega
   have q1:(k:Int)<(m:Int):=by omega
   have e1:IntKind.i64.wrap ((k:Int)+1)=((k+1:Nat):Int):=by rw [IntWalk.i64_in _ (by omega)];rfl
   clear hX hbr hbw hbw2
   go_wp2
   go_quiet (fail)
   go_wp2
   go_roundw
   case rel=>exact⟨k+1,by omega,rfl,belN HBR.out _⟩
   case measure=>simp [intOf];omega
  ·obtain rfl:k=m:=by omega
   clear hlt hbr
   go_wp2
   go_ret
   exact⟨rfl,HBR.out⟩
set_option maxRecDepth 100000 in
set_option maxHeartbeats 8000000 in
theorem red63 (w:World) (g:Nat) (hg:g<w.heap.size) (c6:w.cell? ⟨g,6,none⟩=some (.int .u8 63)):
  Calls Tryz.prog 99 #[.pointer (some ⟨g,0,none⟩)] w fun e w'=>e=.returned (.bool false)∧Below w.heap.size w w':=by
 go_enter Tryz.func99,Tryz.ntmps99
 go_wp2
 go_ret
 exact⟨rfl,Below.refl _ _⟩
set_option maxRecDepth 100000 in
set_option maxHeartbeats 8000000 in
theorem cmp63 (w:World) (g:Nat) (hg:g<w.heap.size) (c6:w.cell? ⟨g,6,none⟩=some (.int .u8 63)):
  Calls Tryz.prog 100 #[.pointer (some ⟨g,0,none⟩)] w fun e w'=>e=.returned (.bool false)∧Below w.heap.size w w':=by
 have HC:=Lib.hid (index_any ⟨#[123,40,105,119,114,99]⟩ (63:Int) w)
 have hq:Lib.indexByte (⟨#[123,40,105,119,114,99]⟩:ByteArray).data.toList ((63:Int).toNat).toUInt8= -1:=by decide+kernel
 rw [hq]at HC
 clear hq
 go_enter Tryz.func100,Tryz.ntmps100
 go_wp2_with fail
 refine HC.out.mono ?_
 rintro e w1 ⟨rfl,rfl⟩
 go_wp2
 go_ret
 exact⟨rfl,Below.refl _ _⟩
set_option maxRecDepth 100000 in
set_option maxHeartbeats 8000000 in
theorem cmd63 (w:World) (g:Nat) (hg:g<w.heap.size) (c6:w.cell? ⟨g,6,none⟩=some (.int .u8 63)):
  Calls Tryz.prog 70 #[.pointer (some ⟨g,0,none⟩)] w fun e w'=>e=.returned (.bool false)∧Below w.heap.size w w':=by
 have HR:=Lib.hid (red63 w g hg c6)
 have HCM:=Lib.hid (fun W (h:Below w.heap.size w W)=>cmp63 W g (Nat.lt_of_lt_of_le hg h.size) ((h.cell (p:=⟨g,6,none⟩) hg).trans c6))
 go_enter Tryz.func70,Tryz.ntmps70
 go_wp2_with fail
 refine HR.out.mono ?_
 rintro e w1 ⟨rfl,hb1⟩
 have HB1:=Lib.hid hb1
 clear hb1
 go_wp2_with fail
 refine(HCM.out _ HB1.out).mono ?_
 rintro e w2 ⟨rfl,hb2⟩
 have HB2:=Lib.hid (HB1.out.trans (hb2.mono HB1.out.size))
 clear hb2
 go_wp2
 go_ret
 exact⟨rfl,HB2.out⟩
set_option maxRecDepth 100000 in
set_option maxHeartbeats 8000000 in
theorem pip63 (w:World) (g:Nat) (hg:g<w.heap.size) (c6:w.cell? ⟨g,6,none⟩=some (.int .u8 63)):
  Calls Tryz.prog 44 #[.pointer (some ⟨g,0,none⟩)] w fun e w'=>e=.returned (.bool false)∧Below w.heap.size w w':=by
 have HR:=Lib.hid (cmd63 w g hg c6)
 go_enter Tryz.func44,Tryz.ntmps44
 go_wp2_with fail
 refine HR.out.mono ?_
 rintro e w1 ⟨rfl,hb1⟩
 have HB1:=Lib.hid hb1
 clear hb1
 go_wp2
 go_ret
 exact⟨rfl,HB1.out⟩
section
variable {n:Nat} {lv:Nat→Lf} {la:Option Addr} {lc g:Nat} {S:ByteArray} {w0:World} {P:Nat→Prop}
set_option maxRecDepth 100000 in
set_option maxHeartbeats 8000000 in
theorem begins_out (w:World) (hL:LfRow w la n lv) (hT:Tx w) (hs:∀i,i<n→(lv i).s.size≤100) (hn:n≤10000) (i:Int) (hi:¬(0≤i∧i<(n:Int))):
  Calls Tryz.prog 25 #[.slice la n lc,.int .i64 i] w fun e w'=>e=.returned (.bool false)∧Below w.heap.size w w':=by
 have hf:lfI n lv i=lf0:=by unfold lfI;rw [if_neg hi]
 have HN:=Lib.hid (newmaker_raw (lc:=lc) hL hT hs i)
 rw [hf]at HN
 clear hL hT hs hn hf hi
 go_enter Tryz.func25,Tryz.ntmps25
 go_wp2_with fail
 refine HN.out.mono ?_
 rintro e w1 ⟨rfl,hB1,hb1⟩
 have hg:w.heap.size<w1.heap.size:=hB1.lt
 have HP:=Lib.hid (pip63 w1 w.heap.size hg (hB1.cell 6))
 have HB1:=Lib.hid hb1
 clear hB1 hb1 hg
 go_wp2_with fail
 refine HP.out.mono ?_
 rintro e w2 ⟨rfl,hb2⟩
 have HB2:=Lib.hid (HB1.out.trans (hb2.mono HB1.out.size))
 clear hb2
 go_wp2
 go_ret
 exact⟨rfl,HB2.out⟩
set_option maxRecDepth 100000 in
set_option maxHeartbeats 8000000 in
theorem command_out (w:World) (hL:LfRow w la n lv) (hT:Tx w) (hs:∀i,i<n→(lv i).s.size≤100) (hn:n≤10000) (i:Int) (hi:¬(0≤i∧i<(n:Int))):
  Calls Tryz.prog 23 #[.slice la n lc,.int .i64 i] w fun e w'=>e=.returned (.tuple #[.slice none 0 0,.int .i64 0])∧Below w.heap.size w w':=by
 have hf:lfI n lv i=lf0:=by unfold lfI;rw [if_neg hi]
 have HN:=Lib.hid (newmaker_raw (lc:=lc) hL hT hs i)
 rw [hf]at HN
 clear hL hT hs hn hf hi
 go_enter Tryz.func23,Tryz.ntmps23
 go_wp2_with fail
 refine HN.out.mono ?_
 rintro e w1 ⟨rfl,hB1,hb1⟩
 have hg:w.heap.size<w1.heap.size:=hB1.lt
 have HP:=Lib.hid (pip63 w1 w.heap.size hg (hB1.cell 6))
 have HB1:=Lib.hid hb1
 clear hB1 hb1 hg
 go_wp2_with fail
 refine HP.out.mono ?_
 rintro e w2 ⟨rfl,hb2⟩
 have HB2:=Lib.hid (HB1.out.trans (hb2.mono HB1.out.size))
 clear hb2
 go_wp2
 go_ret2
 exact⟨rfl,HB2.out⟩
end
end Go.Proofs.YtkolpaonccmgiaaGreatDoor.Q
namespace Go.Proofs.YtkolpaonccmgiaaGreatDoor.Q
open Go.RowKit
section
variable (w:World)
set_option maxRecDepth 100000 in
set_option maxHeartbeats 8000000 in
theorem trees_law (hT:Tx w) (la:Option Addr) (n lc:Nat) (lv:Nat→Lf) (hrow:LfRow w la n lv):
  Calls Tryz.prog 3 #[.slice la n lc] w fun e w'=>e=.returned (.bool true)∧Below w.heap.size w w':=by
 have HA:=Lib.hid (awakeP_any w hT)
 have HROW:=Lib.hid hrow
 have HT:=Lib.hid hT
 have HS:=Lib.hid (fun W (h:Below w.heap.size w W)=>short_any W la n lc lv (hrow.below h) 40 (by omega))
 clear hT hrow
 go_enter Tryz.func3,Tryz.ntmps3
 go_wp2_with fail
 refine HA.out.mono ?_
 rintro e w1 ⟨rfl,hb1⟩
 have HB1:=Lib.hid hb1
 clear hb1
 go_wp2_with fail
 refine(HS.out _ HB1.out).mono ?_
 rintro e w2 ⟨⟨b,rfl,hb⟩,rfl⟩
 cases b with
 |false=>
  go_wp2
  go_ret
  exact⟨rfl,HB1.out⟩
 |true=>
  obtain⟨hn,hs⟩:=hb.1 rfl
  have hs2:∀i,i<n→(lv i).s.size≤100:=fun i hi=>Nat.le_trans (hs i hi) (by omega)
  clear hb hs
  have HP:=Lib.hid (parse_any (lc:=lc) w2 (HROW.out.below HB1.out) (HT.out.b HB1.out) hs2 (by omega))
  have HR:=Lib.hid (fun W (h:Below w.heap.size w W)=>refparse_any (lc:=lc) W (HROW.out.below h) (HT.out.b h) hs2 (by omega))
  clear hs2
  go_wp2_with fail
  refine HP.out.mono ?_
  rintro e w3 ⟨L,oa,oc,rfl,hTr,hO,hb3⟩
  have hlen:=hTr.len
  have hR:=(owns_nrow hO).2
  have HTR:=Lib.hid hTr
  have HB3:=Lib.hid (HB1.out.trans (hb3.mono HB1.out.size))
  clear hTr hO hb3
  obtain⟨m,hm⟩:∃m,L.length=m:=⟨_,rfl⟩
  rw [hm]at hR hlen ⊢
  have hml:m≤1000000:=by omega
  have HM:=Lib.hid hm
  have HNR:=Lib.hid hR
  clear hm hR hlen
  go_wp2_with fail
  refine(HR.out _ HB3.out).mono ?_
  rintro e w4 ⟨L2,ob,cb,rfl,hTr2,hO2,hb4⟩
  have hLL:=HTR.out.one hTr2
  subst hLL
  have hR2:=(owns_nrow hO2).2
  rw [HM.out]at hR2 ⊢
  have HSM:=Lib.hid (same_any w4 oa ob m oc cb (nl L) (HNR.out.below hb4) hR2 hml)
  have HB4:=Lib.hid (HB3.out.trans (hb4.mono HB3.out.size))
  clear hTr2 hO2 hb4 hR2
  go_wp2_with fail
  refine HSM.out.mono ?_
  rintro e w5 ⟨rfl,hb5⟩
  have HB5:=Lib.hid (HB4.out.trans (hb5.mono HB4.out.size))
  clear hb5
  go_wp2
  go_ret
  exact⟨rfl,HB5.out⟩
end
end Go.Proofs.YtkolpaonccmgiaaGreatDoor.Q
namespace Go.Proofs.YtkolpaonccmgiaaGreatDoor.Q
open Go.RowKit
section
variable (w:World)
set_option maxRecDepth 100000 in
set_option maxHeartbeats 8000000 in
theorem commands_law (hT:Tx w) (la:Option Addr) (n lc:Nat) (lv:Nat→Lf) (hrow:LfRow w la n lv) (at':Int):
  Calls Tryz.prog 9 #[.slice la n lc,.int .i64 at'] w fun e w'=>e=.returned (.bool true)∧Below w.heap.size w w':=by
 have HA:=Lib.hid (awakeP_any w hT)
 have HROW:=Lib.hid hrow
 have HT:=Lib.hid hT
 have HS:=Lib.hid (fun W (h:Below w.heap.size w W)=>short_any W la n lc lv (hrow.below h) 40 (by omega))
 clear hT hrow
 go_enter Tryz.func9,Tryz.ntmps9
 go_wp2_with fail
 refine HA.out.mono ?_
 rintro e w1 ⟨rfl,hb1⟩
 have HB1:=Lib.hid hb1
 clear hb1
 go_wp2_with fail
 refine(HS.out _ HB1.out).mono ?_
 rintro e w2 ⟨⟨b,rfl,hb⟩,rfl⟩
 cases b with
 |false=>
  go_wp2
  go_ret
  exact⟨rfl,HB1.out⟩
 |true=>
  obtain⟨hn,hs⟩:=hb.1 rfl
  have hs2:∀i,i<n→(lv i).s.size≤100:=fun i hi=>Nat.le_trans (hs i hi) (by omega)
  clear hb hs
  by_cases hin:0≤at'∧at'<(n:Int)
  ·obtain⟨i,rfl⟩:∃i:Nat,at'=(i:Int):=⟨at'.toNat,by omega⟩
   have hi:i≤n:=by omega
   have hi2:i<n:=by omega
   have x1:¬(i:Int)<0:=by omega
   have x2:decide ((i:Int)<0)=false:=decide_eq_false x1
   have x3:¬(n:Int)≤(i:Int):=by omega
   have x4:decide ((n:Int)≤(i:Int))=false:=decide_eq_false x3
   have x5:¬n≤i:=by omega
   have x6:decide (n≤i)=false:=decide_eq_false x5
   obtain⟨b,hb⟩:∃b,pipT n lv ⟨i,[],-1,0⟩=b:=⟨_,rfl⟩
   have HC:=Lib.hid (command_in (lc:=lc) w2 (HROW.out.below HB1.out) (HT.out.b HB1.out) hs2 (by omega) i hi b hb)
   have hbg:=fun W (h:Below w.heap.size w W)=>begins_in (lc:=lc) W (HROW.out.below h) (HT.out.b h) hs2 (by omega) i hi
   have hrb:=fun W (h:Below w.heap.size w W)=>refbegins_any (lc:=lc) W (HROW.out.below h) (HT.out.b h) hs2 (by omega) i hi
   rw [hb]at hbg hrb
   have HBG:=Lib.hid hbg
   have HRB:=Lib.hid hrb
   have HRC:=Lib.hid (fun W (h:Below w.heap.size w W)=>refcommand_any (lc:=lc) W (HROW.out.below h) (HT.out.b h) hs2 (by omega) i hi)
   clear hbg hrb hb hs2 hin
   cases b with
   |false=>
    go_wp2_with fail
    refine HC.out.mono ?_
    rintro e w3 ⟨hb3,h3⟩
    have HB3:=Lib.hid (HB1.out.trans (hb3.mono HB1.out.size))
    rcases h3 with⟨_,rfl⟩|⟨h,_⟩
    ·clear hb3
     go_wp2_with fail
     refine(HRB.out _ HB3.out).mono ?_
     rintro e w4 ⟨rfl,hb4⟩
     have HB4:=Lib.hid (HB3.out.trans (hb4.mono HB3.out.size))
     clear hb4
     go_wp2_with fail
     refine(HBG.out _ HB4.out).mono ?_
     rintro e w5 ⟨rfl,hb5⟩
     have HB5:=Lib.hid (HB4.out.trans (hb5.mono HB4.out.size))
     clear hb5
     go_wp2
     go_ret
     exact⟨rfl,HB5.out⟩
    ·cases h
   |true=>
    go_wp2_with fail
    refine HC.out.mono ?_
    rintro e w3 ⟨hb3,h3⟩
    have HB3:=Lib.hid (HB1.out.trans (hb3.mono HB1.out.size))
    rcases h3 with⟨h,_⟩|⟨_,s3,oa,oc,rfl,he3,hle3,hO3⟩
    ·cases h
    ·have hR:=(owns_nrow hO3).2
     have hp3:=potle he3 (by rfl) (c:=3) (of_decide_eq_true (by rfl))
     unfold pot at hp3
     simp only [List.length_nil]at hp3
     obtain⟨m,hm⟩:∃m,s3.L.length=m:=⟨_,rfl⟩
     obtain⟨a3,haa⟩:∃a3,s3.a=a3:=⟨_,rfl⟩
     rw [hm]at hR hp3 ⊢
     rw [haa]
     have hml:m≤1000000:=by omega
     have HM:=Lib.hid (And.intro hm haa)
     have HNR:=Lib.hid hR
     have HE:=Lib.hid he3
     clear hb3 he3 hle3 hO3 hR hp3 hm haa
     go_wp2_with fail
     refine(HRB.out _ HB3.out).mono ?_
     rintro e w4 ⟨rfl,hb4⟩
     have HB4:=Lib.hid (HB3.out.trans (hb4.mono HB3.out.size))
     have HNR4:=Lib.hid (HNR.out.below hb4)
     clear hb4
     go_wp2_with fail
     refine(HRC.out _ HB4.out).mono ?_
     rintro e w5 ⟨hb5,s5,ob,cb,rfl,he5,hle5,hO5⟩
     have hss:=HE.out.one he5
     subst hss
     have HB5:=Lib.hid (HB4.out.trans (hb5.mono HB4.out.size))
     have hR5:=(owns_nrow hO5).2
     rw [HM.out.1]at hR5 ⊢
     rw [HM.out.2]
     have HNR5:=Lib.hid hR5
     have HNRA:=Lib.hid (HNR4.out.below hb5)
     clear hb5 he5 hle5 hO5 hR5
     go_wp2_with fail
     refine(HBG.out _ HB5.out).mono ?_
     rintro e w6 ⟨rfl,hb6⟩
     have HB6:=Lib.hid (HB5.out.trans (hb6.mono HB5.out.size))
     have HSM:=Lib.hid (same_any w6 oa ob m oc cb (nl s3.L) (HNRA.out.below hb6) (HNR5.out.below hb6) hml)
     clear hb6
     go_wp2_with fail
     refine(HSM.out).mono ?_
     rintro e w7 ⟨rfl,hb7⟩
     have HB7:=Lib.hid (HB6.out.trans (hb7.mono HB6.out.size))
     clear hb7
     go_wp2
     go_ret
     exact⟨by simp,HB7.out⟩
  ·have HC:=Lib.hid (command_out (lc:=lc) w2 (HROW.out.below HB1.out) (HT.out.b HB1.out) hs2 (by omega) at' hin)
   have HBG:=Lib.hid (fun W (h:Below w.heap.size w W)=>begins_out (lc:=lc) W (HROW.out.below h) (HT.out.b h) hs2 (by omega) at' hin)
   clear hs2
   by_cases h0:at'<0
   ·have x2:decide (at'<0)=true:=decide_eq_true h0
    clear hin
    go_wp2_with fail
    refine(HC.out).mono ?_
    rintro e w3 ⟨rfl,hb3⟩
    have HB3:=Lib.hid (HB1.out.trans (hb3.mono HB1.out.size))
    clear hb3
    go_wp2_with fail
    refine(HBG.out _ HB3.out).mono ?_
    rintro e w4 ⟨rfl,hb4⟩
    have HB4:=Lib.hid (HB3.out.trans (hb4.mono HB3.out.size))
    clear hb4
    go_wp2
    go_ret
    exact⟨rfl,HB4.out⟩
   ·have x2:decide (at'<0)=false:=decide_eq_false h0
    have x3:(n:Int)≤at':=by omega
    have x4:decide ((n:Int)≤at')=true:=decide_eq_true x3
    clear hin
    go_wp2_with fail
    refine(HC.out).mono ?_
    rintro e w3 ⟨rfl,hb3⟩
    have HB3:=Lib.hid (HB1.out.trans (hb3.mono HB1.out.size))
    clear hb3
    go_wp2_with fail
    refine(HBG.out _ HB3.out).mono ?_
    rintro e w4 ⟨rfl,hb4⟩
    have HB4:=Lib.hid (HB3.out.trans (hb4.mono HB3.out.size))
    clear hb4
    go_wp2
    go_ret
    exact⟨rfl,HB4.out⟩
end
end Go.Proofs.YtkolpaonccmgiaaGreatDoor.Q

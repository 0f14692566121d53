/- What the document's own Above of layer 11 (tree) r -/
import Derived.Test.YtkolpaonccmgiaaGreatDoorSv
set_option linter.unusedVariables false
namespace Go.Proofs.YtkolpaonccmgiaaGreatDoor.Q
set_option linter.unusedSectionVars false
set_option linter.unusedVariables false
open Go.RowKit
section
variable (w:World)
def AbRl (nv:Nat→Nd) (a:Int) (b:Nat) (v2:Value):Prop:=
 (∃x:Nat,v2=.int .i64 (x:Int)∧x≤b∧Abv nv x b∧∀y:Nat,Abv nv y b→x<y→(y:Int)≠a)∨(∃z:Int,v2=.int .i64 z∧z<0∧∀y:Nat,Abv nv y b→(y:Int)≠a)
theorem abv_next {nv:Nat→Nd} {n x b:Nat} {a:Int} (hs:Sp nv n) (hb:b<n) (hx:Abv nv x b) (hy:∀y:Nat,Abv nv y b→x<y→(y:Int)≠a) (hne:(a==(x:Int))=false):AbRl nv a b (.int .i64 (nv x).u):=by
 have hle:=hx.le
 have hne':a≠(x:Int):=by simpa using hne
 rcases Nat.eq_zero_or_pos x with rfl|h0
 ·refine .inr ⟨_,rfl,by rw [hs.1];decide,fun y hy'=>?_⟩
  rcases Nat.eq_zero_or_pos y with rfl|h1
  ·exact fun h=>hne' h.symm
  ·exact hy y hy' h1
 ·obtain⟨u,e,l,_⟩:=hs.2 x h0 (by omega)
  refine .inl ⟨u,by rw [e],by omega,(Abv.up e l .self).trans hx,fun y hy' hu=>?_⟩
  rcases Nat.lt_or_ge x y with h1|h1
  ·exact hy y hy' h1
  ·rcases Nat.lt_or_ge y x with h2|h2
   ·have h3:=hy'.tot hx (by omega)
    rcases h3.inv with rfl|⟨c,e',l',g'⟩
    ·omega
    ·have:=g'.le;omega
   ·obtain rfl:y=x:=by omega
    exact fun h=>hne' h.symm
set_option maxHeartbeats 1000000 in
theorem above_any (ao:Option Addr) (len cap n:Nat) (nv:Nat→Nd) (hrow:NRow w ao len nv) (hs:Sp nv n) (hn:n≤len) (a:Int) (b:Nat) (hb:b<n) (x:Bool) (hx:x=true↔∃y:Nat,(y:Int)=a∧Abv nv y b) (hlen:len≤1000000):
  Calls Tryz.prog 38 #[.slice ao len cap,.int .i64 a,.int .i64 (b:Int)] w fun e w'=>e=.returned (.bool x)∧w'=w:=by
 have HROW:=Lib.hid hrow
 have HX:=Lib.hid hx
 clear hrow hx
 go_enter Tryz.func38,Tryz.ntmps38
 go_wp2
 go_loopw [2] (fun v2 wr=>AbRl nv a b v2∧wr=w) (fun v2 _=>((intOf v2)+1).toNat)
 case atStart=>exact⟨.inl ⟨b,rfl,Nat.le_refl _,.self,fun y h1 h2=>by have:=h1.le;omega⟩,rfl⟩
 case round=>
  obtain⟨hA,rfl⟩:=hrel
  rcases hA with⟨y,rfl,hyb,hya,hyn⟩|⟨z,rfl,hz,hyn⟩
  ·have hnx:=fun h=>abv_next hs hb hya hyn h
   have hup:((nv y).u)<(y:Int):=by
    rcases Nat.eq_zero_or_pos y with rfl|h0
    ·rw [hs.1];decide
    ·obtain⟨u,e,l,_⟩:=hs.2 y h0 (by omega)
     omega
   obtain⟨bb,off,rfl,hbw,c0,c1,c2,c3⟩:=HROW.out y (by omega)
   obtain⟨p,hp⟩:∃p,nv y=p:=⟨_,rfl⟩
   rw [hp]at c0 c1 c2 c3 hnx hup
   obtain⟨k,f,t,u⟩:=p
   simp only at c0 c1 c2 c3 hnx hup
   have q0:(0:Int)≤(y:Int):=by omega
   have q1:(y:Int)<(len:Int):=by omega
   have HNX:=Lib.hid hnx
   clear hnx hp
   go_wp2
   ·go_ret
    refine⟨ret_bool ?_,rfl⟩
    symm
    rw [HX.out]
    rename_i hay
    have h':a=(y:Int):=by simpa using hay
    exact⟨y,h'.symm,hya⟩
   ·go_roundw
    case rel=>exact⟨HNX.out (by assumption),by first|rfl|trivial⟩
    case measure=>simp [intOf];omega
  ·go_wp2
   go_ret
   refine⟨ret_bool ?_,rfl⟩
   symm
   rw [←Bool.not_eq_true,HX.out]
   rintro⟨y,h1,h2⟩
   exact hyn y h2 h1
end
section
variable (w:World)
def RrRl (nv:Nat→Nd) (len:Nat) (w:World) (v5:Value) (wr:World):Prop:=
 ∃i:Nat,v5=.int .i64 (i:Int)∧i≤len∧(∀j,j<i→okN nv j)∧Below w.heap.size w wr
def RrRl2 (nv:Nat→Nd) (i:Nat) (u:Nat) (w:World) (v7:Value) (wr:World):Prop:=
 ∃k:Nat,v7=.int .i64 (k:Int)∧1≤k∧k≤i∧(∀j,0<j→j<k→(nv j).u=(u:Int)→(nv j).t≤(nv i).f)∧Below w.heap.size w wr
set_option maxRecDepth 100000 in
set_option maxHeartbeats 8000000 in
theorem refright_any (ao:Option Addr) (len cap:Nat) (nv:Nat→Nd) (hrow:NRow w ao len nv) (lv:Int) (hlen:len≤1000000):
  Calls Tryz.prog 16 #[.slice ao len cap,.int .i64 lv] w fun e w'=>RetB e (Rt nv len lv)∧Below w.heap.size w w':=by
 have HROW:=Lib.hid hrow
 rcases Nat.eq_zero_or_pos len with h0|h0
 ·subst h0
  have hno:¬Rt nv 0 lv:=fun h=>absurd h.pos (Nat.lt_irrefl _)
  have HNO:=Lib.hid hno
  clear hno hrow
  go_enter Tryz.func16,Tryz.ntmps16
  go_wp2
  go_ret
  exact⟨.no HNO.out,Below.refl _ _⟩
 ·obtain⟨b,off,rfl,hbw,c0,c1,c2,c3⟩:=hrow 0 h0
  have hlz:((len:Int)==0)=false:=by simp;omega
  have q0:(0:Int)<(len:Int):=by omega
  obtain⟨X,hX⟩:∃X,nv 0=X:=⟨_,rfl⟩
  have HX:=Lib.hid hX
  rw [hX]at c0 c1 c2 c3
  obtain⟨xk,xf,xt,xu⟩:=X
  simp only [Nat.zero_mul,Nat.add_zero]at c0 c1 c2 c3
  clear hX hrow
  by_cases hg:xu= -1∧xf=0∧xt=lv
  ·obtain⟨g1,g2,g3⟩:=hg
   subst g1 g2 g3
   have hrt:(∀j,j<len→okN nv j)→Rt nv len xt:=fun h=>⟨h0,by rw [HX.out],by rw [HX.out],by rw [HX.out],h⟩
   have HRT:=Lib.hid hrt
   clear hrt
   go_enter Tryz.func16,Tryz.ntmps16
   go_wp2
   go_loopw [5] (fun v5 wr=>RrRl nv len w v5 wr) (fun v5 _=>len - (intOf v5).toNat)
   case atStart=>exact⟨0,rfl,Nat.zero_le _,fun j h=>by omega,Below.refl _ _⟩
   case round=>
    obtain⟨i,rfl,hil,hok,hB⟩:=hrel
    have HOK:=Lib.hid hok
    have HB:=Lib.hid hB
    clear hok hB
    by_cases hlt:(i:Int)<(len:Int)
    ·have hlt':i<len:=by omega
     have r0:(0:Int)≤(i:Int):=by omega
     have HSP:=Lib.hid (sp_of (nv:=nv) (n:=i) (by rw [HX.out]) HOK.out)
     obtain⟨bi,offi,hao,hbi,d0,d1,d2,d3⟩:=(HROW.out.below HB.out) i hlt'
     cases hao
     obtain⟨P,hP⟩:∃P,nv i=P:=⟨_,rfl⟩
     have HP:=Lib.hid hP
     rw [hP]at d0 d1 d2 d3
     obtain⟨pk,pf,pt,pu⟩:=P
     simp only at d0 d1 d2 d3
     clear hP
     by_cases hk:1≤pk∧pk≤18∧pf≤pt
     ·obtain⟨k1,k2,k3⟩:=hk
      have n1:¬pk<1:=by omega
      have n2:¬18<pk:=by omega
      have n3:¬pt<pf:=by omega
      have m1:decide (pk<1)=false:=by simpa using n1
      have m2:decide (18<pk)=false:=by simpa using n2
      have m3:decide (pt<pf)=false:=by simpa using n3
      have HK:=Lib.hid (And.intro k1 (And.intro k2 k3))
      clear k1 k2 k3
      go_wp2
      go_quiet (fail)
      obtain⟨V,hV⟩:∃V,V=wr.drewN nq:=⟨_,rfl⟩
      have hBV:Below w.heap.size w V:=by rw [hV];exact belN HB.out _
      have f1:V.cell? ⟨b,off+i*4+1,none⟩=some (.int .i64 pf):=hV▸d1
      have f2:V.cell? ⟨b,off+i*4+2,none⟩=some (.int .i64 pt):=hV▸d2
      have f3:V.cell? ⟨b,off+i*4+3,none⟩=some (.int .i64 pu):=hV▸d3
      rw [←hV]
      have HBV:=Lib.hid hBV
      have HRV:=Lib.hid (HROW.out.below hBV)
      clear hV d0 d1 d2 d3 m1 m2 m3 n1 n2 n3 hBV
      by_cases hi0:i=0
      ·subst hi0
       have HM:∀j,j<0+1→okN nv j:=fun j hj=>by
        obtain rfl:j=0:=by omega
        exact⟨by rw [HP.out];exact HK.out.1,by rw [HP.out];exact HK.out.2.1,by rw [HP.out];exact HK.out.2.2,fun h=>by omega⟩
       have HM:=Lib.hid HM
       go_wp2
       go_roundw
       case rel=>exact⟨1,rfl,by omega,HM.out,HBV.out⟩
       case measure=>simp [intOf];omega
      ·have hi1:0<i:=by omega
       have z1:((i:Int)==0)=false:=by simp;omega
       have hbad:(∀u:Nat,pu=(u:Int)→u<i→Abv nv u (i - 1)→(nv u).f≤pf→pt≤(nv u).t→False)→¬Rt nv len xt:=fun h R=>by
        obtain⟨u,e,l,g,f',t',_⟩:=(R.ok i hlt').hang hi1
        rw [HP.out]at e f' t'
        exact h u e l g f' t'
       have HBAD:=Lib.hid hbad
       clear hbad
       by_cases g1:pu<0
       ·have m1:decide (pu<0)=true:=by simpa using g1
        have HN:=Lib.hid (HBAD.out (fun u e _ _ _ _=>by omega))
        go_wp2
        go_quiet (fail)
        go_wp2
        go_ret
        exact⟨.no HN.out,belN HBV.out _⟩
       ·by_cases g2:(i:Int)≤pu
        ·have m1:decide (pu<0)=false:=by simpa using g1
         have m2:decide ((i:Int)≤pu)=true:=by simpa using g2
         have HN:=Lib.hid (HBAD.out (fun u e l _ _ _=>by omega))
         go_wp2
         go_quiet (fail)
         go_wp2
         go_ret
         exact⟨.no HN.out,belN HBV.out _⟩
        ·obtain⟨u,rfl⟩:∃u:Nat,pu=(u:Int):=⟨pu.toNat,by omega⟩
         have hui:u<i:=by omega
         have m1:decide ((u:Int)<0)=false:=by simp
         have m2:decide ((i:Int)≤(u:Int))=false:=by simp;omega
         have m2':decide (i≤u)=false:=by simp;omega
         have r9:IntKind.i64.wrap ((i:Int) - 1)=(i:Int) - 1:=IntWalk.i64_in _ (by omega)
         have m3:(u:Int)<(len:Int):=by omega
         have m4:(0:Int)≤(u:Int):=by omega
         obtain⟨bu,offu,hao,hbu,s0,s1,s2,s3⟩:=HRV.out u (by omega)
         cases hao
         obtain⟨U,hU⟩:∃U,nv u=U:=⟨_,rfl⟩
         have HU:=Lib.hid hU
         rw [hU]at s0 s1 s2 s3
         obtain⟨uk,uf,ut,uu⟩:=U
         simp only at s0 s1 s2 s3
         clear hU g1 g2 s0 s3
         have hsub:((i - 1:Nat):Int)=(i:Int) - 1:=by omega
         have hA:∀(x:Bool) (hx:x=true↔∃y:Nat,(y:Int)=(u:Int)∧Abv nv y (i - 1)) (W:World) (hW:Below V.heap.size V W),Calls Tryz.prog 38 #[.slice (some ⟨b,off,none⟩) len cap,.int .i64 (u:Int),.int .i64 ((i:Int) - 1)] W fun e w'=>e=.returned (.bool x)∧w'=W:=by
          intro x hx W hW
          have h:=above_any W (some ⟨b,off,none⟩) len cap i nv (HRV.out.below hW) HSP.out (by omega) (u:Int) (i - 1) (by omega) x hx hlen
          rw [hsub]at h
          exact h
         have HA:=Lib.hid hA
         clear hA
         have HRN:=Lib.hid (fun q=>HRV.out.below (belN (Below.refl V.heap.size V) q))
         clear hsub
         by_cases g3:Abv nv u (i - 1)
         ·have HA1:=Lib.hid (HA.out true ⟨fun _=>⟨u,rfl,g3⟩,fun _=>rfl⟩)
          by_cases g4:pf<uf
          ·have m5:decide (pf<uf)=true:=by simpa using g4
           have HN:=Lib.hid (HBAD.out (fun u' e _ _ h1 _=>by
            obtain rfl:u'=u:=by omega
            rw [HU.out]at h1
            simp only at h1
            omega))
           have HG3:=Lib.hid g3
           clear g3
           go_wp2
           go_quiet ((go_at_call 38;exact Calls.quiet_of_same (HA1.out _ (by first|exact Below.refl _ _|exact(Below.refl _ _).drew|exact belN (Below.refl _ _) _))))
           go_wp2
           go_ret
           exact⟨.no HN.out,belN HBV.out _⟩
          ·by_cases g5:ut<pt
           ·have m5:decide (pf<uf)=false:=by simpa using g4
            have m6:decide (ut<pt)=true:=by simpa using g5
            have HN:=Lib.hid (HBAD.out (fun u' e _ _ h1 h2=>by
             obtain rfl:u'=u:=by omega
             rw [HU.out]at h2
             simp only at h2
             omega))
            have HG3:=Lib.hid g3
            clear g3
            go_wp2
            go_quiet ((go_at_call 38;exact Calls.quiet_of_same (HA1.out _ (by first|exact Below.refl _ _|exact(Below.refl _ _).drew|exact belN (Below.refl _ _) _))))
            go_wp2
            go_ret
            exact⟨.no HN.out,belN HBV.out _⟩
           ·have m5:decide (pf<uf)=false:=by simpa using g4
            have m6:decide (ut<pt)=false:=by simpa using g5
            have HG3:=Lib.hid g3
            have HG4:=Lib.hid g4
            have HG5:=Lib.hid g5
            clear g3 g4 g5
            go_wp2
            go_quiet ((go_at_call 38;exact Calls.quiet_of_same (HA1.out _ (by first|exact Below.refl _ _|exact(Below.refl _ _).drew|exact belN (Below.refl _ _) _))))
            obtain⟨V2,hV2⟩:∃V2,V2=V.drewN nq:=⟨_,rfl⟩
            have hBV2:Below w.heap.size w V2:=by rw [hV2];exact belN HBV.out _
            rw [←hV2]
            have HBV2:=Lib.hid hBV2
            clear hV2 hBV2 m1 m2 m2' m5 m6 r9 f1 f2 f3 s1 s2
            go_wp2
            go_loopw [7] (fun v7 wr=>RrRl2 nv i u w v7 wr) (fun v7 _=>i - (intOf v7).toNat)
            case atStart=>exact⟨1,rfl,by omega,by omega,fun j h0 h1=>by omega,HBV2.out⟩
            case round=>
             obtain⟨k,rfl,hk1,hk2,hsis,hBk⟩:=hrel
             have HSIS:=Lib.hid hsis
             have HBK:=Lib.hid hBk
             clear hsis hBk
             by_cases hki:(k:Int)<(i:Int)
             ·have hki':k<i:=by omega
              obtain⟨bk,offk,hao,hbk,e0,e1,e2,e3⟩:=(HROW.out.below HBK.out) k (by omega)
              cases hao
              obtain⟨bi2,offi2,hao,hbi2,y0,y1,y2,y3⟩:=(HROW.out.below HBK.out) i hlt'
              cases hao
              rw [HP.out]at y0 y1 y2 y3
              simp only at y0 y1 y2 y3
              obtain⟨E,hE⟩:∃E,nv k=E:=⟨_,rfl⟩
              have HE:=Lib.hid hE
              rw [hE]at e0 e1 e2 e3
              obtain⟨ek,ef,et,eu⟩:=E
              simp only at e0 e1 e2 e3
              have l0:(0:Int)≤(k:Int):=by omega
              have l1:(k:Int)<(len:Int):=by omega
              clear hE e0 e1 y0 y2 y3
              by_cases hq:eu=(u:Int)
              ·have t1:(eu==(u:Int))=true:=by simpa using hq
               have HQ:=Lib.hid hq
               clear hq
               by_cases hr:pf<et
               ·have t2:decide (pf<et)=true:=by simpa using hr
                have HR:=Lib.hid hr
                clear hr
                go_wp2
                go_quiet (fail)
                go_wp2
                go_ret
                refine⟨.no (fun R=>?_),belN HBK.out _⟩
                obtain⟨u',e',_,_,_,_,s'⟩:=(R.ok i hlt').hang hi1
                have h1:=s' k (by omega) hki' (by rw [HE.out];show eu=_;rw [HQ.out,←e',HP.out])
                rw [HE.out,HP.out]at h1
                have:=HR.out
                simp only at h1
                omega
               ·have t2:decide (pf<et)=false:=by simpa using hr
                have HR:=Lib.hid hr
                clear hr
                go_wp2
                go_quiet (fail)
                go_wp2
                go_roundw
                case rel=>
                 refine⟨k+1,by go_num,by omega,by omega,fun j h0 h1 h2=>?_,belN HBK.out _⟩
                 rcases Nat.lt_or_ge j k with g|g
                 ·exact HSIS.out j h0 g h2
                 ·obtain rfl:j=k:=by omega
                  rw [HE.out,HP.out]
                  have:=HR.out
                  simp only
                  omega
                case measure=>simp [intOf];omega
              ·have t1:(eu==(u:Int))=false:=by simpa using hq
               have HQ:=Lib.hid hq
               clear hq
               go_wp2
               go_quiet (fail)
               go_wp2
               go_roundw
               case rel=>
                refine⟨k+1,by go_num,by omega,by omega,fun j h0 h1 h2=>?_,belN HBK.out _⟩
                rcases Nat.lt_or_ge j k with g|g
                ·exact HSIS.out j h0 g h2
                ·obtain rfl:j=k:=by omega
                 rw [HE.out]at h2
                 exact absurd h2 HQ.out
               case measure=>simp [intOf];omega
             ·obtain rfl:k=i:=by omega
              have hokk:okN nv k:=⟨by rw [HP.out];exact HK.out.1,by rw [HP.out];exact HK.out.2.1,by rw [HP.out];exact HK.out.2.2,fun _=>⟨u,by rw [HP.out],hui,HG3.out,by rw [HU.out,HP.out];have:=HG4.out;simp only;omega,by rw [HU.out,HP.out];have:=HG5.out;simp only;omega,fun j h0 h1 h2=>HSIS.out j h0 h1 h2⟩⟩
              have HOKK:=Lib.hid hokk
              clear hokk
              go_wp2
              go_roundw
              case rel=>
               refine⟨k+1,by go_num,by omega,fun j hj=>?_,HBK.out⟩
               rcases Nat.lt_or_ge j k with g|g
               ·exact HOK.out j g
               ·obtain rfl:j=k:=by omega
                exact HOKK.out
              case measure=>simp [intOf];omega
         ·have HA0:=Lib.hid (HA.out false ⟨fun h=>(by cases h),fun⟨y,h1,h2⟩=>absurd ((show y=u by omega)▸h2) g3⟩)
          have HN:=Lib.hid (HBAD.out (fun u' e _ h1 _ _=>g3 ((show u'=u by omega)▸h1)))
          clear g3
          go_wp2
          go_quiet ((go_at_call 38;exact Calls.quiet_of_same (HA0.out _ (by first|exact Below.refl _ _|exact(Below.refl _ _).drew|exact belN (Below.refl _ _) _))))
          go_wp2
          go_ret
          exact⟨.no HN.out,belN HBV.out _⟩
     ·have hno:¬Rt nv len xt:=fun R=>hk ⟨by have:=(R.ok i hlt').k1;rw [HP.out]at this;exact this,by have:=(R.ok i hlt').k2;rw [HP.out]at this;exact this,by have:=(R.ok i hlt').ft;rw [HP.out]at this;exact this⟩
      have HNO:=Lib.hid hno
      have HK:=Lib.hid hk
      clear hno hk
      by_cases n1:pk<1
      ·have m1:decide (pk<1)=true:=by simpa using n1
       go_wp2
       go_quiet (fail)
       go_wp2
       go_ret
       exact⟨.no HNO.out,belN HB.out _⟩
      ·have m1:decide (pk<1)=false:=by simpa using n1
       by_cases n2:18<pk
       ·have m2:decide (18<pk)=true:=by simpa using n2
        go_wp2
        go_quiet (fail)
        go_wp2
        go_ret
        exact⟨.no HNO.out,belN HB.out _⟩
       ·have m2:decide (18<pk)=false:=by simpa using n2
        have n3:pt<pf:=by
         have:=HK.out
         rcases Classical.em (pt<pf)with g|g
         ·exact g
         ·exact absurd ⟨by omega,by omega,by omega⟩ this
        have m3:decide (pt<pf)=true:=by simpa using n3
        go_wp2
        go_quiet (fail)
        go_wp2
        go_ret
        exact⟨.no HNO.out,belN HB.out _⟩
    ·obtain rfl:len=i:=by omega
     go_wp2
     go_ret
     exact⟨.yes (HRT.out HOK.out),HB.out⟩
  ·have hno:¬Rt nv len lv:=fun h=>hg ⟨by have:=h.u0;rw [HX.out]at this;exact this,by have:=h.f0;rw [HX.out]at this;exact this,by have:=h.t0;rw [HX.out]at this;exact this⟩
   have HNO:=Lib.hid hno
   clear hno
   go_enter Tryz.func16,Tryz.ntmps16
   by_cases g1:xu= -1
   ·by_cases g2:xf=0
    ·have g3:xt≠lv:=fun h=>hg ⟨g1,g2,h⟩
     have t1:(xt !=lv)=true:=by simpa using g3
     subst g1 g2
     clear hg
     go_wp2
     go_ret
     exact⟨.no HNO.out,Below.refl _ _⟩
    ·have t1:(xf !=0)=true:=by simpa using g2
     subst g1
     clear hg
     go_wp2
     go_ret
     exact⟨.no HNO.out,Below.refl _ _⟩
   ·have t1:(xu != -1)=true:=by simpa using g1
    clear hg
    go_wp2
    go_ret
    exact⟨.no HNO.out,Below.refl _ _⟩
end
section
variable (w:World)
set_option maxRecDepth 100000 in
set_option maxHeartbeats 2000000 in
theorem short_any (oa:Option Addr) (n oc:Nat) (lv:Nat→Lf) (hl:LfRow w oa n lv) (m:Nat) (hm:m≤1000):
  Calls Tryz.prog 11 #[.slice oa n oc,.int .i64 (m:Int)] w fun e w'=>RetB e (n≤m∧∀i,i<n→(lv i).s.size≤60)∧w'=w:=by
 have HL:=Lib.hid hl
 clear hl
 by_cases hnm:n≤m
 ·have d1:decide ((m:Int)<(n:Int))=false:=decide_eq_false (by omega)
  have d1':¬(m:Int)<(n:Int):=by omega
  go_enter Tryz.func11,Tryz.ntmps11
  go_wp2
  go_loopw [5] (fun v3 wr=>∃i:Nat,i≤n∧v3=.int .i64 (i:Int)∧(∀j,j<i→(lv j).s.size≤60)∧wr=w) (fun v3 _=>n - (intOf v3).toNat)
  case atStart=>exact⟨0,by omega,rfl,fun j hj=>by omega,rfl⟩
  case round=>
   obtain⟨i,hi,rfl,hall,rfl⟩:=hrel
   have HA:=Lib.hid hall
   clear hall
   by_cases hlt:i<n
   ·have hp:(i:Int)<(n:Int):=by omega
    have q0:(0:Int)≤(i:Int):=by omega
    obtain⟨b,off,rfl,hbl,k0,k1,k2,k3⟩:=HL.out i hlt
    have e1:IntKind.i64.wrap ((i:Int)+1)=(i:Int)+1:=IntWalk.i64_in _ (by omega)
    by_cases h60:(lv i).s.size≤60
    ·have d2:decide ((60:Int)<((lv i).s.size:Int))=false:=decide_eq_false (by omega)
     have d2':¬(60:Int)<((lv i).s.size:Int):=by omega
     have H60:=Lib.hid h60
     clear h60
     go_wp2
     refine⟨⟨i+1,by omega,by rw [show((i+1:Nat):Int)=(i:Int)+1 from by omega],fun j hj=>?_,by first|rfl|trivial⟩,by simp [intOf];omega⟩
     by_cases g:j=i
     ·rw [g];exact H60.out
     ·exact HA.out j (by omega)
    ·have d2:decide ((60:Int)<((lv i).s.size:Int))=true:=decide_eq_true (by omega)
     have d2':(60:Int)<((lv i).s.size:Int):=by omega
     have H60:=Lib.hid h60
     clear h60
     go_wp2
     go_ret
     exact⟨⟨false,rfl,by simp,fun h=>absurd (h.2 i hlt) H60.out⟩,rfl⟩
   ·obtain rfl:i=n:=by omega
    have hp:¬(i:Int)<(i:Int):=by omega
    go_wp2
    go_ret
    exact⟨⟨true,rfl,fun _=>by first|exact⟨hnm,HA.out⟩|exact HA.out,fun _=>rfl⟩,rfl⟩
 ·have d1:decide ((m:Int)<(n:Int))=true:=decide_eq_true (by omega)
  have d1':(m:Int)<(n:Int):=by omega
  have HNM:=Lib.hid hnm
  clear hnm
  go_enter Tryz.func11,Tryz.ntmps11
  go_wp2
  go_ret
  exact⟨⟨false,rfl,by simp,fun h=>absurd h.1 HNM.out⟩,rfl⟩
end
end Go.Proofs.YtkolpaonccmgiaaGreatDoor.Q

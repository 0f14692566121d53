/- What Run of the document's own machine returns. Co -/
import Derived.Test.YtkolpaonccmgiaaGreatDoorMj
import Derived.Test.YtkolpaonccmgiaaGreatDoorQp
namespace Go.Proofs.YtkolpaonccmgiaaGreatDoor
set_option linter.unusedVariables false
open Go.Proofs.Tryz
open Lib(hid)
set_option maxHeartbeats 8000000
set_option maxRecDepth 100000
open Go.RowKit
structure Bx(w0 w:World)(B:Nat)(x:Ms)(S:ByteArray)(g n cap:Nat):Prop where
 box:zf w B #[.string S,.slice (some ⟨g,0,none⟩) n cap,.bool x.fresh] 112
 rv:Rv w x.st S g n cap
 ne:g≠B
 ge:w0.heap.size<=g
 nN:w0.heap.size<=B
 below:Below w0.heap.size w0 w
theorem Bx.step{w0 w w':World}{B:Nat}{x y:Ms}{S:ByteArray}{g n cap:Nat}(h:Bx w0 w B x S g n cap){S2:ByteArray}{g2 n2 cap2:Nat}(hR:Rv w' y.st S2 g2 n2 cap2)(hb:Below w.heap.size w w')(hg:g2=g\/w.heap.size<=g2):
  Bx w0 (((w'.setCell ⟨B,0,none⟩ (.string S2)).setCell ⟨B,1,none⟩ (.slice (some ⟨g2,0,none⟩) n2 cap2)).setCell ⟨B,2,none⟩ (.bool y.fresh)) B y S2 g2 n2 cap2:=by
 have hlt:=h.box.lt;have hgl:=h.rv.lt;have hs:=hb.size;have h1:=h.ge;have h2:=h.below.size;have hne:g2≠B:=by
  rcases hg with rfl|hg
  ·exact h.ne
  ·omega
 have hge:w0.heap.size<=g2:=by omega
 refine⟨?_,hR.zh (((zg.put (zg.refl _ w') 0 _).put 1 _).put 2 _) hne,hne,hge,h.nN,?_⟩
 ·have:=(((h.box.below hb).set 0 (.string S2)).set 1 (.slice (some ⟨g2,0,none⟩) n2 cap2)).set 2 (.bool y.fresh)
  simpa using this
 ·have hb0:Below w0.heap.size w0 w':=h.below.trans (hb.mono h2)
  exact((hb0.setCell (p:=⟨B,0,none⟩) h.nN _).setCell (p:=⟨B,1,none⟩) h.nN _).setCell (p:=⟨B,2,none⟩) h.nN _
theorem Bx.drew{w0 w:World}{B:Nat}{x:Ms}{S:ByteArray}{g n cap:Nat}(h:Bx w0 w B x S g n cap):Bx w0 w.drew B x S g n cap:=
 ⟨h.box.drew,h.rv.zh ((zg.refl (λ_=>False) w).drew) (λh=>h),h.ne,h.ge,h.nN,h.below.drew⟩
theorem zgU(w:World)(s:ByteArray)(hs:s.size<=80000):
  Calls prog 116 #[.string s] w (zI w w.heap.size (zU s s.size).st (zU s s.size).fresh):=by
 go_enter func116,ntmps116
 go_wp2_with fail
 refine(Bv _).mono ?_;rintro e w1 ⟨S1,g1,n1,cap1,rfl,hR1,hb1,hg1⟩;have hs1:=hb1.size;rw[World.size_alloc]at hs1 hg1;have UI:=(zf.new w #[.string ⟨#[]⟩,.slice none 0 0,.bool false] 112).below hb1;have hB1:Below w.heap.size w w1:=((Below.refl w.heap.size w).alloc (Nat.le_refl _) _).trans (hb1.mono (by simp));have hlt1:=hR1.lt;go_wp2
 go_loopw [4] (λv wr=>∃(i:Nat) (S:ByteArray) (g n cap:Nat),v=.int .i64 i/\i<=s.size/\Bx w wr w1.heap.size (zU s i) S g n cap/\g≠w.heap.size/\w1.heap.size<wr.heap.size/\zf wr w.heap.size #[.string ⟨#[]⟩,.slice none 0 0,.bool false] 112) (λv _=>s.size-(intOf v).toNat)
 case atStart=>
  refine⟨0,S1,g1,n1,cap1,rfl,Nat.zero_le _,⟨zf.new w1 _ _,hR1.below ((Below.refl _ _).alloc (Nat.le_refl _) _),by omega,by omega,by omega,hB1.alloc hB1.size _⟩,by omega,by simp,UI.alloc _⟩
 case round=>
  obtain⟨i,S,g,n,cap,rfl,hi,hX,hgn,hwr,hres⟩:=hrel;clear hR1 hb1 hg1 UI hB1 hlt1;have hI:=Yz s i;have hlen:=gQ s i;have hsucc:=Jv s i;obtain⟨x,hx⟩:∃x,zU s i=x:=⟨_,rfl⟩;rw[hx]at hX hI hlen hsucc;have HX:=hid hx;clear hx;have b0:wr.cell? ⟨w1.heap.size,0,none⟩=some (.string S):=hX.box.cell 0;have b1:wr.cell? ⟨w1.heap.size,1,none⟩=some (.slice (some ⟨g,0,none⟩) n cap):=hX.box.cell 1;have b2:wr.cell? ⟨w1.heap.size,2,none⟩=some (.bool x.fresh):=hX.box.cell 2;by_cases hlt:i<s.size
  ·have hlt2:(i:Int)<s.size:=by omega
   have hq0:(0:Int)<=(i:Int):=by omega
   have hby:(s[i].toNat:Int)=(by8 s i:Nat):=by unfold by8;rw[zT hlt]
   obtain⟨b,hb⟩:∃b,by8 s i=b:=⟨_,rfl⟩;rw[hb]at hby hsucc;have HS:=hid hsucc;have HI:=hid hI;clear hsucc hI hb;have hstep:=λW (h:Below wr.heap.size wr W)=>BH W b i S g n cap x HI.out (hX.rv.below h) (by omega);rw[←HS.out]at hstep;obtain⟨y,hy⟩:∃y,zU s (i+1)=y:=⟨_,rfl⟩;rw[hy]at hstep;have HY:=hid hy;clear hy;go_wp2
   go_region_with (go_at_call 114;refine(hstep _ (Below.refl _ _).drew).mono ?_;rintro e w2 ⟨S2,g2,n2,cap2,rfl,hR2,hb2,hg2⟩;have hbx2:=hX.drew.box.below hb2;have d0:=hbx2.cell 0;have d1:=hbx2.cell 1;have d2:=hbx2.cell 2;have e0:=hbx2.frozen 0;have e1:=hbx2.frozen 1;have e2:=hbx2.frozen 2;simp at d0 d1 d2)
   all_goals
    go_wp2
    go_roundw
    case rel=>
     have hst:=hX.drew.step (y:=y) hR2 hb2 hg2;have hs2:=hb2.size;refine⟨i+1,S2,g2,n2,cap2,by go_num,by omega,by rw[HY.out];exact hst,?_,?_,?_⟩
     ·have:wr.drew.heap.size=wr.heap.size:=rfl
      have hl0:=hres.lt;omega
     ·have:wr.drew.heap.size=wr.heap.size:=rfl
      simp[World.setCell];omega
     ·exact(((hres.drew.below hb2).other _ _ (by omega)).other _ _ (by omega)).other _ _ (by omega)
    case measure=>simp[intOf];omega
  ·obtain rfl:i=s.size:=by omega
   rw[HX.out];have r0:=hres.cell 0;have r1:=hres.cell 1;have r2:=hres.cell 2;have f0:=hres.frozen 0;have f1:=hres.frozen 1;have f2:=hres.frozen 2;simp at r0 r1 r2;clear hsucc;go_wp2;refine bodyPost_ret (v:=.agg #[.string S,.slice (some ⟨g,0,none⟩) n cap,.bool x.fresh]) (by simp[results,results116,go_sem, *]) rfl ?_;rw[HX.out];exact gK hX.rv hX.below w.heap.size (Nat.le_refl _) hgn (.inr hX.ge) _ _ _
def dm(x y:Ms):Prop:=x.st.map (·.1)=y.st.map (·.1)/\x.fresh=y.fresh
theorem Ux{st st2:List Fr}(h:st.map (·.1)=st2.map (·.1)):top st=top st2:=by
 cases st with
 |nil=>cases st2 with
  |nil=>rfl
  |cons b s=>simp at h
 |cons a r=>cases st2 with
  |nil=>simp at h
  |cons b s=>simp at h;exact h.1
theorem zfN(v:Mv){st st2:List Fr}(h:st.map (·.1)=st2.map (·.1))(p q:Nat):(v.run st p).map (·.1)=(v.run st2 q).map (·.1):=by
 cases v with
 |keep=>exact h
 |push m=>simp[Mv.run,h]
 |pop=>
  show st.tail.map (·.1)=st2.tail.map (·.1);rw[List.map_tail,List.map_tail,h]
 |turn m=>
  cases st with
  |nil=>cases st2 with
   |nil=>rfl
   |cons b s=>simp at h
  |cons a r=>cases st2 with
   |nil=>simp at h
   |cons b s=>simp[Mv.run]at h ⊢;exact h.2
theorem pI{st st2:List Fr}(h:st.map (·.1)=st2.map (·.1))(fr:Bool)(b p q:Nat):dm (zF st fr b p) (zF st2 fr b q):=by
 cases st with
 |nil=>cases st2 with
  |nil=>exact⟨rfl,rfl⟩
  |cons b s=>simp at h
 |cons a r=>cases st2 with
  |nil=>simp at h
  |cons c s=>
   obtain⟨m,f⟩:=a;obtain⟨m2,f2⟩:=c;have e:m=m2:=by simp at h;exact h.1
   subst e;exact⟨zfN _ h _ _,rfl⟩
theorem zfO{x y:Ms}(h:dm x y)(b p q:Nat):dm (y7 x b p) (y7 y b q):=by
 obtain⟨st,fr⟩:=x;obtain⟨st2,fr2⟩:=y;obtain⟨h1,h2⟩:=h;simp only at h1 h2;subst h2
 cases st with
 |nil=>cases st2 with
  |nil=>exact⟨rfl,rfl⟩
  |cons b s=>simp at h1
 |cons a r=>cases st2 with
  |nil=>simp at h1
  |cons c s=>
   obtain⟨m,f⟩:=a;obtain⟨m2,f2⟩:=c;have e:m=m2:=by simp at h1;exact h1.1
   have hr:r.map (·.1)=s.map (·.1):=by simp at h1;exact h1.2
   subst e;have tp:∀n,((n,f)::r).map (·.1)=((n,f2)::s).map (·.1):=λn=>by simp[hr]
   unfold y7;simp only;rw[Ux hr];by_cases h12:m=12
   ·rw[if_pos h12,if_pos h12]
    by_cases yZ:b=40
    ·rw[if_pos yZ,if_pos yZ];exact⟨tp 3,rfl⟩
    rw[if_neg yZ,if_neg yZ];by_cases wH:b=123
    ·rw[if_pos wH,if_pos wH];exact⟨tp _,rfl⟩
    rw[if_neg wH,if_neg wH];by_cases zV:b=36
    ·rw[if_pos zV,if_pos zV];exact⟨hr,rfl⟩
    rw[if_neg zV,if_neg zV];exact pI hr _ _ _ _
   rw[if_neg h12,if_neg h12];by_cases h3:m=3
   ·rw[if_pos h3,if_pos h3]
    by_cases yZ:b=40
    ·rw[if_pos yZ,if_pos yZ];exact⟨tp 9,rfl⟩
    rw[if_neg yZ,if_neg yZ];exact pI (tp 1) _ _ _ _
   rw[if_neg h3,if_neg h3];by_cases h11:m=11
   ·rw[if_pos h11,if_pos h11]
    by_cases jK:b=41
    ·rw[if_pos jK,if_pos jK];exact⟨hr,rfl⟩
    rw[if_neg jK,if_neg jK];exact pI (tp 9) _ _ _ _
   rw[if_neg h11,if_neg h11];exact pI (tp m) _ _ _ _
theorem Uy{x y:Ms}(h:dm x y)(β:Nat->Nat)(p q:Nat):∀k,dm (Jd x β p k) (Jd y β q k)
 |0=>h
 |k+1=>zfO (Uy h β p q k) _ _ _
theorem zfP{x y:Ms}(h:dm x y)(b:Nat):je x b=je y b:=by
 have hl:x.st.length=y.st.length:=by have:=congrArg List.length h.1;simpa using this
 unfold je;rw[hl,Ux h.1]
theorem JD.one{s:ByteArray}{a p q n m:Nat}(h:JD s a p n)(k:JD s a q m):n=m:=by
 have hs:∀i,je (jJ s a p i)=je (jJ s a q i):=λi=>funext λb=>zfP (Uy ⟨rfl,rfl⟩ _ p q i) b;obtain⟨h1,h2,h3,h4⟩:=h;obtain⟨k1,k2,k3,k4⟩:=k;rcases Nat.lt_trichotomy n m with g|g|g
 ·have:=k3 n h1 g
  rw[←hs,h4 (by omega)]at this;cases this
 ·exact g
 ·have:=h3 m k1 g
  rw[hs,k4 (by omega)]at this;cases this
theorem Uz{st:List Fr}(h:good st):uk st.reverse=⟨#[84]⟩↔st.length=1:=by
 constructor
 ·intro e
  have:=congrArg ByteArray.size e;rw[gJ,List.length_reverse]at this;exact this
 ·intro e
  match st,e with
  | [(m,f)],_=>
   have:m=0:=h;subst this;rfl
theorem UA{st:List Fr}(h:good st):uk st.reverse=⟨#[84,76]⟩↔st.length=2/\top st=12:=by
 constructor
 ·intro e
  have hl:=congrArg ByteArray.size e;rw[gJ,List.length_reverse]at hl;have hl2:st.length=2:=hl;refine⟨hl2,?_⟩
  match st,hl2 with
  | [(m,f),(m2,f2)],_=>
   have hm:=QT h;have h1:bt (uk [(m2,f2),(m,f)]) 1=xe m:=pF (x:=(m,f)) rfl;have e':uk [(m2,f2),(m,f)]=⟨#[84,76]⟩:=e;rw[e']at h1;have h2:∀m,m<15->bt ⟨#[84,76]⟩ 1=xe m->m=12:=by decide+kernel
   exact h2 m (by omega) h1
 ·rintro⟨hl,ht⟩
  match st,hl with
  | [(m,f),(m2,f2)],_=>
   have:m=12:=ht;subst this;have:m2=0:=h.2;subst this;rfl
theorem zfQ{x:Ms}(h:Inv x)(b:Nat):je x b=(qo b &&(decide (uk x.st.reverse=⟨#[84]⟩)||(decide (uk x.st.reverse=⟨#[84,76]⟩)&& decide (b≠40)))):=by
 unfold je;simp only[Uz h.good,UA h.good];congr 2;rw[Bool.eq_iff_iff];simp
theorem zfR(w:World)(s:ByteArray)(a:Nat)(ha:a<=s.size)(hs:s.size<=80000):
  Calls Tryz.prog 96 #[.string s,.int .i64 (a:Int)] w λe w'=>(∃n:Nat,e=.returned (.int .i64 (n:Int))/\JD s a a n)/\Below w.heap.size w w':=by
 go_enter Tryz.func96,Tryz.ntmps96
 go_wp2_with fail
 refine(Bv _).mono ?_;rintro e w1 ⟨S1,g1,n1,cap1,rfl,hR1,hb1,hg1⟩;have hs1:=hb1.size;have hlt1:=hR1.lt;go_wp2
 go_loopw [6] (λv wr=>∃(k:Nat) (S:ByteArray) (g n cap:Nat),v=.int .i64 ((a+k:Nat):Int)/\a+k<=s.size/\Bx w wr w1.heap.size (jJ s a a k) S g n cap/\w1.heap.size<wr.heap.size/\Hid (∀i,a<=i->i<a+k->je (jJ s a a (i-a)) (by8 s i)=false)) (λv _=>s.size-(intOf v).toNat)
 case atStart=>
  refine⟨0,S1,g1,n1,cap1,rfl,by omega,⟨zf.new w1 _ _,hR1.below ((Below.refl _ _).alloc (Nat.le_refl _) _),by omega,by omega,by omega,hb1.alloc hb1.size _⟩,by simp,hid λi h1 h2=>by omega⟩
 case round=>
  obtain⟨k,S,g,n,cap,rfl,hk,hX,hwr,Zu⟩:=hrel;clear hR1 hb1 hg1 hlt1;have hI:=Ut s a a k;have hlen:=Uu s a a k;have hsucc:=Us s a a k;have hstop:=zfQ hI;obtain⟨x,hx⟩:∃x,jJ s a a k=x:=⟨_,rfl⟩;rw[hx]at hX hI hlen hsucc hstop;rw[←hX.rv.s]at hstop;have HX:=hid hx;clear hx;obtain⟨j,hj⟩:∃j,a+k=j:=⟨_,rfl⟩;have hkj:k<=j:=by omega
  rw[hj]at hk hsucc ⊢;have HJ:=hid hj;have b0:wr.cell? ⟨w1.heap.size,0,none⟩=some (.string S):=hX.box.cell 0;have b1:wr.cell? ⟨w1.heap.size,1,none⟩=some (.slice (some ⟨g,0,none⟩) n cap):=hX.box.cell 1;have b2:wr.cell? ⟨w1.heap.size,2,none⟩=some (.bool x.fresh):=hX.box.cell 2;by_cases hlt:j<s.size
  ·have hlt2:(j:Int)<s.size:=by omega
   have hq0:(0:Int)<=(j:Int):=by omega
   have hby:(s[j].toNat:Int)=(by8 s j:Nat):=by unfold by8;rw[zT hlt]
   obtain⟨b,hb⟩:∃b,by8 s j=b:=⟨_,rfl⟩;rw[hb]at hby hsucc;have HB:=hid hb;have HS:=hid hsucc;have HI:=hid hI;have hst:=hstop b;have hT:(S.toList==(⟨#[84]⟩:ByteArray).toList)=decide (S=⟨#[84]⟩):=Zv _ _;have hTL:(S.toList==(⟨#[84,76]⟩:ByteArray).toList)=decide (S=⟨#[84,76]⟩):=Zv _ _;rw[show(⟨#[84]⟩:ByteArray).toList=[84] by rw[Go.ByteArray.toList_eq]]at hT;rw[show(⟨#[84,76]⟩:ByteArray).toList=[84,76] by rw[Go.ByteArray.toList_eq]]at hTL;have yZ:((b:Int)!=40)=decide (b≠40):=by rw[Bool.eq_iff_iff];simp;omega
   obtain⟨eb,heb⟩:∃eb,qo b=eb:=⟨_,rfl⟩;obtain⟨cT,dw⟩:∃cT,decide (S=⟨#[84]⟩)=cT:=⟨_,rfl⟩;obtain⟨cL,hcL⟩:∃cL,decide (S=⟨#[84,76]⟩)=cL:=⟨_,rfl⟩;obtain⟨c4,hc4⟩:∃c4,decide (b≠40)=c4:=⟨_,rfl⟩;rw[heb,dw,hcL,hc4]at hst;rw[dw]at hT;rw[hcL]at hTL;rw[hc4]at yZ;have di:=λW=>Bi b W;rw[heb]at di;have hstep:=λW (h:Below wr.heap.size wr W)=>BH W b j S g n cap x HI.out (hX.rv.below h) (by omega);rw[←HS.out]at hstep;obtain⟨y,hy⟩:∃y,jJ s a a (k+1)=y:=⟨_,rfl⟩;rw[hy]at hstep;have HY:=hid hy;have key:(je x b=true/\((eb=true/\cT=true)\/(eb=true/\cT=false/\cL=true/\c4=true)))\/(je x b=false/\(eb=false\/(eb=true/\cT=false/\cL=true/\c4=false)\/(eb=true/\cT=false/\cL=false))):=by
    rw[hst];cases eb<;>cases cT<;>cases cL<;>cases c4<;>simp
   clear hy hb hsucc hI hstop hst heb dw hcL hc4 hj;rcases key with⟨hs,hcs⟩|⟨hs,hcs⟩
   ·have HST:=hid hs
    clear hs;rcases hcs with⟨rfl,rfl⟩|⟨rfl,rfl,rfl,rfl⟩
    all_goals
     go_wp2_with fail
     refine(di _).mono ?_;rintro e w2 ⟨rfl,rfl⟩;go_wp2;go_ret;refine⟨⟨j,rfl,by have:=HJ.out;omega,by omega,λi h1 h2=>Zu.out i h1 (by have:=HJ.out;omega),λ_=>?_⟩,hX.below⟩;rw[HB.out,show j-a=k by have:=HJ.out;omega,HX.out];exact HST.out
   ·have HST:=hid hs
    clear hs;rcases hcs with rfl|⟨rfl,rfl,rfl,rfl⟩|⟨rfl,rfl,rfl⟩
    all_goals
     go_wp2_with fail
     refine(di _).mono ?_;rintro e w9 ⟨rfl,rfl⟩;go_wp2
     go_region_with (go_at_call 114;refine(hstep _ (Below.refl _ _).drew).mono ?_;rintro e w2 ⟨S2,g2,n2,cap2,rfl,hR2,hb2,hg2⟩;have hbx2:=hX.drew.box.below hb2;have d0:=hbx2.cell 0;have d1:=hbx2.cell 1;have d2:=hbx2.cell 2;have e0:=hbx2.frozen 0;have e1:=hbx2.frozen 1;have e2:=hbx2.frozen 2;simp at d0 d1 d2)
     all_goals
      go_wp2
      go_roundw
      case rel=>
       have hst:=hX.drew.step (y:=y) hR2 hb2 hg2;have hs2:=hb2.size;have hjj:=HJ.out;refine⟨k+1,S2,g2,n2,cap2,?_,by omega,by rw[HY.out];exact hst,?_,hid λi h1 h2=>?_⟩
       ·rw[show a+(k+1)=j+1 by omega]
        go_num
       ·have:w9.drew.heap.size=w9.heap.size:=rfl
        simp[World.setCell];omega
       ·by_cases h3:i=j
        ·rw[h3,HB.out,show j-a=k by omega,HX.out]
         exact HST.out
        ·exact Zu.out i h1 (by omega)
      case measure=>simp[intOf];omega
  ·obtain rfl:j=s.size:=by omega
   clear hsucc hj hstop;go_wp2;go_ret;exact⟨⟨s.size,rfl,by have:=HJ.out;omega,Nat.le_refl _,λi h1 h2=>Zu.out i h1 (by have:=HJ.out;omega),λh=>by omega⟩,hX.below⟩
end Go.Proofs.YtkolpaonccmgiaaGreatDoor

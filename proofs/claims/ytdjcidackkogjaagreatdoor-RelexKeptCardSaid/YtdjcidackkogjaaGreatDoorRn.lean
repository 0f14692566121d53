/- What same of a reader of layer 10 (relex) returns. -/
import Derived.Test.YtdjcidackkogjaaGreatDoorRc
namespace Go.Proofs.YtdjcidackkogjaaGreatDoor
set_option linter.unusedSectionVars false
set_option linter.unusedVariables false
open Lib(hid)
set_option maxHeartbeats 8000000
set_option maxRecDepth 100000
open Go.RowKit
def Fit(o q:Mk):Prop:=o.await=q.await∧o.body=q.body∧o.en+q.zf=q.en+o.zf
def UC(o q:Mk)(D F:List Dl)(df:Int)(B:Bool)(zK:Int):Prop:=
 ((¬Fit o q∨(o.zf:Int)≤df)∧B=false∧zK=df)∨
 (Fit o q∧df<(o.zf:Int)∧∃n:Nat,n≤o.en-o.zf∧zK=((o.zf+n:Nat):Int)∧B=decide (n=o.en-o.zf)∧(∀i,i<n→D[o.zf+i]?=F[q.zf+i]?)∧(n<o.en-o.zf→D[o.zf+n]?≠F[q.zf+n]?))
def BZ(w:World)(b rb:Nat)(T:ByteArray)(a:Nat)(m:Mk)(dv:Value)(o q:Mk)(D F:List Dl)(df:Int)(e:Ending)(w':World):Prop:=
 ∃(B:Bool) (zK:Int),e=.returned (.bool B)∧zh w' rb (yT b T a m dv zK) 97∧zg (λk=>k=rb) w w'∧UC o q D F df B zK
def zjZ(n:Nat):Option Value→Nat
 |some (.int _ i)=>n-i.toNat
 |_=>0
def SaI(W1:World)(b rb:Nat)(T:ByteArray)(a:Nat)(m:Mk)(dv:Value)(o q:Mk)(D F:List Dl)(wr:World):Prop:=
 ∃j:Nat,j≤o.en-o.zf∧zh wr rb (yT b T a m dv ((o.zf+j:Nat):Int)) 97∧(∀i,i<j→D[o.zf+i]?=F[q.zf+i]?)∧zg (λk=>k=rb) W1 wr
theorem zj0(a c:ByteArray)(b d:Bool)(w:World):(binOp .eql 87 (.agg #[.string a,.bool b]) (.agg #[.string c,.bool d])).run Tryz.prog w=.ok (.bool (decide (a=c)&& b==d)) w:=by
 rw[run_eql_struct,zaQ];simp[Result.andThen]
section
variable(w:World)(b rb:Nat)(T:ByteArray)(a:Nat)(m:Mk)(F:List Dl)(og:Option Addr)(ng cg:Nat)(df:Int)(s:ByteArray)(I:List (Tk×Mk))(E:Mk)(D:List Dl)(oi:Option Addr)(ni ci:Nat)(od:Option Addr)(nd cd:Nat)
 (hV:jH w b s I E D oi ni ci od nd cd)(kr:zh w rb (yT b T a m (.slice og ng cg) df) 97)(hF:Src w (.slice og ng cg) ng (zx F))(hln:ng=F.length)(hbr:b≠rb)
 (hdr:∀g off,od=some ⟨g,off,none⟩→g≠rb)(hgr:∀g,(Value.slice og ng cg).ownBlock=some g→g≠rb)
 (o q:Mk)(ho:o.zf≤o.en)(hq:q.zf≤q.en)(OJ:o.en≤D.length)(OL:q.en≤F.length)(RQ:D.length≤900)(xw:F.length≤900)
include hV kr hF hln hbr hdr hgr ho hq OJ OL RQ xw
theorem zi7:Calls Tryz.prog 48 #[.pointer (some ⟨rb,0,none⟩),jY o,jY q] w λe w'=>BZ w b rb T a m (.slice og ng cg) o q D F df e w':=by
 obtain⟨W1,hW1⟩:∃Z,(w.alloc (.cells #[.int .i64 (o.await:Int),.bool o.body,.int .i64 (o.zf:Int),.int .i64 (o.en:Int)] 66)).alloc (.cells #[.int .i64 (q.await:Int),.bool q.body,.int .i64 (q.zf:Int),.int .i64 (q.en:Int)] 66)=Z:=⟨_,rfl⟩;have hB1:Below w.heap.size w W1:=by rw[←hW1];exact jd w _ _
 have k4:zh W1 w.heap.size #[.int .i64 (o.await:Int),.bool o.body,.int .i64 (o.zf:Int),.int .i64 (o.en:Int)] 66:=by rw[←hW1];exact(zh.new w _ _).alloc _
 have k5:zh W1 (w.heap.size+1) #[.int .i64 (q.await:Int),.bool q.body,.int .i64 (q.zf:Int),.int .i64 (q.en:Int)] 66:=by rw[←hW1];exact xU w _ _ _
 have hrw:rb<w.heap.size:=kr.lt;have yz:=kr.below hB1;have hV1:=hV.below hB1;have hF1:=hF.below hB1;have zj1:=hid (And.intro ho (And.intro hq (And.intro OJ (And.intro OL (And.intro RQ (And.intro xw hln))))));obtain⟨A,bd,f,e⟩:=o;obtain⟨A2,XJ,f2,e2⟩:=q;unfold jY;dsimp only at*;have HW1:=hid hW1;have HB1:=hid hB1;have ve:=hid hV1;have uY:=hid hF1;have Jt:=hid yz;have r1:IntKind.i64.wrap ((f2:Int)-(f:Int))=(f2:Int)-(f:Int):=IntWalk.i64_in _ (by omega);have r2:IntKind.i64.wrap ((e:Int)+((f2:Int)-(f:Int)))=(e:Int)+((f2:Int)-(f:Int)):=IntWalk.i64_in _ (by omega);have a0:=k4.cell 0;have a1:=k4.cell 1;have a2:=k4.cell 2;have a3:=k4.cell 3;have b0:=k5.cell 0;have b1:=k5.cell 1;have b2:=k5.cell 2;have b3:=k5.cell 3;have dM:w.heap.size≠rb:=by omega
 have lh:w.heap.size+1≠rb:=by omega
 rw[←hW1]at a0 a1 a2 a3 b0 b1 b2 b3;clear hV kr hF hV1 hF1 yz hB1 hW1 hln;by_cases hfit:Fit ⟨A,bd,f,e⟩ ⟨A2,XJ,f2,e2⟩
 ·obtain⟨h1,h2,h3⟩:=hfit
  dsimp only at h1 h2 h3;subst h1 h2;have hfit:Fit ⟨A,bd,f,e⟩ ⟨A,bd,f2,e2⟩:=⟨rfl,rfl,h3⟩;have cu:=hid hfit;have HH3:=hid h3;have t1:(e:Int)+((f2:Int)-(f:Int))=(e2:Int):=by omega
  clear hfit h3;go_enter Tryz.func48,Tryz.ntmps48
  go_upto_region 4 with fail
  rw[HW1.out];clear a0 a1 a2 a3 b0 b1 b2 b3;have a2:=k4.cell 2;have a3:=k4.cell 3;have hx8:W1.cell? ⟨rb,8,none⟩=some (.int .i64 df):=Jt.out.cell 8;by_cases hdf:(f:Int)≤df
  ·go_quiet (fail)
   go_wp2;go_ret;exact⟨false,df,rfl,Jt.out.below (below_drewN (Below.refl _ _) _),zg.of_below (below_drewN HB1.out _),.inl ⟨.inr hdf,rfl,rfl⟩⟩
  ·have zj2:df<(f:Int):=by omega
   have UZ:=hid zj2
   go_cut [40]from 34 to 40 (λv wx=>v=.bool false∧Below W1.heap.size W1 wx)
   case first=>
    go_quiet (fail)
    go_wp2;go_meet;case rel=>exact⟨by first|rfl|simp[hdf],below_drewN (Below.refl _ _) _⟩
   case rest=>
    obtain⟨hv,hb2⟩:=hcut;subst hv;generalize wc=W2 at*;have cO:=k4.below hb2;have yh:=Jt.out.below hb2;have hV2:=ve.out.below hb2;have hF2:=uY.out.below hb2;have hB2:=HB1.out.trans (hb2.mono HB1.out.size);clear a2 a3 hx8;have a2:=cO.cell 2;have x8:W2.cell? ⟨rb,8,none⟩=some (.int .i64 df):=yh.cell 8;have f8:=yh.frozen 8;have vY:zg (λk=>k=rb) W2 (W2.setCell ⟨rb,8,none⟩ (.int .i64 (f:Int))):=zg.setCell (p:=λk=>k=rb) (zg.refl _ W2) 8 (.inl rfl) _;have yK:zh (W2.setCell ⟨rb,8,none⟩ (.int .i64 (f:Int))) rb (yT b T a m (.slice og ng cg) ((f+0:Nat):Int)) 97:=yh.set 8 _;have Qy:zg (λk=>k=rb) w (W2.setCell ⟨rb,8,none⟩ (.int .i64 (f:Int))):=(zg.of_below (p:=λk=>k=rb) hB2).trans vY (λ_ _ h=>h);have hgd:∀g off,oi=some ⟨g,off,none⟩→True:=λ_ _ _=>trivial;have hD3:Src (W2.setCell ⟨rb,8,none⟩ (.int .i64 (f:Int))) (.slice od nd cd) nd (zx D):=hV2.del.zf vY (λk hk e'=>by
     rcases hV2.del with⟨h1,_⟩|⟨g,off,c,h1,_⟩
     ·cases h1;cases hk
     ·cases h1
      cases hk;exact hdr _ _ rfl e')
    have hb3:=hV2.blk.zf vY hbr;have hF3:=hF2.zf vY (λg hg e'=>hgr g hg e');have WI:=cO.zf vY dM;have NV:∀k,(Value.slice od nd cd).ownBlock=some k→k≠rb:=λk hk=>by
     rcases hV2.del with⟨h1,_⟩|⟨g,off,c,h1,_⟩
     ·cases h1;cases hk
     ·cases h1
      cases hk;exact hdr _ _ rfl
    have hnd:=hV2.ln;have H3:=hid (And.intro yK (And.intro hD3 (And.intro hb3 (And.intro hF3 (And.intro WI (And.intro Qy (And.intro NV hnd)))))));clear cO yh hV2 hF2 hB2 vY yK Qy hD3 hb3 hF3 WI NV hnd hb2;go_wp2;obtain⟨W3,hW3⟩:∃Z,W2.setCell ⟨rb,8,none⟩ (.int .i64 (f:Int))=Z:=⟨_,rfl⟩;rw[hW3]at H3 ⊢;clear hW3 x8 f8 a2
    go_loopw [] (λwr=>SaI W3 b rb T a m (.slice og ng cg) ⟨A,bd,f,e⟩ ⟨A,bd,f2,e2⟩ D F wr) (λwr=>zjZ e (wr.cell? ⟨rb,8,none⟩))
    case atStart=>exact⟨0,Nat.zero_le _,H3.out.1,λi hi=>by omega,zg.refl _ _⟩
    case round=>
     obtain⟨j,hj,gI,heq,gJ⟩:=hrel;dsimp only at hj heq;obtain⟨yK,hD3,hb3,hF3,WI,Qy,NV,hnd⟩:=H3.out;obtain⟨ho',hq',zaR,zaS,znl,znm,Vx⟩:=zj1.out;try dsimp only at ho' hq' zaR zaS
     have dU:=HH3.out;have hDr:=hD3.zf gJ (λk hk e'=>NV k hk e');have hFr:=hF3.zf gJ (λg hg e'=>hgr g hg e');have YO:=hb3.zf gJ hbr;have NW:=WI.zf gJ dM;have cZ:=hid gI;have HEQ:=hid heq;have HFJ:=hid gJ;obtain⟨x,hx⟩:∃x,f+j=x:=⟨_,rfl⟩;obtain⟨y,hy⟩:∃y,f2+j=y:=⟨_,rfl⟩;have r3:IntKind.i64.wrap ((x:Int)+((f2:Int)-(f:Int)))=(y:Int):=by rw[IntWalk.i64_in _ (by omega)];omega
     have r4:IntKind.i64.wrap ((x:Int)+1)=((x+1:Nat):Int):=by rw[IntWalk.i64_in _ (by omega)];omega
     have z8:wr.cell? ⟨rb,8,none⟩=some (.int .i64 (x:Int)):=by rw[←hx];exact gI.cell 8
     have zf8:=gI.frozen 8;have z0:wr.cell? ⟨rb,0,none⟩=some (.pointer (some ⟨b,0,none⟩)):=gI.cell 0;have z7:wr.cell? ⟨rb,7,none⟩=some (.slice og ng cg):=gI.cell 7;have y6:=YO.cell 6;have w3:=NW.cell 3;have hfin:∀(B:Bool) (W':World),Below wr.heap.size wr W'→(B=decide (j=e-f))→(j<e-f→D[f+j]?≠F[f2+j]?)→BZ w b rb T a m (.slice og ng cg) ⟨A,bd,f,e⟩ ⟨A,bd,f2,e2⟩ D F df (.returned (.bool B)) W':=λB W' hW' hB hne=>
      ⟨B,_,rfl,cZ.out.below hW',(Qy.trans HFJ.out (λ_ _ h=>h)).trans (zg.of_below hW') (λ_ _ h=>h),.inr ⟨cu.out,UZ.out,j,hj,rfl,hB,HEQ.out,hne⟩⟩
     have YW:=hid hfin;clear hfin;by_cases hlt:j<e-f
     ·have u1:(x:Int)<(e:Int):=by omega
      have u2:(0:Int)≤(x:Int):=by omega
      have u3:(x:Int)<(nd:Int):=by omega
      have u4:(0:Int)≤(y:Int):=by omega
      have u5:(y:Int)<(ng:Int):=by omega
      have hgx:D[x]?=some (D[x]'(by omega)):=List.getElem?_eq_getElem _;generalize D[x]'(by omega)=dx at hgx;have XK:F[y]?=some (F[y]'(by omega)):=List.getElem?_eq_getElem _;generalize F[y]'(by omega)=dy at XK;obtain⟨gx,ox,rfl,znn,cx0,cx1⟩:=(XC.wW (by rw[hnd]at hDr;rw[hnd];exact hDr) hnd).cells x dx hgx;obtain⟨gy,oy,rfl,zno,cy0,cy1⟩:=(XC.wW (by rw[Vx]at hFr;rw[Vx];exact hFr) Vx).cells y dy XK;have zj3:=zj0 dx.word dy.word dx.tabs dy.tabs;obtain⟨V,Cb⟩:∃V,(decide (dx.word=dy.word)&& dx.tabs==dy.tabs)=V:=⟨_,rfl⟩;rw[Cb]at zj3;have gK:V=true↔dx=dy:=by
       rw[←Cb];obtain⟨p1,p2⟩:=dx;obtain⟨p3,p4⟩:=dy;simp
      have HXY:=hid (And.intro hx (And.intro hy (And.intro hgx (And.intro XK gK))));have HE2:=hid (And.intro dU (And.intro ho' (And.intro zaR zaS)));have zj4:=NW;clear hx hy hgx XK Cb gK dU hDr hFr YO NW gI heq gJ hD3 hb3 hF3 WI Qy hnd Vx yK
      go_upto_region 7 with fail
      go_cut [80]from 46 to 80 (λv wx=>v=.bool V∧Below wr.heap.size wr wx)
      case first=>
       go_quiet (fail)
       go_wp2;go_meet;case rel=>exact⟨by first|rfl|simp,below_drewN (Below.refl _ _) _⟩
      case rest=>
       obtain⟨hv,hb6⟩:=hcut;subst hv;generalize wc=W6 at*;obtain⟨hx,hy,hgx,XK,gK⟩:=HXY.out;have dV:=cZ.out.below hb6;have x8:W6.cell? ⟨rb,8,none⟩=some (.int .i64 (x:Int)):=by rw[←hx];exact dV.cell 8
       have f8:=dV.frozen 8;have Cc:=HFJ.out.trans (zg.of_below (p:=λk=>k=rb) hb6) (λ_ _ h=>h);have jI:=hid hb6
       cases V with
       |true=>
        have hxy:=gK.1 rfl;have hkn:zh (W6.setCell ⟨rb,8,none⟩ (.int .i64 ((x+1:Nat):Int))) rb (yT b T a m (.slice (some ⟨gy,oy,none⟩) ng cg) ((x+1:Nat):Int)) 97:=dV.set 8 _;have HKN:=hid (And.intro hkn (And.intro (Cc.setCell 8 (.inl rfl) (.int .i64 ((x+1:Nat):Int))) hxy));have QJ:=hid (And.intro hx (And.intro hy (And.intro hgx XK)));have HZ8:=hid z8;clear hx hy hgx XK gK dV Cc hkn hxy hb6 z8 zf8 z0 z7;go_wp2
        go_roundw
        case rel=>
         obtain⟨hx,hy,hgx,XK⟩:=QJ.out;obtain⟨hkn,hfn,hxy⟩:=HKN.out;have hx1:x+1=f+(j+1):=by omega
         refine⟨j+1,by show j+1≤e-f;omega,?_,λi hi=>?_,?_⟩
         ·show zh _ rb (yT b T a m _ ((f+(j+1):Nat):Int)) _
          rw[←hx1];exact hkn
         ·rcases Nat.lt_or_ge i j with h|h
          ·exact HEQ.out i h
          ·have hij:i=j:=by omega
           subst hij;show D[f+i]?=F[f2+i]?;rw[hx,hy,hgx,XK,hxy]
         ·first|exact hfn|(push_cast at hfn ⊢;exact hfn)
        case measure=>
         have hm1:=HKN.out.1.cell 8;have hm2:=HZ8.out;have dW:(yT b T a m (.slice (some ⟨gy,oy,none⟩) ng cg) ((x+1:Nat):Int))[8]?=some (.int .i64 ((x+1:Nat):Int)):=rfl;rw[dW]at hm1
         first
          |(rw[hm1,hm2];show e-(((x+1:Nat):Int)).toNat<e-((x:Int)).toNat;omega)
          |(push_cast at hm1;rw[hm1,hm2];show e-((x:Int)+1).toNat<e-((x:Int)).toNat;omega)
       |false=>
        have hne:D[f+j]?≠F[f2+j]?:=λh=>by
         rw[hx,hy,hgx,XK]at h;injection h with h;have:=gK.2 h;cases this
        have jQ:=hid hne;have w36:=(zj4.below hb6).cell 3;have t9:((x:Int)==(e:Int))=false:=beq_eq_false_iff_ne.2 (by omega);clear hx hy hgx XK gK dV Cc hne hb6
        go_upto_region 9 with fail
        go_cut [6]from 88 to 94 (λv wx=>v=.bool false∧Below wr.heap.size wr wx)
        case first=>
         go_quiet (fail)
         go_wp2;go_meet;case rel=>exact⟨by first|rfl|simp[t9]|(rw[t9]),below_drewN jI.out _⟩
        case rest=>
         obtain⟨hv,vH⟩:=hcut;subst hv;generalize wc=W9 at*;have wP:=hid vH;clear vH;go_wp2;go_ret;exact YW.out false W9 wP.out (by rw[decide_eq_false (by omega)]) (λ_=>jQ.out)
     ·have u1:¬(x:Int)<(e:Int):=by omega
      have u1d:decide ((x:Int)<(e:Int))=false:=decide_eq_false u1;have hje:j=e-f:=by omega
      have HJE:=hid hje;have hxe:x=e:=by omega
      have kQ:=hid NW;clear hje hx hy dU hDr hFr YO gI heq gJ hD3 hb3 hF3 WI Qy hnd Vx yK
      go_upto_region 7 with fail
      go_cut [80]from 46 to 80 (λv wx=>v=.bool false∧Below wr.heap.size wr wx)
      case first=>
       go_quiet (fail)
       go_wp2;go_meet;case rel=>exact⟨by first|rfl|simp[u1],below_drewN (Below.refl _ _) _⟩
      case rest=>
       obtain⟨hv,hb6⟩:=hcut;subst hv;generalize wc=W6 at*;have x8:W6.cell? ⟨rb,8,none⟩=some (.int .i64 (x:Int)):=(hb6.cell (p:=⟨rb,8,none⟩) cZ.out.lt).trans z8;have w36:=(kQ.out.below hb6).cell 3;have jI:=hid hb6;have t9:((x:Int)==(e:Int))=true:=by rw[hxe];simp
       clear hb6 hxe
       go_upto_region 9 with fail
       go_cut [6]from 88 to 94 (λv wx=>v=.bool true∧Below wr.heap.size wr wx)
       case first=>
        go_quiet (fail)
        go_wp2;go_meet;case rel=>exact⟨by first|rfl|simp[t9]|(rw[t9]),below_drewN jI.out _⟩
       case rest=>
        obtain⟨hv,vH⟩:=hcut;subst hv;generalize wc=W9 at*;have wP:=hid vH;clear vH;go_wp2;go_ret;exact YW.out true W9 wP.out (by rw[decide_eq_true HJE.out]) (λh=>by have:=HJE.out;omega)
 ·have cu:=hid hfit
  have hcase:A≠A2∨(A=A2∧bd≠XJ)∨(A=A2∧bd=XJ∧e+f2≠e2+f):=by
   by_cases c1:A=A2
   ·by_cases c2:bd=XJ
    ·refine .inr (.inr ⟨c1,c2,λc3=>hfit ⟨c1,c2,c3⟩⟩)
    ·exact .inr (.inl ⟨c1,c2⟩)
   ·exact .inl c1
  clear hfit;have hfin:∀W',W'=W1→BZ w b rb T a m (.slice og ng cg) ⟨A,bd,f,e⟩ ⟨A2,XJ,f2,e2⟩ D F df (.returned (.bool false)) W':=λW' h=>by
   rw[h];exact⟨false,df,rfl,Jt.out,zg.of_below HB1.out,.inl ⟨.inl cu.out,rfl,rfl⟩⟩
  have YW:=hid hfin;clear hfin;rcases hcase with c|⟨c,c2⟩|⟨c,c2,c3⟩
  ·have t1:((A:Int)==(A2:Int))=false:=beq_eq_false_iff_ne.2 (by omega)
   go_enter Tryz.func48,Tryz.ntmps48;go_wp2;go_ret;exact YW.out _ HW1.out
  ·subst c
   have t1:(bd==XJ)=false:=beq_eq_false_iff_ne.2 c2;have t2:(bd !=XJ)=true:=by rw[bne,t1];rfl
   clear c2;go_enter Tryz.func48,Tryz.ntmps48;go_wp2;go_ret;exact YW.out _ HW1.out
  ·subst c c2
   have t1:((e:Int)+((f2:Int)-(f:Int))==(e2:Int))=false:=beq_eq_false_iff_ne.2 (by omega);clear c3;go_enter Tryz.func48,Tryz.ntmps48;go_wp2;go_ret;exact YW.out _ HW1.out
end
structure Ia(arr:Array Value)(o:Nat)(q:Tk×Mk):Prop where
 c0:arr[o]?=some (.int .i64 (q.1.kind:Int))
 c1:arr[o+1]?=some (.int .i64 (q.1.zf:Int))
 c2:arr[o+2]?=some (.int .i64 (q.1.en:Int))
 c3:arr[o+3]?=some (.bool q.1.op)
 c4:arr[o+4]?=some (.int .i64 (q.2.await:Int))
 c5:arr[o+5]?=some (.bool q.2.body)
 c6:arr[o+6]?=some (.int .i64 (q.2.zf:Int))
 c7:arr[o+7]?=some (.int .i64 (q.2.en:Int))
section
variable(w:World)(z o:Nat)(arr:Array Value)(q:Tk×Mk)(kz:zh w z arr 82)(hi:Ia arr o q)(P:Int)(f2 e2 p r:Nat)(hf:(q.1.zf:Int)+P=(f2:Int))(he:(q.1.en:Int)+P=(e2:Int))(hf2:f2≤1000000)(he2:e2≤1000000)
 (hp:p≤1000000)(hr:r≤q.2.zf+p)(hm:q.2.zf≤q.2.en)(hme:q.2.en≤1000000)
include kz hi hf he hf2 he2 hp hr hm hme
theorem zhP:Calls Tryz.prog 50 #[.pointer (some ⟨z,o,none⟩),.int .i64 P,.int .i64 ((p:Int)-(r:Int))] w λe w'=>e=.returned (.tuple #[])∧(∃qx,zh w' z qx 82∧qx.size=arr.size∧Ia qx o (⟨q.1.kind,f2,e2,q.1.op⟩,q.2.mv p r)∧(∀i,i<o∨o+8≤i→qx[i]?=arr[i]?))∧zg (λk=>k=z) w w':=by
 have Qb:=Lib.hid (λW=>Ai W q.2 p r hp hr hm hme);obtain⟨n,hn⟩:∃n,q.2.mv p r=n:=⟨_,rfl⟩;rw[hn]at Qb ⊢;obtain⟨⟨tk,tf,te,top⟩,⟨A,bd,f,e⟩⟩:=q;obtain⟨A2,XJ,f3,e3⟩:=n;have hA:A2=A∧XJ=bd:=by
  have h1:=congrArg Mk.await hn;have h2:=congrArg Mk.body hn;exact⟨h1.symm,h2.symm⟩
 obtain⟨rfl,rfl⟩:=hA;obtain⟨c0,c1,c2,c3,c4,c5,c6,c7⟩:=hi;unfold jY at Qb;dsimp only at*;obtain⟨B,hB⟩:∃B:Int,(p:Int)-(r:Int)=B:=⟨_,rfl⟩;rw[hB]at Qb ⊢;have hsz:o+7<arr.size:=(Array.getElem?_eq_some_iff.1 c7).1;have r1:IntKind.i64.wrap ((tf:Int)+P)=(f2:Int):=by rw[hf,IntWalk.i64_in _ (by omega)]
 have r2:IntKind.i64.wrap ((te:Int)+P)=(e2:Int):=by rw[he,IntWalk.i64_in _ (by omega)]
 have k1:=kz.set (o+1) (.int .i64 (f2:Int));have k2:=k1.set (o+2) (.int .i64 (e2:Int));have x1:=(kz.cell (o+1)).trans c1;have g1:=kz.frozen (o+1);have x2:=(k1.cell (o+2)).trans ((Array.getElem?_setIfInBounds_ne (by omega)).trans c2);have g2:=k1.frozen (o+2);have y:∀j,o+3≤j→((arr.setIfInBounds (o+1) (.int .i64 (f2:Int))).setIfInBounds (o+2) (.int .i64 (e2:Int)))[j]?=arr[j]?:=λj hj=>by rw[Array.getElem?_setIfInBounds_ne (by omega),Array.getElem?_setIfInBounds_ne (by omega)]
 have x4:=(k2.cell (o+4)).trans ((y _ (by omega)).trans c4);have x5:=(k2.cell (o+5)).trans ((y _ (by omega)).trans c5);have x6:=(k2.cell (o+6)).trans ((y _ (by omega)).trans c6);have x7:=(k2.cell (o+7)).trans ((y _ (by omega)).trans c7);have hF2:zg (λk=>k=z) w ((w.setCell ⟨z,o+1,none⟩ (.int .i64 (f2:Int))).setCell ⟨z,o+2,none⟩ (.int .i64 (e2:Int))):=zg.setCell (p:=λk=>k=z) (zg.setCell (p:=λk=>k=z) (zg.refl _ w) (o+1) (.inl rfl) _) (o+2) (.inl rfl) _;obtain⟨a2,ha2⟩:∃a,(arr.setIfInBounds (o+1) (.int .i64 (f2:Int))).setIfInBounds (o+2) (.int .i64 (e2:Int))=a:=⟨_,rfl⟩;rw[ha2]at k2;have hz2:a2.size=arr.size:=by rw[←ha2];simp
 have b0:∀j,j<o+1∨o+3≤j→a2[j]?=arr[j]?:=λj hj=>by rw[←ha2,Array.getElem?_setIfInBounds_ne (by omega),Array.getElem?_setIfInBounds_ne (by omega)]
 have b1:a2[o+1]?=some (.int .i64 (f2:Int)):=by rw[←ha2,Array.getElem?_setIfInBounds_ne (by omega),Array.getElem?_setIfInBounds_self_of_lt (by omega)]
 have b2:a2[o+2]?=some (.int .i64 (e2:Int)):=by rw[←ha2,Array.getElem?_setIfInBounds_self_of_lt (by simp;omega)]
 have vX:=Lib.hid (And.intro k2 (And.intro hF2 (And.intro hz2 (And.intro b0 (And.intro b1 (And.intro b2 (And.intro c0 (And.intro c3 (And.intro c4 (And.intro c5 (And.intro c6 c7)))))))))));clear k1 k2 y hf he hB hn ha2 hz2 b0 b1 b2 hF2 c0 c3 c4 c5 c6 c7 kz hr hm;go_enter Tryz.func50,Tryz.ntmps50
 go_wp2_with fail
 obtain⟨W2,hW2⟩:∃Z,(w.setCell ⟨z,o+1,none⟩ (.int .i64 (f2:Int))).setCell ⟨z,o+2,none⟩ (.int .i64 (e2:Int))=Z:=⟨_,rfl⟩;rw[hW2]at vX ⊢;clear hW2 x1 x2 x4 x5 x6 x7 g1 g2;refine(Qb.out _).mono ?_;rintro e' w3 ⟨rfl,hb3⟩;obtain⟨k2,hF2,hz2,b0,b1,b2,c0,c3,c4,c5,c6,c7⟩:=vX.out;have k3:=k2.below hb3;have k4:=k3.set (o+4) (.int .i64 (A2:Int));have k5:=k4.set (o+5) (.bool XJ);have k6:=k5.set (o+6) (.int .i64 (f3:Int));have k7:=k6.set (o+7) (.int .i64 (e3:Int));have x4:=(k3.cell (o+4)).trans ((b0 _ (by omega)).trans c4);have x5:=(k4.cell (o+5)).trans ((Array.getElem?_setIfInBounds_ne (by omega)).trans ((b0 _ (by omega)).trans c5));have x6:=(k5.cell (o+6)).trans ((Array.getElem?_setIfInBounds_ne (by omega)).trans ((Array.getElem?_setIfInBounds_ne (by omega)).trans ((b0 _ (by omega)).trans c6)));have x7:=(k6.cell (o+7)).trans ((Array.getElem?_setIfInBounds_ne (by omega)).trans ((Array.getElem?_setIfInBounds_ne (by omega)).trans ((Array.getElem?_setIfInBounds_ne (by omega)).trans ((b0 _ (by omega)).trans c7))));have g4:=k3.frozen (o+4);have g5:=k4.frozen (o+5);have g6:=k5.frozen (o+6);have g7:=k6.frozen (o+7);have jV:=zg.setCell (p:=λk=>k=z) (zg.setCell (p:=λk=>k=z) (zg.setCell (p:=λk=>k=z) (zg.setCell (p:=λk=>k=z) (hF2.trans (zg.of_below (p:=λk=>k=z) hb3) (λ_ _ h=>h)) (o+4) (.inl rfl) (.int .i64 (A2:Int))) (o+5) (.inl rfl) (.bool XJ)) (o+6) (.inl rfl) (.int .i64 (f3:Int))) (o+7) (.inl rfl) (.int .i64 (e3:Int));have YW:=Lib.hid (And.intro k7 jV);clear k2 hF2 k3 k4 k5 k6 k7 jV hb3 hz2 b0 b1 b2 c0 c3 c4 c5 c6 c7;go_wp2
 go_end0
 obtain⟨k7,jV⟩:=YW.out;obtain⟨k2,hF2,hz2,b0,b1,b2,c0,c3,c4,c5,c6,c7⟩:=vX.out;refine⟨rfl,⟨_,k7,by simp[hz2],⟨?_,?_,?_,?_,?_,?_,?_,?_⟩,λi hi=>?_⟩,jV⟩
 ·rw[Array.getElem?_setIfInBounds_ne (by omega),Array.getElem?_setIfInBounds_ne (by omega),Array.getElem?_setIfInBounds_ne (by omega),Array.getElem?_setIfInBounds_ne (by omega),b0 _ (by omega)];exact c0
 ·rw[Array.getElem?_setIfInBounds_ne (by omega),Array.getElem?_setIfInBounds_ne (by omega),Array.getElem?_setIfInBounds_ne (by omega),Array.getElem?_setIfInBounds_ne (by omega)];exact b1
 ·rw[Array.getElem?_setIfInBounds_ne (by omega),Array.getElem?_setIfInBounds_ne (by omega),Array.getElem?_setIfInBounds_ne (by omega),Array.getElem?_setIfInBounds_ne (by omega)];exact b2
 ·rw[Array.getElem?_setIfInBounds_ne (by omega),Array.getElem?_setIfInBounds_ne (by omega),Array.getElem?_setIfInBounds_ne (by omega),Array.getElem?_setIfInBounds_ne (by omega),b0 _ (by omega)];exact c3
 ·rw[Array.getElem?_setIfInBounds_ne (by omega),Array.getElem?_setIfInBounds_ne (by omega),Array.getElem?_setIfInBounds_ne (by omega),Array.getElem?_setIfInBounds_self_of_lt (by omega)]
 ·rw[Array.getElem?_setIfInBounds_ne (by omega),Array.getElem?_setIfInBounds_ne (by omega),Array.getElem?_setIfInBounds_self_of_lt (by simp;omega)]
 ·rw[Array.getElem?_setIfInBounds_ne (by omega),Array.getElem?_setIfInBounds_self_of_lt (by simp;omega)]
 ·rw[Array.getElem?_setIfInBounds_self_of_lt (by simp;omega)]
 ·rw[Array.getElem?_setIfInBounds_ne (by omega),Array.getElem?_setIfInBounds_ne (by omega),Array.getElem?_setIfInBounds_ne (by omega),Array.getElem?_setIfInBounds_ne (by omega),b0 _ (by omega)]
end
end Go.Proofs.YtdjcidackkogjaaGreatDoor

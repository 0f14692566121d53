/- What the small methods of a maker of layer 13 (par -/
import Derived.Test.YtkolpaonccmgiaaGreatDoorPaO
import Derived.Test.YtkolpaonccmgiaaGreatDoorRuCc
namespace Go.Proofs.YtkolpaonccmgiaaGreatDoor.Q
set_option linter.unusedSectionVars false
set_option linter.unusedVariables false
open Go.Proofs.Tryz
open Lib(hid)
set_option maxHeartbeats 8000000
set_option maxRecDepth 100000
open Go.RowKit
def Sg(t:ByteArray)(l:List Nat):Prop:=63∉l/\∀c,c<256->decide (Lib.indexByte t.data.toList c.toUInt8<0)=!(l.contains c)
instance (t:ByteArray) (l:List Nat):Decidable (Sg t l):=by unfold Sg;infer_instance
section
variable{n:Nat}{lv:Nat->Lf}{la:Option Addr}{lc g:Nat}{w0:World}{P:Nat->Prop}
theorem zad(i:Nat):zJ n lv i<256:=CW _ _
theorem Zy(F:Nat)(fn:Func)(c:Code)(h1:prog.funcs[F]?=some fn)(h2:(fn.name== "runtime.NumGoroutine")=false)(h3:fn.body=some c):∀(args:Array Value) (W:World),(callFunc F args).run prog W=.ok (.enter F args) W:=λargs W=>by
 have h4:fn.name≠ "runtime.NumGoroutine":=by simpa using h2
 simp[callFunc,h1,h4,h3,mark]
theorem zh6{w:World}{s:PS}(hM:Mk (kP n lv la lc g) w0 P s w)(i:Nat)(hi:i<=n):
  Calls prog 47 #[.pointer (some ⟨g,0,none⟩),.int .i64 (i:Int)] w λe w'=>e=.returned (.tuple #[])/\Mk (kP n lv la lc g) w0 P ⟨i,s.L,s.u,s.d⟩ w':=by
 obtain⟨nv,hB,hO,h3,h4⟩:=hM.own;have hsm:=Je hM.st.VF i;refine(U3 w g n la lc lv _ _ _ nv _ _ hB hM.row (λb off h0 hl e=>hM.XI (e▸hM.st.rowP b off h0 hl)) hM.tx (λe=>hM.XI (e▸hM.st.CG)) (i:Int) (by rw[pY];exact Nat.le_trans hsm (by omega))).mono ?_;rintro e w' ⟨rfl,hB',hF⟩;rw[pY]at hB';exact⟨rfl,hM.st,hM.zh.trans hF (λi _ hi hp=>hM.XI (hi▸hp)),hi,hM.XI,nv,hB',xq hF hO (λk hk e=>h3 (e▸hk)),h3,h4⟩
theorem dU:yT (kP n lv la lc g) w0 P 50 #[.pointer (some ⟨g,0,none⟩)] .zu (λs=>s.a<n):=by
 intro w s hM hlt;obtain⟨nv,hB,hO,h3,h4⟩:=hM.own;have c1:w.cell? ⟨g,1,none⟩=some (.int .i64 (s.a:Int)):=hB.cell 1;have hn:=hM.st.nle;change n<=10000 at hn;have hw:IntKind.i64.wrap ((s.a:Int)+1)=((s.a+1:Nat):Int):=by
  rw[IntWalk.i64_in _ (by omega)];rfl
 have HC:=hid (zh6 hM (s.a+1) hlt);clear hB hO h3 h4 hM;go_enter func50,ntmps50
 go_wp2_with fail
 refine HC.out.mono ?_;rintro e w1 ⟨rfl,hM1⟩;have zt:=hid hM1;clear hM1;go_wp2
 go_end0
 exact⟨rfl,_,.zu,zt.out⟩
theorem zae(k:Int)(F:Nat)(first cap:Array Value)(hE:∀(args:Array Value) (W:World),(callFunc F args).run prog W=.ok (.enter F args) W)(b:PP)(dL:PS->Prop)(hD:yT (kP n lv la lc g) w0 P F (first++cap) b dL):
  yT (kP n lv la lc g) w0 P 120 #[.pointer (some ⟨g,0,none⟩),.int .i64 k,.func (.func F) first cap] (.node k true b) (λs=>dL (zk k true s)/\s.L.length<=900000/\s.d<=1000):=by
 intro w s hM ⟨hpre,hlen,hd⟩;obtain⟨nv,hB,hO,h3,h4⟩:=hM.own;have c9:w.cell? ⟨g,9,none⟩=some (.int .i64 (s.d:Int)):=hB.cell 9;have f9:w.frozen? ⟨g,9,none⟩=false:=zf.frozen (t:=50) hB 9;have hw:IntKind.i64.wrap ((s.d:Int)+1)=((s.d+1:Nat):Int):=by
  rw[IntWalk.i64_in _ (by omega)];rfl
 have hM1:Mk (kP n lv la lc g) w0 P ⟨s.a,s.L,s.u,s.d+1⟩ (w.setCell ⟨g,9,none⟩ (.int .i64 ((s.d+1:Nat):Int))):=
  hM.turn rfl hM.yM ((zg.refl _ _).put _ _) (λnv h=>h.set 9 _)
 have HC:=hid (VG k F first cap hE b dL hD _ _ hM1 ⟨hpre,hlen⟩);clear hB hO h3 h4 hM hD hM1 hpre;go_enter func120,ntmps120
 go_wp2_with fail
 refine HC.out.mono ?_;rintro e w2 ⟨rfl,s',hev,hM2⟩;cases hev with|@node _ _ _ _ s1 hev=>
 have hkd:(fin k ⟨s.a,s.L,s.u,s.d+1⟩ s1).d=s.d+1:=rfl;obtain⟨nv,hB,hO,h3,h4⟩:=hM2.own;have e9:w2.cell? ⟨g,9,none⟩=some (.int .i64 ((s.d+1:Nat):Int)):=hB.cell 9;have g9:w2.frozen? ⟨g,9,none⟩=false:=zf.frozen (t:=50) hB 9;have hw2:IntKind.i64.wrap (((s.d+1:Nat):Int)-1)=(s.d:Int):=by
  rw[IntWalk.i64_in _ (by omega)];omega
 have zn:=hid (show Mk (kP n lv la lc g) w0 P (fin k s s1) (w2.setCell ⟨g,9,none⟩ (.int .i64 (s.d:Int)))from
  hM2.turn rfl hM2.yM ((zg.refl _ _).put _ _) (λnv h=>h.set 9 _))
 have VH:=hid (show Ev n lv b (zk k true s) s1 from hev);clear hB hO h3 h4 hM2 hev hkd;go_wp2
 go_end0
 exact⟨rfl,_,.node VH.out,zn.out⟩
theorem zh7:yT (kP n lv la lc g) w0 P 102 #[] .skip (λ_=>True):=by
 intro w s hM _;have HM:=hid hM;clear hM;go_enter func102,ntmps102;go_wp2
 go_end0
 exact⟨rfl,_,.skip,HM.out⟩
theorem wS:yT (kP n lv la lc g) w0 P 73 #[.pointer (some ⟨g,0,none⟩)] Vj (λs=>s.L.length<=900000):=by
 intro w s hM hl;have HC:=hid (VG 18 102 #[] #[] (Zy _ _ _ func102 (by kernel_rfl) rfl) .skip (λ_=>True) zh7 w s hM ⟨trivial,hl⟩);clear hM;go_enter func73,ntmps73
 go_wp2_with fail
 refine HC.out.mono ?_;rintro e w1 ⟨rfl,s1,he,hM1⟩;have zt:=hid hM1;have HE:=hid he;clear hM1 he;go_wp2
 go_end0
 exact⟨rfl,_,HE.out,zt.out⟩
theorem Nl:yT (kP n lv la lc g) w0 P 148 #[.pointer (some ⟨g,0,none⟩)] Jf (λs=>s.a<n/\s.L.length<=900000):=by
 intro w s hM ⟨ha,hl⟩;have HC:=hid (VG 7 50 #[.pointer (some ⟨g,0,none⟩)] #[] (Zy _ _ _ func50 (by kernel_rfl) rfl) .zu _ dU w s hM ⟨ha,hl⟩);have hmf:∀(fn:Fn) (first cap:Array Value) (W:World),(Instr.makeFunc fn first cap).run prog W=.ok (.func fn first cap) W:=λ_ _ _ _=>rfl;clear hM;go_enter func148,ntmps148
 go_wp2_with fail
 refine HC.out.mono ?_;rintro e w1 ⟨rfl,s1,he,hM1⟩;have zt:=hid hM1;have HE:=hid he;clear hM1 he;go_wp2
 go_end0
 exact⟨rfl,_,HE.out,zt.out⟩
theorem Np:Ld (kP n lv la lc g) g 150 (xh n lv):=by
 intro w0 P w s hM;obtain⟨nv,hB,hO,h3,h4⟩:=hM.own;have c2:w.cell? ⟨g,2,none⟩=some (.int .i64 (yF n lv s.a).k):=hB.cell 2;unfold xh;obtain⟨x,hx⟩:∃x,(yF n lv s.a).k=x:=⟨_,rfl⟩;rw[hx]at c2 ⊢;obtain⟨y,hy⟩:∃y,decide (x=6)=y:=⟨_,rfl⟩;have hy2:(x==6)=y:=by rw[←hy];rfl
 rw[hy];clear hB hO h3 h4 hM hx hy;go_enter func150,ntmps150;go_wp2;go_ret;exact⟨rfl,Below.refl _ _⟩
theorem Po{w:World}{s:PS}(hM:Mk (kP n lv la lc g) w0 P s w):
  Calls prog 117 #[.pointer (some ⟨g,0,none⟩)] w λe w'=>e=.returned (.int .u8 (zJ n lv (s.a+1):Nat))/\Below w.heap.size w w':=by
 obtain⟨nv,hB,hO,h3,h4⟩:=hM.own;have c1:w.cell? ⟨g,1,none⟩=some (.int .i64 (s.a:Int)):=hB.cell 1;have hn:=hM.st.nle;have ha:=hM.yM;change n<=10000 at hn;change s.a<=n at ha;have hw:IntKind.i64.wrap ((s.a:Int)+1)=((s.a+1:Nat):Int):=by
  rw[IntWalk.i64_in _ (by omega)];rfl
 have hsm:=Je hM.st.VF (s.a+1);change(yF n lv (s.a+1)).s.size<=100 at hsm;have hc:=U2 w g n la lc lv (hB.cell 0) hB.lt hM.row ((s.a+1:Nat):Int);rw[pY]at hc;have hs:∀W,Below w.heap.size w W->Calls prog 77 #[Xc (yF n lv (s.a+1))] W λe w'=>e=.returned (.int .u8 (zJ n lv (s.a+1):Nat))/\Below W.heap.size W w':=λW hb=>U4 W _ (by omega) (hM.tx.b hb);have HC:=hid hc;have HS:=hid hs;clear hB hO h3 h4 hM hc hs hsm;go_enter func117,ntmps117
 go_wp2_with fail
 refine HC.out.mono ?_;rintro e w1 ⟨rfl,hb1⟩;have HB1:=hid hb1;clear hb1
 go_wp2_with fail
 refine(HS.out _ HB1.out).mono ?_;rintro e w2 ⟨rfl,hb2⟩;have HB2:=hid (HB1.out.trans (hb2.mono HB1.out.size));clear hb2;go_wp2;go_ret;exact⟨rfl,HB2.out⟩
theorem CX:Ld (kP n lv la lc g) g 99 (vG n lv):=by
 intro w0 P w s hM;obtain⟨nv,hB,hO,h3,h4⟩:=hM.own;have c6:w.cell? ⟨g,6,none⟩=some (.int .u8 (zJ n lv s.a:Int)):=hB.cell 6;have HC:=hid (Po hM);unfold vG;obtain⟨x,hx⟩:∃x,zJ n lv s.a=x:=⟨_,rfl⟩;obtain⟨y,hy⟩:∃y,zJ n lv (s.a+1)=y:=⟨_,rfl⟩;rw[hx]at c6 ⊢;rw[hy]at HC ⊢;obtain⟨z,hz⟩:∃z,(y==60)=z:=⟨_,rfl⟩;rw[hz];have hz2:((y:Int)==60)=z:=by rw[←hz,Bool.eq_iff_iff];simp;omega
 clear hB hO h3 h4 hM hx hy hz;by_cases h60:x=60
 ·subst h60
  go_enter func99,ntmps99;go_wp2;go_ret;exact⟨rfl,Below.refl _ _⟩
 ·by_cases h35:x=35
  ·subst h35
   go_enter func99,ntmps99
   go_wp2_with fail
   refine HC.out.mono ?_;rintro e w1 ⟨rfl,hb1⟩;have HB1:=hid hb1;clear hb1;go_wp2;go_ret;exact⟨rfl,HB1.out⟩
  ·have t1:((x:Int)==60)=false:=by simp;omega
   have t2:((x:Int)==35)=false:=by simp;omega
   have e1:(x==60)=false:=by simpa using h60
   have e2:(x==35)=false:=by simpa using h35
   rw[e1,e2];clear e1 e2 h60 h35;go_enter func99,ntmps99;go_wp2;go_ret;exact⟨rfl,Below.refl _ _⟩
theorem CY:Ld (kP n lv la lc g) g 100 (kZ n lv):=by
 intro w0 P w s hM;obtain⟨nv,hB,hO,h3,h4⟩:=hM.own;have c6:w.cell? ⟨g,6,none⟩=some (.int .u8 (zJ n lv s.a:Int)):=hB.cell 6;have c9:w.cell? ⟨g,9,none⟩=some (.int .i64 (s.d:Int)):=hB.cell 9;have HC:=hid (pz ⟨#[123,40,105,119,114,99]⟩ (zJ n lv s.a:Int) w);have hsg:Sg ⟨#[123,40,105,119,114,99]⟩ [123,40,105,119,114,99]:=by decide+kernel
 have hx:=hsg.2 (zJ n lv s.a) (zad _);unfold kZ;rw[Int.toNat_natCast]at HC;obtain⟨q,hq⟩:∃q,Lib.indexByte (⟨#[123,40,105,119,114,99]⟩:ByteArray).data.toList (zJ n lv s.a).toUInt8=q:=⟨_,rfl⟩;rw[hq]at HC hx;obtain⟨b,hb⟩:∃b,[123,40,105,119,114,99].contains (zJ n lv s.a)=b:=⟨_,rfl⟩;rw[hb]at hx ⊢;obtain⟨z,hz⟩:∃z,decide (s.d<200)=z:=⟨_,rfl⟩;rw[hz];have hz2:decide ((s.d:Int)<200)=z:=by rw[←hz,Bool.eq_iff_iff];simp;omega
 have hq2:decide (0<=q)=b:=by
  have:decide (0<=q)=!decide (q<0):=by rw[Bool.eq_iff_iff];simp
  rw[this,hx,Bool.not_not]
 obtain⟨sg,QX⟩:∃sg,zJ n lv s.a=sg:=⟨_,rfl⟩;rw[QX]at c6 HC;obtain⟨d,hd⟩:∃d,s.d=d:=⟨_,rfl⟩;rw[hd]at c9 hz2;clear hB hO h3 h4 hM hsg hq hb hz QX hx hd
 cases b with
 |true=>
  have q0:0<=q:=of_decide_eq_true hq2;clear hq2;go_enter func100,ntmps100
  go_wp2_with fail
  refine HC.out.mono ?_;rintro e w1 ⟨rfl,rfl⟩;go_wp2;go_ret;exact⟨rfl,Below.refl _ _⟩
 |false=>
  have q0:¬0<=q:=of_decide_eq_false hq2;clear hq2;go_enter func100,ntmps100
  go_wp2_with fail
  refine HC.out.mono ?_;rintro e w1 ⟨rfl,rfl⟩;go_wp2;go_ret;exact⟨rfl,Below.refl _ _⟩
end
section
variable{n:Nat}{lv:Nat->Lf}{la:Option Addr}{lc g:Nat}{w0:World}{P:Nat->Prop}
def XM(R:Nat)(W:World):Nat:=match W.cell? ⟨R,1,none⟩with|some (.int _ a)=>a.toNat|_=>0
theorem xJ{w:World}{s:PS}(hM:Mk (kP n lv la lc g) w0 P s w):XM g w=s.a:=by
 obtain⟨nv,hB,hO,h3,h4⟩:=hM.own;have c1:w.cell? ⟨g,1,none⟩=some (.int .i64 (s.a:Int)):=hB.cell 1;unfold XM;rw[c1];simp
theorem ZP(t:ByteArray)(l:List Nat)(hl:Sg t l){w:World}{s:PS}(hM:Mk (kP n lv la lc g) w0 P s w)(b:Bool)(hb:isS n lv l s=b):
  Calls prog 48 #[.pointer (some ⟨g,0,none⟩),.string t] w λe w'=>e=.returned (.bool b)/\Mk (kP n lv la lc g) w0 P (cond b (zA s) s) w':=by
 obtain⟨nv,hB,hO,h3,h4⟩:=hM.own;have c6:w.cell? ⟨g,6,none⟩=some (.int .u8 (zJ n lv s.a:Int)):=hB.cell 6;have HC:=hid (pz t (zJ n lv s.a:Int) w);have hx:=hl.2 (zJ n lv s.a) (zad _);unfold isS at hb;rw[hb]at hx;rw[Int.toNat_natCast]at HC;obtain⟨q,hq⟩:∃q,Lib.indexByte t.data.toList (zJ n lv s.a).toUInt8=q:=⟨_,rfl⟩;rw[hq]at HC hx;obtain⟨sg,QX⟩:∃sg,zJ n lv s.a=sg:=⟨_,rfl⟩;rw[QX]at c6 HC
 cases b with
 |true=>
  have q0:¬q<0:=of_decide_eq_false hx;have q1:decide (q<0)=false:=hx;have HN:=hid (dU w s hM (yV (lv:=lv) (l:=l) (show isS n lv l s=true from hb) hl.1));clear hB hO h3 h4 hM hq QX hx hb;go_enter func48,ntmps48
  go_wp2_with fail
  refine HC.out.mono ?_;rintro e w1 ⟨rfl,rfl⟩
  go_wp2_with fail
  refine HN.out.mono ?_;rintro e w2 ⟨rfl,s2,he,hM2⟩;cases he;have zo:=hid hM2;clear hM2;go_wp2;go_ret;exact⟨rfl,zo.out⟩
 |false=>
  have q0:q<0:=of_decide_eq_true hx;have q1:decide (q<0)=true:=hx;have HM:=hid hM;clear hB hO h3 h4 hM hq QX hx hb;go_enter func48,ntmps48
  go_wp2_with fail
  refine HC.out.mono ?_;rintro e w1 ⟨rfl,rfl⟩;go_wp2;go_ret;exact⟨rfl,HM.out⟩
theorem gZ(t:ByteArray)(c:Nat)(hl:Sg t [c]):yT (kP n lv la lc g) w0 P 149 #[.pointer (some ⟨g,0,none⟩),.string t] (JS n lv c) (λs=>s.L.length<=900000):=by
 intro w s hM hlen;obtain⟨b,hb⟩:∃b,isS n lv [c] s=b:=⟨_,rfl⟩;have HC:=hid (ZP t [c] hl hM b hb);have uP:=hid (wS (n:=n) (lv:=lv) (la:=la) (lc:=lc) (g:=g) (w0:=w0) (P:=P));have HB:=hid hb;clear hM hb
 cases b with
 |true=>
  go_enter func149,ntmps149
  go_wp2_with fail
  refine HC.out.mono ?_;rintro e w1 ⟨rfl,hM1⟩;have zt:=hid hM1;clear hM1;go_wp2
  go_end0
  exact⟨rfl,_,.yes HB.out .zu,zt.out⟩
 |false=>
  go_enter func149,ntmps149
  go_wp2_with fail
  refine HC.out.mono ?_;rintro e w1 ⟨rfl,hM1⟩;have zt:=hid hM1;clear hM1
  go_wp2_with fail
  refine(uP.out _ _ zt.out hlen).mono ?_;rintro e w2 ⟨rfl,s2,he,hM2⟩;have zo:=hid hM2;have HE:=hid he;clear hM2 he;go_wp2
  go_end0
  exact⟨rfl,_,.no HB.out HE.out,zo.out⟩
def zif(n:Nat)(lv:Nat->Lf)(la:Option Addr)(lc g:Nat)(w0:World)(P:Nat->Prop)(s:PS)(wr:World):Prop:=
 ∃r,Mk (kP n lv la lc g) w0 P r wr/\s.a<=r.a/\(r.a=s.a->r=s)/\(s.a<r.a->isS n lv [110] s=true)/\∀s',Ev n lv (um n lv) r s'->Ev n lv (um n lv) s s'
theorem zaf{w:World}{s:PS}(hM:Mk (kP n lv la lc g) w0 P s w):
  Calls prog 72 #[.pointer (some ⟨g,0,none⟩)] w λe w'=>e=.returned (.bool (isS n lv [110] s))/\∃s',Ev n lv (um n lv) s s'/\Mk (kP n lv la lc g) w0 P s' w':=by
 have hsg:Sg ⟨#[110]⟩ [110]:=by decide+kernel
 obtain⟨nv,hB,hO,h3,h4⟩:=hM.own;have c1:w.cell? ⟨g,1,none⟩=some (.int .i64 (s.a:Int)):=hB.cell 1;have HM:=hid hM;have wL:=hid hsg;clear hM hB hO h3 h4 hsg;obtain⟨b0,hb0⟩:∃b0,isS n lv [110] s=b0:=⟨_,rfl⟩;have HB0:=hid hb0;rw[hb0];clear hb0;obtain⟨a0,ha0⟩:∃a0,s.a=a0:=⟨_,rfl⟩;have Px:=hid ha0;rw[ha0]at c1;clear ha0;go_enter func72,ntmps72;go_wp2
 go_loopw [] (λwr=>zif n lv la lc g w0 P s wr) (λwr=>n+1-XM g wr)
 case atStart=>exact⟨s,HM.out,Nat.le_refl _,λ_=>rfl,λh=>absurd h (Nat.lt_irrefl _),λ_ h=>h⟩
 case round=>
  obtain⟨r,hMr,h1,h2,h3,h4⟩:=hrel;obtain⟨b,hb⟩:∃b,isS n lv [110] r=b:=⟨_,rfl⟩;have HC:=hid (ZP ⟨#[110]⟩ [110] wL.out hMr b hb);have zq:=hid hMr;have HH:=hid (And.intro h1 (And.intro h2 (And.intro h3 h4)));have Va:=hid hb;clear hMr h1 h2 h3 h4 hb c1
  cases b with
  |true=>
   go_wp2_with fail
   refine HC.out.mono ?_;rintro e w1 ⟨rfl,hM1⟩;have zt:=hid hM1;clear hM1;go_wp2
   go_roundw
   case rel=>
    obtain⟨h1,h2,h3,h4⟩:=HH.out;refine⟨zA r,zt.out,by simp only[zA];omega,λh=>by simp only[zA]at h;omega,λ_=>?_,λs' he=>h4 s' (.go Va.out .zu rfl .skip he)⟩;rcases Nat.lt_or_ge s.a r.a with g1|g1
    ·exact h3 g1
    ·rw[←h2 (by omega)]
     exact Va.out
   case measure=>
    have e1:=xJ zt.out;have e2:=xJ zq.out;have:=yV (lv:=lv) Va.out (by decide);simp only[cond,zA]at e1;rw[e1,e2];omega
  |false=>
   go_wp2_with fail
   refine HC.out.mono ?_;rintro e w1 ⟨rfl,hM1⟩;obtain⟨nv,hB,hO,h3,h4⟩:=hM1.own;have c1:w1.cell? ⟨g,1,none⟩=some (.int .i64 (r.a:Int)):=hB.cell 1;have zt:=hid hM1;obtain⟨ra,hra⟩:∃ra,r.a=ra:=⟨_,rfl⟩;rw[hra]at c1;have hdec:decide (a0<ra)=b0:=by
    obtain⟨h1,h2,h3,h4⟩:=HH.out;rw[←Px.out,←hra,←HB0.out];rcases Nat.lt_or_ge s.a r.a with g1|g1
    ·rw[h3 g1]
     exact decide_eq_true g1
    ·rw[←h2 (by omega),Va.out]
     exact decide_eq_false (Nat.lt_irrefl _)
   have zom:decide ((a0:Int)<(ra:Int))=b0:=by rw[←hdec,Bool.eq_iff_iff];simp
   have VH:=hid (HH.out.2.2.2 r (.stop Va.out));clear hB hO h3 h4 hM1 hra Px;go_wp2;go_ret;exact⟨rfl,_,VH.out,zt.out⟩
def zih(n:Nat)(lv:Nat->Lf)(l:List Nat):PP:=.ite (isS n lv l) (.seq .zu (um n lv)) .skip
theorem Py{s s':PS}(h:Ev n lv (um n lv) s s')(hb:isS n lv [110] s=true):Ev n lv (.seq .zu (um n lv)) s s':=by
 cases h with
 |stop hc=>rw[hb]at hc;cases hc
 |out _ _ hd=>cases hd
 |go _ h1 _ h2 h3=>
  cases h2;exact .seq h1 h3
theorem Pz{s s':PS}(h:Ev n lv (um n lv) s s')(hb:isS n lv [110] s=false):s'=s:=by
 cases h with
 |stop hc=>rfl
 |out hc _ hd=>cases hd
 |go hc _ _ _ _=>rw[hb]at hc;cases hc
theorem zah(t:ByteArray)(l l':List Nat)(hl:Sg t l)(hl':∀c,l'.contains c=(l.contains c||c==110)){w:World}{s:PS}(hM:Mk (kP n lv la lc g) w0 P s w)(b:Bool)(hb:isS n lv l' s=b):
  Calls prog 108 #[.pointer (some ⟨g,0,none⟩),.string t] w λe w'=>e=.returned (.bool b)/\∃s',Ev n lv (zih n lv l') s s'/\Mk (kP n lv la lc g) w0 P s' w':=by
 obtain⟨x,hx⟩:∃x,isS n lv l s=x:=⟨_,rfl⟩;have HC:=hid (ZP t l hl hM x hx);have HN:Hid (∀(W:World) (r:PS),Mk (kP n lv la lc g) w0 P r W->∀z,isS n lv [110] r=z->Calls prog 72 #[.pointer (some ⟨g,0,none⟩)] W λe w'=>e=.returned (.bool z)/\∃s',Ev n lv (um n lv) r s'/\Mk (kP n lv la lc g) w0 P s' w'):=hid (λW r h z hz=>by rw[←hz];exact zaf h);have hbb:(x||isS n lv [110] s)=b:=by
  rw[←hb,←hx];unfold isS;rw[hl'];simp only[List.contains_cons,List.contains_nil,Bool.or_false]
 have yh:=hid (And.intro hb hx);clear hM hb hx hl' hl
 cases x with
 |true=>
  have hbt:b=true:=by rw[←hbb];rfl
  subst hbt;clear hbb;go_enter func108,ntmps108
  go_wp2_with fail
  refine HC.out.mono ?_;rintro e w1 ⟨rfl,hM1⟩;obtain⟨z,hz⟩:∃z,isS n lv [110] (cond true (zA s) s)=z:=⟨_,rfl⟩;have HZ:=hid (HN.out _ _ hM1 z hz);clear hM1 hz
  cases z with
  |true=>
   go_wp2_with fail
   refine HZ.out.mono ?_;rintro e w2 ⟨rfl,s2,he,hM2⟩;have zo:=hid hM2;have HE:=hid he;clear hM2 he;go_wp2;go_ret;exact⟨rfl,_,.yes yh.out.1 (.seq .zu HE.out),zo.out⟩
  |false=>
   go_wp2_with fail
   refine HZ.out.mono ?_;rintro e w2 ⟨rfl,s2,he,hM2⟩;have zo:=hid hM2;have HE:=hid he;clear hM2 he;go_wp2;go_ret;exact⟨rfl,_,.yes yh.out.1 (.seq .zu HE.out),zo.out⟩
 |false=>
  have hbt:isS n lv [110] s=b:=by rw[←hbb];rfl
  clear hbb;go_enter func108,ntmps108
  go_wp2_with fail
  refine HC.out.mono ?_;rintro e w1 ⟨rfl,hM1⟩;have HZ:=hid (HN.out _ _ hM1 b hbt);have QK:=hid hbt;clear hM1 hbt
  cases b with
  |true=>
   go_wp2_with fail
   refine HZ.out.mono ?_;rintro e w2 ⟨rfl,s2,he,hM2⟩;have zo:=hid hM2;have HE:=hid he;clear hM2 he;go_wp2;go_ret;exact⟨rfl,_,.yes yh.out.1 (Py HE.out QK.out),zo.out⟩
  |false=>
   go_wp2_with fail
   refine HZ.out.mono ?_;rintro e w2 ⟨rfl,s2,he,hM2⟩;have zo:=hid hM2;have HE:=hid (Pz he QK.out);clear hM2 he;go_wp2;go_ret;have e2:s2=s:=HE.out;refine⟨rfl,s,.no yh.out.1 .skip,?_⟩;rw[←e2];exact zo.out
theorem ed:yT (kP n lv la lc g) w0 P 181 #[.pointer (some ⟨g,0,none⟩)] (JU n lv) (λs=>s.L.length<=900000):=by
 intro w s hM hlen;obtain⟨b,hb⟩:∃b,xh n lv s=b:=⟨_,rfl⟩;have hc:=Np (n:=n) (lv:=lv) (la:=la) (lc:=lc) (g:=g) w0 P w s hM;rw[hb]at hc;have HC:=hid hc;have HM:=hid hM;have uP:=hid (wS (n:=n) (lv:=lv) (la:=la) (lc:=lc) (g:=g) (w0:=w0) (P:=P));have Q5:=hid (Nl (n:=n) (lv:=lv) (la:=la) (lc:=lc) (g:=g) (w0:=w0) (P:=P));have HB:=hid hb;clear hM hb hc
 cases b with
 |true=>
  go_enter func181,ntmps181
  go_wp2_with fail
  refine HC.out.mono ?_;rintro e w1 ⟨rfl,hb1⟩;have zt:=hid (HM.out.below hb1);clear hb1
  go_wp2_with fail
  refine(Q5.out _ _ zt.out ⟨ZR HB.out,hlen⟩).mono ?_;rintro e w2 ⟨rfl,s2,he,hM2⟩;have zo:=hid hM2;have HE:=hid he;clear hM2 he;go_wp2
  go_end0
  exact⟨rfl,_,.yes HB.out HE.out,zo.out⟩
 |false=>
  go_enter func181,ntmps181
  go_wp2_with fail
  refine HC.out.mono ?_;rintro e w1 ⟨rfl,hb1⟩;have zt:=hid (HM.out.below hb1);clear hb1
  go_wp2_with fail
  refine(uP.out _ _ zt.out hlen).mono ?_;rintro e w2 ⟨rfl,s2,he,hM2⟩;have zo:=hid hM2;have HE:=hid he;clear hM2 he;go_wp2
  go_end0
  exact⟨rfl,_,.no HB.out HE.out,zo.out⟩
end
section
variable{n:Nat}{lv:Nat->Lf}{la:Option Addr}{lc g:Nat}{w0:World}{P:Nat->Prop}
theorem zl{p:PP}{s s':PS}{c:Int}(h:Ev n lv p s s')(ho:YH p=true)(hc:cst p<=c):zC s'<=zC s+c:=by have:=h.zC ho;omega
theorem xG{s:PS}{w:World}(hM:Mk (kP n lv la lc g) w0 P s w)(h:zC s<=1000):s.L.length<=900000:=by
 have h1:=hM.yM;have h2:=hM.st.nle;change s.a<=n at h1;change n<=10000 at h2;unfold zC at h;omega
theorem zai:Ld (kP n lv la lc g) g 70 (XL n lv):=by
 intro w0 P w s hM;obtain⟨nv,hB,hO,h3,h4⟩:=hM.own;have c6:w.cell? ⟨g,6,none⟩=some (.int .u8 (zJ n lv s.a:Int)):=hB.cell 6;have hr:=CX (n:=n) (lv:=lv) (la:=la) (lc:=lc) (g:=g) w0 P w s hM;have HCM:=hid (λW (h:Below w.heap.size w W)=>CY (n:=n) (lv:=lv) (la:=la) (lc:=lc) (g:=g) w0 P W s (hM.below h));unfold XL;obtain⟨x,hx⟩:∃x,zJ n lv s.a=x:=⟨_,rfl⟩;rw[hx]at c6 ⊢;obtain⟨r,hr2⟩:∃r,vG n lv s=r:=⟨_,rfl⟩;rw[hr2]at hr ⊢;obtain⟨z,hz⟩:∃z,kZ n lv s=z:=⟨_,rfl⟩;rw[hz]at HCM ⊢;have HR:=hid hr;clear hB hO h3 h4 hM hx hr hr2 hz;by_cases Lp:x=120
 ·subst Lp
  go_enter func70,ntmps70;go_wp2;go_ret;exact⟨rfl,Below.refl _ _⟩
 ·have t1:((x:Int)==120)=false:=by simp;omega
  have e1:(x==120)=false:=by simpa using Lp
  rw[e1,Bool.false_or];clear e1 Lp
  cases r with
  |true=>
   go_enter func70,ntmps70
   go_wp2_with fail
   refine HR.out.mono ?_;rintro e w1 ⟨rfl,hb1⟩;have HB1:=hid hb1;clear hb1;go_wp2;go_ret;exact⟨rfl,HB1.out⟩
  |false=>
   go_enter func70,ntmps70
   go_wp2_with fail
   refine HR.out.mono ?_;rintro e w1 ⟨rfl,hb1⟩;have HB1:=hid hb1;clear hb1
   go_wp2_with fail
   refine(HCM.out _ HB1.out).mono ?_;rintro e w2 ⟨rfl,hb2⟩;have HB2:=hid (HB1.out.trans (hb2.mono HB1.out.size));clear hb2;go_wp2;go_ret;exact⟨rfl,HB2.out⟩
theorem PD:Ld (kP n lv la lc g) g 44 (xI n lv):=by
 intro w0 P w s hM;obtain⟨nv,hB,hO,h3,h4⟩:=hM.own;have c6:w.cell? ⟨g,6,none⟩=some (.int .u8 (zJ n lv s.a:Int)):=hB.cell 6;have hr:=zai (n:=n) (lv:=lv) (la:=la) (lc:=lc) (g:=g) w0 P w s hM;unfold xI;obtain⟨x,hx⟩:∃x,zJ n lv s.a=x:=⟨_,rfl⟩;rw[hx]at c6 ⊢;obtain⟨r,hr2⟩:∃r,XL n lv s=r:=⟨_,rfl⟩;rw[hr2]at hr ⊢;have HR:=hid hr;clear hB hO h3 h4 hM hx hr hr2;by_cases eF:x=33
 ·subst eF
  go_enter func44,ntmps44;go_wp2;go_ret;exact⟨rfl,Below.refl _ _⟩
 ·have t1:((x:Int)==33)=false:=by simp;omega
  have e1:(x==33)=false:=by simpa using eF
  rw[e1,Bool.false_or];clear e1 eF;go_enter func44,ntmps44
  go_wp2_with fail
  refine HR.out.mono ?_;rintro e w1 ⟨rfl,hb1⟩;have HB1:=hid hb1;clear hb1;go_wp2;go_ret;exact⟨rfl,HB1.out⟩
def PE(n:Nat)(lv:Nat->Lf):PP:=.seq (.ite (isS n lv [35]) (.seq .zu .zu) .zu) (JU n lv)
theorem zii:Sg ⟨#[35]⟩ [35]:=by decide+kernel
theorem zaj:Sg ⟨#[60]⟩ [60]:=by decide+kernel
theorem zak{s:PS}(h:vG n lv s=true)(hb:isS n lv [35] s=true):isS n lv [60] (zA s)=true:=by
 unfold isS at hb ⊢;unfold vG at h;simp only[List.contains_cons,List.contains_nil,Bool.or_false,beq_iff_eq]at hb ⊢;rw[hb]at h;simpa[zA]using h
theorem zij{s:PS}(h:vG n lv s=true)(hb:isS n lv [35] s=false):isS n lv [60] s=true:=by
 unfold isS at hb ⊢;unfold vG at h;simp only[List.contains_cons,List.contains_nil,Bool.or_false]at hb ⊢;rw[hb]at h;simpa using h
theorem zik(B:Nat)(hbox:zf w0 B #[.pointer (some ⟨g,0,none⟩)] 46)(Nr:P B):
  yT (kP n lv la lc g) w0 P 180 #[.pointer (some ⟨B,0,none⟩)] (PE n lv) (λs=>vG n lv s=true/\zC s<=100):=by
 intro w s hM ⟨hr,hp⟩;have yh:=hid (λW r (h:Mk (kP n lv la lc g) w0 P r W)=>(show W.cell? ⟨B,0,none⟩=some (.pointer (some ⟨g,0,none⟩))from(h.blk hbox Nr).cell 0));have b0:=yh.out _ _ hM;obtain⟨x,hx⟩:∃x,isS n lv [35] s=x:=⟨_,rfl⟩;have HC:=hid (ZP ⟨#[35]⟩ [35] zii hM x hx);have HW:=hid (ed (n:=n) (lv:=lv) (la:=la) (lc:=lc) (g:=g) (w0:=w0) (P:=P));have HX:=hid hx;have HR:=hid hr;clear hM hx hbox hr
 cases x with
 |true=>
  go_enter func180,ntmps180
  go_wp2_with fail
  refine HC.out.mono ?_;rintro e w1 ⟨rfl,hM1⟩;have Ns:Mk (kP n lv la lc g) w0 P (zA s) w1:=hM1;have b1:=yh.out _ _ hM1;have HC2:=hid (ZP ⟨#[60]⟩ [60] zaj Ns true (zak HR.out HX.out));clear hM1 Ns
  go_wp2_with fail
  refine HC2.out.mono ?_;rintro e w2 ⟨rfl,hM2⟩;have Lr:Mk (kP n lv la lc g) w0 P (zA (zA s)) w2:=hM2;have b2:=yh.out _ _ hM2;have zo:=hid Lr;have hl2:(zA (zA s)).L.length<=900000:=xG Lr (by simp only[zC,zA]at hp ⊢;omega);clear hM2 Lr
  go_wp2_with fail
  refine(HW.out _ _ zo.out hl2).mono ?_;rintro e w3 ⟨rfl,s3,he3,zx⟩;have zn:=hid zx;have yN:=hid he3;clear zx he3;go_wp2
  go_end0
  exact⟨rfl,_,.seq (.yes HX.out (.seq .zu .zu)) yN.out,zn.out⟩
 |false=>
  go_enter func180,ntmps180
  go_wp2_with fail
  refine HC.out.mono ?_;rintro e w1 ⟨rfl,hM1⟩;have Ns:Mk (kP n lv la lc g) w0 P s w1:=hM1;have b1:=yh.out _ _ hM1;have HC2:=hid (ZP ⟨#[60]⟩ [60] zaj Ns true (zij HR.out HX.out));clear hM1 Ns
  go_wp2_with fail
  refine HC2.out.mono ?_;rintro e w2 ⟨rfl,hM2⟩;have Lr:Mk (kP n lv la lc g) w0 P (zA s) w2:=hM2;have b2:=yh.out _ _ hM2;have zo:=hid Lr;have hl2:(zA s).L.length<=900000:=xG Lr (by simp only[zC,zA]at hp ⊢;omega);clear hM2 Lr
  go_wp2_with fail
  refine(HW.out _ _ zo.out hl2).mono ?_;rintro e w3 ⟨rfl,s3,he3,zx⟩;have zn:=hid zx;have yN:=hid he3;clear zx he3;go_wp2
  go_end0
  exact⟨rfl,_,.seq (.no HX.out .zu) yN.out,zn.out⟩
theorem zal:yT (kP n lv la lc g) w0 P 146 #[.pointer (some ⟨g,0,none⟩)] (wP n lv) (λs=>vG n lv s=true/\zC s<=90):=by
 intro w s hM ⟨hr,hp⟩;have hb1:Below w.heap.size w (w.alloc (.cells #[.pointer (some ⟨g,0,none⟩)] 46)):=(Below.refl _ w).alloc (Nat.le_refl _) _;have hbx:=zf.new w #[.pointer (some ⟨g,0,none⟩)] 46;obtain⟨W,hW⟩:∃W,w.alloc (.cells #[.pointer (some ⟨g,0,none⟩)] 46)=W:=⟨_,rfl⟩;rw[hW]at hb1 hbx;obtain⟨P',hM',eG,Ls,hback⟩:=hM.base hb1;have hl:=xG hM (by omega);have HC:=hid (VG 8 180 #[] #[.pointer (some ⟨w.heap.size,0,none⟩)] (Zy _ _ _ func180 (by kernel_rfl) rfl) (PE n lv) _ (zik (w0:=W) (P:=P') w.heap.size hbx (Ls _ (Nat.le_refl _) hbx.lt)) W s hM' ⟨⟨hr,by simp only[zC,zk,List.length_append,List.length_singleton]at hp ⊢;omega⟩,hl⟩);have b0:W.cell? ⟨w.heap.size,0,none⟩=some (.pointer (some ⟨g,0,none⟩)):=hbx.cell 0;have hmf:∀(fn:Fn) (first cap:Array Value) (W:World),(Instr.makeFunc fn first cap).run prog W=.ok (.func fn first cap) W:=λ_ _ _ _=>rfl;have eH:=hid hback;clear hM hM' eG Ls hb1 hbx hback hr;go_enter func146,ntmps146
 go_wp2_with fail
 refine HC.out.mono ?_;rintro e w1 ⟨rfl,s1,he,hM1⟩;have zt:=hid (eH.out _ _ hM1);have HE:=hid he;clear hM1 he;go_wp2
 go_end0
 exact⟨rfl,_,HE.out,zt.out⟩
end
end Go.Proofs.YtkolpaonccmgiaaGreatDoor.Q

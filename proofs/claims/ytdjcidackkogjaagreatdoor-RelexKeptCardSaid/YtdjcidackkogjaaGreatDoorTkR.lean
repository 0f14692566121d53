/- What blank, Here and Shut of the document's own la -/
import Derived.Test.YtdjcidackkogjaaGreatDoorTkS
import Derived.Test.YtdjcidackkogjaaGreatDoorQl
namespace Go.Proofs.YtdjcidackkogjaaGreatDoor
set_option linter.unusedSectionVars false
set_option linter.unusedVariables false
open Lib(hid)
set_option maxHeartbeats 8000000
set_option maxRecDepth 100000
open Go.RowKit
theorem zbp(n:Nat):cls n=1↔n=32∨n=9:=by
 unfold cls
 repeat' split
 all_goals omega
def zly(s:ByteArray)(E:Nat)(w:World)(v:Value)(wr:World):Prop:=∃b:Nat,b≤s.size∧v=.int .i64 (b:Int)∧vZ s b=E∧wr=w
section
variable(w:World)
theorem zlz(s:ByteArray)(a:Nat)(ha:a≤s.size)(hs:s.size≤1000000):
  Calls Tryz.prog 53 #[.string s,.int .i64 (a:Int)] w λe w'=>e=.returned (.int .i64 ((vZ s a:Nat):Int))∧w'=w:=by
 obtain⟨E,hE⟩:∃E,vZ s a=E:=⟨_,rfl⟩;rw[hE];have HE:=hid hE;clear hE;go_enter Tryz.func53,Tryz.ntmps53;go_wp2
 go_loopw [1] (λv wr=>zly s E w v wr) (λv _=>s.size-(intOf v).toNat)
 case atStart=>exact⟨a,ha,rfl,HE.out,rfl⟩
 case round=>
  obtain⟨b,hbs,rfl,hbe,rfl⟩:=hrel;have jF:=hid hbe;clear hbe HE;by_cases hlt:b<s.size
  ·have q0:(0:Int)≤(b:Int):=by omega
   have q1:(b:Int)<(s.size:Int):=by omega
   obtain⟨c,hc⟩:∃c,by8 s b=c:=⟨_,rfl⟩;have hix:∀hh:b<s.size,(s[b]'hh).toNat=c:=λhh=>by rw[←hc];unfold by8;rw[yx hh]
   have hone:∀k,b1 s b=k→k≠0→vZ s (b+k)=E:=λk h h0=>by
    have:=CW hbs (by rw[h];exact h0);rw[h]at this;rw[←this];exact jF.out
   have CZ:=hid hone;have HC:=hid hc;have hcl:(c=32∨c=9)→b1 s b=1:=λh=>by
    unfold b1;rw[if_pos ⟨hlt,(zbp _).2 (by show by8 s b=32∨by8 s b=9;rw[HC.out];exact h)⟩]
   have hno:¬(c=32∨c=9)→b1 s b=if b+1<s.size∧c=92∧by8 s (b+1)=10 then 2 else 0:=λh=>by
    unfold b1;rw[if_neg (λe=>h (by have:=(zbp _).1 e.2;rw[←HC.out];exact this)),HC.out]
   have Xw:=hid hcl;have Yi:=hid hno;clear hone hc hcl hno;by_cases h32:c=32
   ·subst h32
    go_wp2
    go_roundw
    case rel=>exact⟨b+1,by omega,by go_num,CZ.out 1 (Xw.out (.inl rfl)) (by omega),rfl⟩
    case measure=>simp[intOf];omega
   by_cases h9:c=9
   ·subst h9
    clear h32;go_wp2
    go_roundw
    case rel=>exact⟨b+1,by omega,by go_num,CZ.out 1 (Xw.out (.inr rfl)) (by omega),rfl⟩
    case measure=>simp[intOf];omega
   have hn2:=Yi.out (by omega);have t32:((c:Int)==32)=false:=beq_eq_false_iff_ne.2 (by omega);have t9:((c:Int)==9)=false:=beq_eq_false_iff_ne.2 (by omega);by_cases yw:c=92
   ·subst yw
    clear h32 h9 t32 t9;obtain⟨b',hb'⟩:∃b',b+1=b':=⟨_,rfl⟩;rw[hb']at hn2;have r1:IntKind.i64.wrap ((b:Int)+1)=(b':Int):=by rw[IntWalk.i64_in _ (by omega)];omega
    by_cases hlt2:b'<s.size
    ·have u0:(0:Int)≤(b':Int):=by omega
     have u1:(b':Int)<(s.size:Int):=by omega
     obtain⟨c2,hc2⟩:∃c2,by8 s b'=c2:=⟨_,rfl⟩;have hix2:∀hh:b'<s.size,(s[b']'hh).toNat=c2:=λhh=>by rw[←hc2];unfold by8;rw[yx hh]
     rw[hc2]at hn2;have HB':=hid hb';by_cases h10:c2=10
     ·rw[if_pos ⟨hlt2,rfl,h10⟩]at hn2
      subst h10;have hnx:=CZ.out 2 hn2 (by omega);have jD:=hid hnx;clear hn2 hc2 hb' hnx;go_wp2
      go_roundw
      case rel=>exact⟨b+2,by have:=HB'.out;omega,by go_num,jD.out,rfl⟩
      case measure=>simp[intOf];have:=HB'.out;omega
     ·rw[if_neg (λe=>h10 e.2.2)]at hn2
      have t10:((c2:Int)==10)=false:=beq_eq_false_iff_ne.2 (by omega);have hst:b=E:=by rw[←WQ hn2];exact jF.out
      have HST:=hid hst;clear hn2 hc2 hb' hst h10;go_wp2;go_ret;exact⟨by rw[HST.out];rfl,rfl⟩
    ·have u1:¬(b':Int)<(s.size:Int):=by omega
     rw[if_neg (λe=>hlt2 e.1)]at hn2;have hst:b=E:=by rw[←WQ hn2];exact jF.out
     have HST:=hid hst;clear hn2 hb' hst hlt2;go_wp2;go_ret;exact⟨by rw[HST.out];rfl,rfl⟩
   ·rw[if_neg (λe=>yw e.2.1)]at hn2
    have t92:((c:Int)==92)=false:=beq_eq_false_iff_ne.2 (by omega);have hst:b=E:=by rw[←WQ hn2];exact jF.out
    have HST:=hid hst;clear hn2 hst yw h32 h9;go_wp2;go_ret;exact⟨by rw[HST.out];rfl,rfl⟩
  ·have q1:¬(b:Int)<(s.size:Int):=by omega
   have hst:b=E:=by
    have:b1 s b=0:=by unfold b1;rw[if_neg (λe=>hlt e.1),if_neg (by omega)]
    rw[←WQ this];exact jF.out
   have HST:=hid hst;clear hst hlt;go_wp2;go_ret;exact⟨by rw[HST.out];rfl,rfl⟩
theorem zbq{m2 m:Nat}(h:qo m2 m=true):m≠0:=by rintro rfl;simp[qo]at h
theorem zbr{m:Nat}(hm:m≤14)(h0:m≠0)(h12:m≠12):Zv m≠ []:=by
 obtain⟨b,l,e,_⟩:=zdV hm h0 h12;rw[e];simp
theorem zlA{st:List Fr}(hg:good st):ql st=[]↔st.length=1∨(st.length=2∧top st=12):=by
 match st,hg with
 | [],hg=>exact absurd hg (by simp[good])
 | [(m,f)],hg=>
  have:m=0:=hg;subst this;exact⟨λ_=> .inl rfl,λ_=>rfl⟩
 |(m,f)::(m2,f2)::r,hg=>
  obtain⟨ho,hg2⟩:=JQ hg;have h0:=zbq ho;have hB:=Y8 ho;unfold base at hB;rw[decide_eq_true_iff]at hB;have e:ql ((m,f)::(m2,f2)::r)=Zv m++(Zv m2++ql r):=rfl;have hl:((m,f)::(m2,f2)::r).length=r.length+2:=rfl;rw[e,hl];by_cases h12:m=12
  ·subst h12
   have e0:Zv 12=[]:=rfl;rw[e0,List.nil_append]
   match r,hg2 with
   | [],hg2=>
    have:m2=0:=hg2;subst this;exact⟨λ_=> .inr ⟨rfl,rfl⟩,λ_=>rfl⟩
   |(m3,f3)::r3,hg2=>
    obtain⟨ho2,_⟩:=JQ hg2;have hne:=zbr (Vb hg2) (zbq ho2) hB.2.2.2.1;constructor
    ·intro h
     exact absurd (List.append_eq_nil_iff.1 h).1 hne
    ·intro h
     have:((m3,f3)::r3).length=r3.length+1:=rfl;omega
  ·have hne:=zbr (Vb hg) h0 h12
   constructor
   ·intro h
    exact absurd (List.append_eq_nil_iff.1 h).1 hne
   ·rintro(h|⟨_,h⟩)
    ·omega
    ·exact absurd h h12
theorem zlB{x:Ms}(h:Inv x):(ql x.st).isEmpty=(decide (xO x.st.reverse=⟨#[84]⟩)||decide (xO x.st.reverse=⟨#[84,76]⟩)):=by
 rw[Bool.eq_iff_iff,List.isEmpty_iff,zlA h.good];simp only[Bool.or_eq_true,decide_eq_true_eq,Hq h.good,Hr h.good]
theorem zlC(t:ByteArray)(ht:t.size≤80000):
  Calls Tryz.prog 59 #[.string t] w λe w'=>e=.returned (.bool (!qE t))∧Below w.heap.size w w':=by
 have hop:(!qE t)=(ql (zL t t.size).st).isEmpty:=by unfold qE;rw[Bool.not_not]
 rw[hop,zlB (ku t t.size)];have hrun:=λW=>ze7 W t ht;generalize zL t t.size=x at hrun ⊢;obtain⟨S,hS⟩:∃S,xO x.st.reverse=S:=⟨_,rfl⟩;have zbs:=hid hrun;have HS:=hid hS;rw[hS];have hT:(S.toList==(⟨#[84]⟩:ByteArray).toList)=decide (S=⟨#[84]⟩):=jW _ _;have hTL:(S.toList==(⟨#[84,76]⟩:ByteArray).toList)=decide (S=⟨#[84,76]⟩):=jW _ _;rw[show(⟨#[84]⟩:ByteArray).toList=[84] by rw[Go.ByteArray.toList_eq]]at hT;rw[show(⟨#[84,76]⟩:ByteArray).toList=[84,76] by rw[Go.ByteArray.toList_eq]]at hTL;obtain⟨cT,GV⟩:∃cT,decide (S=⟨#[84]⟩)=cT:=⟨_,rfl⟩;obtain⟨cL,hcL⟩:∃cL,decide (S=⟨#[84,76]⟩)=cL:=⟨_,rfl⟩;rw[GV]at hT ⊢;rw[hcL]at hTL ⊢;clear hrun hS hop GV hcL
 cases cT with
 |true=>
  go_enter Tryz.func59,Tryz.ntmps59
  go_wp2_with fail
  refine(zbs.out _).mono ?_;rintro e w1 ⟨S1,g,n,cap,rfl,hR,hB1,_⟩;obtain rfl:S1=S:=hR.s.trans HS.out;have kb:=zh.new w1 #[.string S1,.slice (some ⟨g,0,none⟩) n cap,.bool x.fresh] 126;have c0:=kb.cell 0;clear hR;go_wp2;go_ret;exact⟨rfl,hB1.alloc hB1.size _⟩
 |false=>
  go_enter Tryz.func59,Tryz.ntmps59
  go_wp2_with fail
  refine(zbs.out _).mono ?_;rintro e w1 ⟨S1,g,n,cap,rfl,hR,hB1,_⟩;obtain rfl:S1=S:=hR.s.trans HS.out;have kb:=zh.new w1 #[.string S1,.slice (some ⟨g,0,none⟩) n cap,.bool x.fresh] 126;have c0:=kb.cell 0;clear hR;go_wp2;go_ret;exact⟨by simp,hB1.alloc hB1.size _⟩
def zlD(b:Bool):Int:=if b=true then 1 else 0
def zlE(s:ByteArray)(d:Dl)(E:Nat)(B:Bool)(W:World)(v8 v9:Value)(wr:World):Prop:=
 ∃f i:Nat,f≤i∧i≤s.size+1∧(i=s.size+1→s.size≤f)∧v8=.int .i64 (f:Int)∧v9=.int .i64 (i:Int)∧(∀j,f≤j→j<i→j<s.size→by8 s j≠10)∧dA s d f=(E,B)∧vI W wr
def zbt(s:ByteArray)(f i:Nat)(tb:Bool)(W:World)(v10:Value)(wr:World):Prop:=
 ∃k:Nat,f≤k∧k≤i∧v10=.int .i64 (k:Int)∧(∀j,f≤j→j<k→by8 s j=9)∧(tb=false→k=f)∧wr=W
theorem zbu{s:ByteArray}{f i k:Nat}{tb:Bool}(h1:f≤k)(h2:k≤i)(h3:∀j,f≤j→j<k→by8 s j=9)(h4:tb=false→k=f)(h5:tb=true→k<i→by8 s k≠9):f+XP s f i tb=k:=by
 unfold XP
 cases tb with
 |false=>rw[if_neg (by decide),h4 rfl,Nat.add_zero]
 |true=>
  rw[if_pos rfl,ZT (n:=k-f) _ (by omega) (λj hj=>by
   have:=h3 (f+j) (by omega) (by omega);simpa using this) (λhj=>by
   have:=h5 rfl (by omega);rw[show f+(k-f)=k by omega];simpa using this)]
  omega
theorem zlF{s:ByteArray}{d:Dl}{f i E:Nat}{B:Bool}(h1:f≤i)(h2:i≤s.size)(h0:f<s.size)(hin:∀j,f≤j→j<i→j<s.size→by8 s j≠10)(h10:i<s.size→by8 s i=10)(hd:dA s d f=(E,B)){k:Nat}(hk:f+XP s f i d.tabs=k):
  (s.extract k i=d.word→E=(if i<s.size then i+1 else i)∧B=true)∧(s.extract k i≠d.word→dA s d (i+1)=(E,B)):=by
 have hn:yO s f=i:=gV h1 h2 (λj a b=>hin j a b (by omega)) h10;have hl:=zlG h1 h2 hn h0 d;rw[hk]at hl;rw[Gg s d h0,hl]at hd;have hln:zG s f=if i<s.size then i+1 else i:=by
  unfold zG;rw[hn];split
  ·rfl
  ·omega
 constructor
 ·intro e
  rw[if_pos (decide_eq_true e),hln]at hd;injection hd with e1 e2;exact⟨e1.symm,e2.symm⟩
 ·intro e
  rw[if_neg (by rw[decide_eq_false e];decide),hln]at hd;by_cases g:i<s.size
  ·rw[if_pos g]at hd;exact hd
  ·rw[if_neg g]at hd
   rw[WS s d (by omega)]at hd ⊢;exact hd
theorem zlH(s:ByteArray)(a:Nat)(d:Dl)(ha:a≤s.size)(hs:s.size≤1000000):
  Calls Tryz.prog 52 #[.string s,.int .i64 (a:Int),.agg #[.string d.word,.bool d.tabs]] w λe w'=>e=.returned (.tuple #[.int .i64 (((dA s d a).1:Nat):Int),.int .i64 (zlD (dA s d a).2)])∧Below w.heap.size w w':=by
 obtain⟨⟨E,B⟩,hEB⟩:∃p,dA s d a=p:=⟨_,rfl⟩;rw[hEB];have HEB:=hid hEB;have uo:=hid (fun(f i:Nat)=>@zlF s d f i E B);have HEN:=hid (fun(f:Nat)=>@WS s d f);obtain⟨wd,tb⟩:=d;have HW:Hid ((⟨wd,tb⟩:Dl).word=wd∧(⟨wd,tb⟩:Dl).tabs=tb):=hid ⟨rfl,rfl⟩;obtain⟨D,hD⟩:∃D:Dl,(⟨wd,tb⟩:Dl)=D:=⟨_,rfl⟩;rw[hD]at HEB uo HEN HW;clear hEB hD;have kb:=zh.new w #[.string wd,.bool tb] 87;have hB1:Below w.heap.size w (w.alloc (.cells #[.string wd,.bool tb] 87)):=(Below.refl _ w).alloc (Nat.le_refl _) _;go_enter Tryz.func52,Tryz.ntmps52;go_wp2;obtain⟨W1,hW1⟩:∃X,w.alloc (.cells #[.string wd,.bool tb] 87)=X:=⟨_,rfl⟩;obtain⟨Bd,hBd⟩:∃z,w.heap.size=z:=⟨_,rfl⟩;have Qr:=hid hBd;rw[hW1]at kb hB1 ⊢;rw[hBd]at kb ⊢;have HB1:=hid hB1;clear hW1 hBd hB1
 go_loopw [8,9] (λv8 v9 wr=>zlE s D E B W1 v8 v9 wr) (λ_ v _=>s.size+1-(intOf v).toNat)
 case atStart=>exact⟨a,a,Nat.le_refl _,by omega,λh=>by omega,rfl,rfl,λj h1 h2=>by omega,HEB.out,vI.refl _⟩
 case round=>
  obtain⟨f,i,hfi,his,hie,rfl,rfl,hin,hd,hdr⟩:=hrel;have zY:zh wr Bd #[.string wd,.bool tb] 87:=by obtain⟨q,rfl⟩:=hdr;exact kb.drewN q
  have c0:=zY.cell 0;have c1:=zY.cell 1;have ug:=hid hin;have HD:=hid hd;have ZP:Below w.heap.size w wr:=HB1.out.trans (hdr.below);have Gh:=hid ZP;have HDR:=hid hdr;clear hin hd ZP hdr kb zY;by_cases hend:i=s.size+1
  ·have hfs:=hie hend
   have hde:=HEN.out f (by omega);have dU:=HD.out.symm.trans hde;injection dU with e1 e2;subst e1 e2;have q1:¬(i:Int)≤(s.size:Int):=by omega
   clear hde hend hie;go_wp2;go_ret2;exact⟨rfl,Gh.out⟩
  have zbv:i≤s.size:=by omega
  have q1:(i:Int)≤(s.size:Int):=by omega
  have q0:(0:Int)≤(i:Int):=by omega
  clear hie hend his;by_cases hlt:i<s.size
  ·have q2:(i:Int)<(s.size:Int):=by omega
   obtain⟨c,hc⟩:∃c,by8 s i=c:=⟨_,rfl⟩;have hix:∀hh:i<s.size,(s[i]'hh).toNat=c:=λhh=>by rw[←hc];unfold by8;rw[yx hh]
   have HC:=hid hc;clear hc;have q3:((i:Int)==(s.size:Int))=false:=beq_eq_false_iff_ne.2 (by omega);by_cases h10:c=10
   ·have zlI:Hid (by8 s i=10):=hid (HC.out.trans h10)
    subst h10;go_wp2
    go_loopw [10] (λv10 wq=>zbt s f i tb wr v10 wq) (λv _=>i-(intOf v).toNat)
    case atStart=>exact⟨f,Nat.le_refl _,hfi,rfl,λj h1 h2=>by omega,λ_=>rfl,rfl⟩
    case round=>
     obtain⟨k,hfk,hki,rfl,hk9,Kv,rfl⟩:=hrel;have u0:(0:Int)≤(k:Int):=by omega
     have u1:(k:Int)≤(i:Int):=by omega
     have YS:=hid hk9;have C9:=hid Kv;have hstep:(tb=true→k<i→by8 s k≠9)→(s.extract k i=wd→E=i+1∧B=true)∧(s.extract k i≠wd→dA s D (i+1)=(E,B)):=λh5=>by
      have:=uo.out f i hfi zbv (by omega) ug.out (λ_=>zlI.out) HD.out (k:=k) (by rw[HW.out.2];exact zbu hfk hki YS.out C9.out h5);rw[HW.out.1,if_pos hlt]at this;exact this
     have kY:=hid hstep;obtain⟨X,hX⟩:∃X,s.extract k i=X:=⟨_,rfl⟩;rw[hX]at kY;have Dk:=jW X wd;obtain⟨ce,hce⟩:∃ce,decide (X=wd)=ce:=⟨_,rfl⟩;rw[hce]at Dk;have Yu:=hid hce;clear hk9 Kv hstep hce
     cases tb with
     |false=>
      have HST:=hid (kY.out (λh=>by cases h))
      cases ce with
      |true=>
       obtain⟨e1,e2⟩:=HST.out.1 (of_decide_eq_true Yu.out);have uZ:=hid e1;subst e2;clear e1;go_wp2
       go_quiet (fail)
       go_wp2;go_ret2;rw[uZ.out];exact⟨rfl,below_drewN Gh.out _⟩
      |false=>
       have hnx:=HST.out.2 (of_decide_eq_false Yu.out);have jD:=hid hnx;clear hnx;go_wp2
       go_quiet (fail)
       go_wp2
       go_roundw
       case rel=>exact⟨i+1,i+1,Nat.le_refl _,by omega,λh=>by omega,by go_num,by go_num,λj h1 h2=>by omega,jD.out,HDR.out.drewN _⟩
       case measure=>simp[intOf];omega
     |true=>
      by_cases Dn:k<i
      ·have u2:(k:Int)<(i:Int):=by omega
       have hks:k<s.size:=by omega
       have u3:(k:Int)<(s.size:Int):=by omega
       obtain⟨cc,hcc⟩:∃cc,by8 s k=cc:=⟨_,rfl⟩;have zlJ:∀hh:k<s.size,(s[k]'hh).toNat=cc:=λhh=>by rw[←hcc];unfold by8;rw[yx hh]
       have Dp:=hid hcc;clear hcc;by_cases h9:cc=9
       ·have wX:Hid (by8 s k=9):=hid (Dp.out.trans h9)
        subst h9;clear Dk;go_wp2
        go_roundw
        case rel=>
         refine⟨k+1,by omega,by omega,by go_num,λj h1 h2=>?_,(λh=>by cases h),by first|rfl|trivial⟩;by_cases e:j=k
         ·rw[e];exact wX.out
         ·exact YS.out j h1 (by omega)
        case measure=>simp[intOf];omega
       ·have t9:((cc:Int)==9)=false:=beq_eq_false_iff_ne.2 (by omega)
        have HST:=hid (kY.out (λ_ _=>by rw[Dp.out];exact h9));clear h9
        cases ce with
        |true=>
         obtain⟨e1,e2⟩:=HST.out.1 (of_decide_eq_true Yu.out);have uZ:=hid e1;subst e2;clear e1;go_wp2
         go_quiet (fail)
         go_wp2;go_ret2;rw[uZ.out];exact⟨rfl,below_drewN Gh.out _⟩
        |false=>
         have hnx:=HST.out.2 (of_decide_eq_false Yu.out);have jD:=hid hnx;clear hnx;go_wp2
         go_quiet (fail)
         go_wp2
         go_roundw
         case rel=>exact⟨i+1,i+1,Nat.le_refl _,by omega,λh=>by omega,by go_num,by go_num,λj h1 h2=>by omega,jD.out,HDR.out.drewN _⟩
         case measure=>simp[intOf];omega
      ·have u2:¬(k:Int)<(i:Int):=by omega
       have HST:=hid (kY.out (λ_ h=>absurd h Dn));clear Dn
       cases ce with
       |true=>
        obtain⟨e1,e2⟩:=HST.out.1 (of_decide_eq_true Yu.out);have uZ:=hid e1;subst e2;clear e1;go_wp2
        go_quiet (fail)
        go_wp2;go_ret2;rw[uZ.out];exact⟨rfl,below_drewN Gh.out _⟩
       |false=>
        have hnx:=HST.out.2 (of_decide_eq_false Yu.out);have jD:=hid hnx;clear hnx;go_wp2
        go_quiet (fail)
        go_wp2
        go_roundw
        case rel=>exact⟨i+1,i+1,Nat.le_refl _,by omega,λh=>by omega,by go_num,by go_num,λj h1 h2=>by omega,jD.out,HDR.out.drewN _⟩
        case measure=>simp[intOf];omega
   ·have t10:((c:Int)!=10)=true:=by rw[bne,beq_eq_false_iff_ne.2 (by omega)];rfl
    have zlK:((c:Int)==10)=false:=beq_eq_false_iff_ne.2 (by omega);clear c0 c1;go_wp2
    go_roundw
    case rel=>
     refine⟨f,i+1,by omega,by omega,λh=>by omega,rfl,by go_num,λj h1 h2 h3=>?_,HD.out,HDR.out⟩;by_cases e:j=i
     ·rw[e,HC.out];exact h10
     ·exact ug.out j h1 (by omega) h3
    case measure=>simp[intOf];omega
  ·have q2:¬(i:Int)<(s.size:Int):=by omega
   have q3:((i:Int)==(s.size:Int))=true:=beq_iff_eq.2 (by omega);by_cases hfe:f=i
   ·have q4:((f:Int)==(i:Int))=true:=beq_iff_eq.2 (by omega)
    have hfs:s.size≤f:=by omega
    clear c0 c1;go_wp2
    go_roundw
    case rel=>
     exact⟨f,i+1,by omega,by omega,λh=>hfs,rfl,by go_num,λj h1 h2 h3=>by omega,HD.out,HDR.out⟩
    case measure=>simp[intOf];omega
   ·have q4:((f:Int)==(i:Int))=false:=beq_eq_false_iff_ne.2 (by omega)
    go_wp2
    go_loopw [10] (λv10 wq=>zbt s f i tb wr v10 wq) (λv _=>i-(intOf v).toNat)
    case atStart=>exact⟨f,Nat.le_refl _,hfi,rfl,λj h1 h2=>by omega,λ_=>rfl,rfl⟩
    case round=>
     obtain⟨k,hfk,hki,rfl,hk9,Kv,rfl⟩:=hrel;have u0:(0:Int)≤(k:Int):=by omega
     have u1:(k:Int)≤(i:Int):=by omega
     have YS:=hid hk9;have C9:=hid Kv;have hstep:(tb=true→k<i→by8 s k≠9)→(s.extract k i=wd→E=i∧B=true)∧(s.extract k i≠wd→dA s D (i+1)=(E,B)):=λh5=>by
      have:=uo.out f i hfi zbv (by omega) ug.out (λh=>absurd h hlt) HD.out (k:=k) (by rw[HW.out.2];exact zbu hfk hki YS.out C9.out h5);rw[HW.out.1,if_neg hlt]at this;exact this
     have kY:=hid hstep;obtain⟨X,hX⟩:∃X,s.extract k i=X:=⟨_,rfl⟩;rw[hX]at kY;have Dk:=jW X wd;obtain⟨ce,hce⟩:∃ce,decide (X=wd)=ce:=⟨_,rfl⟩;rw[hce]at Dk;have Yu:=hid hce;clear hk9 Kv hstep hce
     cases tb with
     |false=>
      have HST:=hid (kY.out (λh=>by cases h))
      cases ce with
      |true=>
       obtain⟨e1,e2⟩:=HST.out.1 (of_decide_eq_true Yu.out);have uZ:=hid e1;subst e2;clear e1;go_wp2
       go_quiet (fail)
       go_wp2;go_ret2;rw[uZ.out];exact⟨rfl,below_drewN Gh.out _⟩
      |false=>
       have hnx:=HST.out.2 (of_decide_eq_false Yu.out);have jD:=hid hnx;clear hnx;go_wp2
       go_quiet (fail)
       go_wp2
       go_roundw
       case rel=>exact⟨i+1,i+1,Nat.le_refl _,by omega,λh=>by omega,by go_num,by go_num,λj h1 h2=>by omega,jD.out,HDR.out.drewN _⟩
       case measure=>simp[intOf];omega
     |true=>
      by_cases Dn:k<i
      ·have u2:(k:Int)<(i:Int):=by omega
       have hks:k<s.size:=by omega
       have u3:(k:Int)<(s.size:Int):=by omega
       obtain⟨cc,hcc⟩:∃cc,by8 s k=cc:=⟨_,rfl⟩;have zlJ:∀hh:k<s.size,(s[k]'hh).toNat=cc:=λhh=>by rw[←hcc];unfold by8;rw[yx hh]
       have Dp:=hid hcc;clear hcc;by_cases h9:cc=9
       ·have wX:Hid (by8 s k=9):=hid (Dp.out.trans h9)
        subst h9;clear Dk;go_wp2
        go_roundw
        case rel=>
         refine⟨k+1,by omega,by omega,by go_num,λj h1 h2=>?_,(λh=>by cases h),by first|rfl|trivial⟩;by_cases e:j=k
         ·rw[e];exact wX.out
         ·exact YS.out j h1 (by omega)
        case measure=>simp[intOf];omega
       ·have t9:((cc:Int)==9)=false:=beq_eq_false_iff_ne.2 (by omega)
        have HST:=hid (kY.out (λ_ _=>by rw[Dp.out];exact h9));clear h9
        cases ce with
        |true=>
         obtain⟨e1,e2⟩:=HST.out.1 (of_decide_eq_true Yu.out);have uZ:=hid e1;subst e2;clear e1;go_wp2
         go_quiet (fail)
         go_wp2;go_ret2;rw[uZ.out];exact⟨rfl,below_drewN Gh.out _⟩
        |false=>
         have hnx:=HST.out.2 (of_decide_eq_false Yu.out);have jD:=hid hnx;clear hnx;go_wp2
         go_quiet (fail)
         go_wp2
         go_roundw
         case rel=>exact⟨i+1,i+1,Nat.le_refl _,by omega,λh=>by omega,by go_num,by go_num,λj h1 h2=>by omega,jD.out,HDR.out.drewN _⟩
         case measure=>simp[intOf];omega
      ·have u2:¬(k:Int)<(i:Int):=by omega
       have HST:=hid (kY.out (λ_ h=>absurd h Dn));clear Dn
       cases ce with
       |true=>
        obtain⟨e1,e2⟩:=HST.out.1 (of_decide_eq_true Yu.out);have uZ:=hid e1;subst e2;clear e1;go_wp2
        go_quiet (fail)
        go_wp2;go_ret2;rw[uZ.out];exact⟨rfl,below_drewN Gh.out _⟩
       |false=>
        have hnx:=HST.out.2 (of_decide_eq_false Yu.out);have jD:=hid hnx;clear hnx;go_wp2
        go_quiet (fail)
        go_wp2
        go_roundw
        case rel=>exact⟨i+1,i+1,Nat.le_refl _,by omega,λh=>by omega,by go_num,by go_num,λj h1 h2=>by omega,jD.out,HDR.out.drewN _⟩
        case measure=>simp[intOf];omega
end
end Go.Proofs.YtdjcidackkogjaaGreatDoor

/- What the document's own Double of layer 8 (literal -/
import Derived.Test.YtkolpaonccmgiaaGreatDoorLtR
namespace Go.Proofs.YtkolpaonccmgiaaGreatDoor
set_option linter.unusedSectionVars false
set_option linter.unusedVariables false
open Go.Proofs.Tryz
open _root_.Nat renaming le_refl->waa
open _root_.Go.World renaming size_alloc->waf
open _root_.Go.RowKit.Below renaming refl->wag
open _root_.List renaming length_append->wam
open _root_.ByteArray renaming empty->war,size_append->wat
open Lib(hid)
set_option maxHeartbeats 16000000
set_option maxRecDepth 100000
open Go.RowKit
theorem SQ{x:ByteArray}(h:x.size=0):x.toList=[]:=by
 rw[Go.ByteArray.toList_eq];have:x=war:=ByteArray.ext (Array.eq_empty_of_size_eq_zero h);subst this;rfl
theorem SS{x:ByteArray}(h:x.size≠0):¬x.toList=[]:=by
 intro e;have h1:=Go.ByteArray.toList_eq x;rw[e]at h1;have h2:x.data.toList.length=0:=by rw[←h1];rfl
 rw[Array.length_toList]at h2;exact h h2
theorem bI{x:ByteArray}(h:x.size=0):x.toList.isEmpty=true:=by rw[SQ h];rfl
theorem bJ{x:ByteArray}(h:x.size≠0):x.toList.isEmpty=false:=by
 cases g:x.toList.isEmpty with
 |false=>rfl
 |true=>exact absurd (List.isEmpty_iff.1 g) (SS h)
theorem gy(W:World)(o:Obj)(cs:Array Value)(ty:TypeId):zf ((W.alloc o).alloc (.cells cs ty)) (W.heap.size+1) cs ty:=by
 have:=zf.new (W.alloc o) cs ty
 rwa [waf]at this
structure Vf(s:ByteArray)(f a:Nat)(A:List Pc)(h:ByteArray):Prop where
 dq:gz s f a
 le:a<=s.size
 eq:DB s (f+1) (yY (prt s f))=A++Rm s true (Js s) (yY (prt s f)) a h A.isEmpty
 hz:h.size<=a
 az:A.length<=2*a
section
variable{s:ByteArray}{f:Nat}(hf:f<s.size)(hb:born s f=true)(hm:(prt s f).mode=5)
include hf hb hm
theorem Vf.start:Vf s f (f+1) [] war:=by
 obtain⟨h1,h2,h3,_⟩:=QP hf hb hm;exact⟨h3,by omega,rfl,Nat.zero_le _,Nat.zero_le _⟩
theorem Vf.lt{a:Nat}{A:List Pc}{h:ByteArray}(I:Vf s f a A h)(ha:a<yY (prt s f)):a<s.size:=by
 have:=(QP hf hb hm).1;omega
variable{a:Nat}{A:List Pc}{h:ByteArray}(I:Vf s f a A h)(ha:a<yY (prt s f))
include I ha
theorem Vf.plain(hB:born s a=false):Vf s f (a+1) A (h++s.extract a (a+1)):=by
 have hl:=I.lt hf hb hm ha;refine⟨(MQ hf hb hm).1 a I.dq ha hB,by omega,?_,?_,by have:=I.az;omega⟩
 ·rw[I.eq,OI (QP hf hb hm).1 ha hB]
 ·rw[wat,uX (by omega)]
  have:=I.hz;omega
theorem Vf.self(hB:born s a=true){t:ByteArray}(ht:yG s (prt s a) true=some t):Vf s f (prt s a).to A (h++t):=by
 have hl:=I.lt hf hb hm ha;have hg:=qP hB hl;refine⟨((MQ hf hb hm).2 a I.dq ha hB).1,(Xt hl hB).1,?_,?_,by have:=I.az;omega⟩
 ·rw[I.eq,OL (QP hf hb hm).1 ha hB ht]
 ·rw[wat]
  have:=bK ht;rw[Yc]at this;have:=I.hz;omega
theorem Vf.sub(hB:born s a=true)(ht:yG s (prt s a) true=none):Vf s f (prt s a).to (A++fl true h false++ [⟨true,true,s.extract a (prt s a).to⟩]) war:=by
 have hl:=I.lt hf hb hm ha;have hg:=qP hB hl;refine⟨((MQ hf hb hm).2 a I.dq ha hB).1,(Xt hl hB).1,?_,Nat.zero_le _,?_⟩
 ·rw[I.eq,OM (QP hf hb hm).1 ha hB ht]
  have:(A++fl true h false++ [(⟨true,true,s.extract a (prt s a).to⟩:Pc)]).isEmpty=false:=by
   rw[List.isEmpty_eq_false_iff];simp
  rw[this,List.append_assoc,List.append_assoc];rfl
 ·have:=I.az
  rw[wam,wam];have:(fl true h false).length<=1:=by unfold fl;split<;>simp
  simp only[List.length_cons,List.length_nil];omega
theorem Vf.modes(hB:born s a=true):(prt s a).mode≠4/\(prt s a).mode≠5/\(prt s a).mode≠14:=(Ag (I.dq.2 ha) (I.lt hf hb hm ha) ((QP hf hb hm).2.2.2 a I.dq ha) hB).2
end
def zeH(s:ByteArray)(f:Nat)(w:World)(v9 v10 v11:Value)(wr:World):Prop:=∃(a:Nat) (A:List Pc) (h:ByteArray),v11=.int .i64 (a:Int)/\v10=.string h/\Vf s f a A h/\uO wr w.heap.size v9 A/\Below w.heap.size w wr
section
variable(w:World)
theorem zeI(s:ByteArray)(hs:s.size<=60000)(f:Nat)(hf:f<s.size)(hb:born s f=true)(hm:(prt s f).mode=5)(oa:Option Addr)(n oc:Nat)(hR:Jy w oa n (PL s))(hn:n<=60000)(f1 e1:Nat)(hf1:f1=f+1)(he1:e1=yY (prt s f)):
  Calls prog 143 #[.string s,.slice oa n oc,.int .i64 (f1:Int),.int .i64 (e1:Int)] w λe w'=>∃v,e=.returned v/\uO w' w.heap.size v (DB s (f+1) (yY (prt s f)))/\Below w.heap.size w w':=by
 have hins:=(QP hf hb hm).1;have hst:=Vf.start hf hb hm;have HR:=hid hR;have qR:=hid hf1;have yU:=hid he1;have zoi:e1<=60000:=by omega
 have AX:f1<=60000:=by omega
 clear hR hf1 he1 hins;go_enter func143,ntmps143;go_wp2
 go_loopw [9,10,11] (λv9 v10 v11 wr=>zeH s f w v9 v10 v11 wr) (λ_ _ v _=>e1-(intOf v).toNat)
 case atStart=>exact⟨f1,[],_,rfl,rfl,by rw[qR.out];exact hst,World.ownsRow_nil _ _ _ _,wag _ _⟩
 case round=>
  obtain⟨a,A,h,rfl,rfl,hI,hP,hB⟩:=hrel;have y9:=HR.out.below hB;have hsz:=hB.size;have hhz:=hI.hz;have haz:=hI.az;have kW:=hI.le;obtain⟨xa,xc,rfl⟩:=Xw hP;obtain⟨z,hz⟩:∃z,A.length=z:=⟨_,rfl⟩;rw[hz]at hP ⊢;have MR:wr.ownsRow w.heap.size 119 3 (.slice xa z xc) z (yE A):=by have:=hP;unfold uO at this;rw[hz]at this;exact this
  have Jb:=hid MR;clear MR;have HP:=hid hP;by_cases hlt:(a:Int)<(e1:Int)
  ·have hlt':a<yY (prt s f):=by have:=yU.out;omega
   have hl:=hI.lt hf hb hm hlt';have hfi:=AP wr s oa n oc a y9 hn (by omega);have jd:=hid hfi;have q0:(0:Int)<=(a:Int):=by omega
   have q1:(a:Int)+1<=(s.size:Int):=by omega
   have q2:IntKind.i64.wrap ((a:Int)+1)=(a:Int)+1:=IntWalk.i64_in _ (by omega);have q3:(a:Int)<=(a:Int)+1:=by omega
   have q4:IntKind.i64.wrap ((a:Int)+2)=(a:Int)+2:=IntWalk.i64_in _ (by omega);clear hfi
   cases hBn:born s a with
   |false=>
    have hnx:=hI.plain hf hb hm hlt' hBn;have uz:=uX (s:=s) (a:=a) (b:=a+1) (by omega);obtain⟨T,hT⟩:∃T,s.extract a (a+1)=T:=⟨_,rfl⟩;rw[hT]at hnx uz;have hnz:=wat (a:=h) (b:=T);obtain⟨X,hX⟩:∃X,h++T=X:=⟨_,rfl⟩;rw[hX]at hnx hnz;have HN:=hid hnx;have HB:=hid hBn;have Yv:X.size<=120000:=by omega
    have hsum:h.size+T.size<=120000:=by omega
    have yg:=hid hB;have HZ:=hid hz;clear hI hnx hnz hP hBn uz hst hB hz
    go_wp2_with fail
    refine(jd.out).mono ?_;rintro e w3 ⟨hr,hB3⟩;rcases hr with⟨_,hb2,_⟩|⟨_,rfl⟩
    ·rw[HB.out]at hb2;cases hb2
    have HB3:=hid hB3;clear hB3 y9;go_wp2
    go_roundw
    case rel=>exact⟨a+1,A,X,by go_num,rfl,HN.out,(HP.out.below HB3.out).below ((wag w3.heap.size w3).alloc (waa _) _),(yg.out.trans (HB3.out.mono hsz)).alloc (by have:=HB3.out.size;omega) _⟩
    case measure=>simp[intOf];omega
   |true=>
    have hto:=qP hBn hl;have hle:=(Xt hl hBn).1;have hmo:=hI.modes hf hb hm hlt' hBn;have hself:=λt=>hI.self hf hb hm hlt' hBn (t:=t);have hsub:=hI.sub hf hb hm hlt' hBn;have hfr:=Yc s a;have h13:(prt s a).mode=13->(prt s a).to=if a+1=s.size then s.size else a+2:=λe=>OJ hBn hl e
    obtain⟨p,hp⟩:∃p,prt s a=p:=⟨_,rfl⟩;rw[hp]at hto hle hmo hself hsub hfr h13;obtain⟨pm,pf,pt,pu,po⟩:=p;simp only at hto hle hmo hself hsub hfr h13;subst hfr;have HB:=hid hBn;have qw:=hid hp;have VE:=hid hself;have V8:=hid hsub;have yg:=hid hB;have HZ:=hid hz;clear hI hself hsub hBn hp hP hst hB hz;have c0:((1:Int)==0)=false:=rfl;by_cases c12:pm=12
    ·subst c12
     by_cases ct:pt=pf+1
     ·subst ct
      have hnx:=VE.out (s.extract pf (pf+1)) (by unfold yG;dsimp only;rw[if_neg (by decide),if_pos rfl,if_pos rfl]);have uz:=uX (s:=s) (a:=pf) (b:=pf+1) (by omega);obtain⟨T,hT⟩:∃T,s.extract pf (pf+1)=T:=⟨_,rfl⟩;rw[hT]at hnx uz;have hnz:=wat (a:=h) (b:=T);obtain⟨X,hX⟩:∃X,h++T=X:=⟨_,rfl⟩;rw[hX]at hnx hnz;have HN:=hid hnx;have Yv:X.size<=120000:=by omega
      have hsum:h.size+T.size<=120000:=by omega
      clear hnx hnz uz h13 hmo
      go_wp2_with fail
      refine(jd.out).mono ?_;rintro e w3 ⟨hr,hB3⟩;rcases hr with⟨_,_,he⟩|⟨hn2,_⟩
      ·rw[qw.out]at he
       unfold jS at he;simp only at he;subst he;have HB3:=hid hB3;clear hB3 y9;go_wp2
       go_roundw
       case rel=>exact⟨pf+1,A,X,by go_num,rfl,HN.out,(HP.out.below HB3.out).below ((wag w3.heap.size w3).alloc (waa _) _),(yg.out.trans (HB3.out.mono hsz)).alloc (by have:=HB3.out.size;omega) _⟩
       case measure=>simp[intOf];omega
      ·exact absurd ⟨hl,HB.out⟩ hn2
     ·have t1:((pt:Int)==(pf:Int)+1)=false:=beq_eq_false_iff_ne.2 (by omega)
      have hnx:=V8.out (by unfold yG;dsimp only;rw[if_neg (by decide),if_pos rfl,if_neg ct]);obtain⟨T,hT⟩:∃T,s.extract pf pt=T:=⟨_,rfl⟩;rw[hT]at hnx;by_cases hh0:h.size=0
      ·have hfl:fl true h false=[]:=by unfold fl;rw[if_pos ⟨hh0,rfl⟩]
       rw[hfl,List.append_nil]at hnx;have HN:=hid hnx;have d1:=SQ hh0;have d2:=bI hh0;have hza:z<=200000:=by have:=HZ.out;omega
       clear hnx h13 hmo hfl hh0 ct
       go_wp2_with fail
       refine(jd.out).mono ?_;rintro e w3 ⟨hr,hB3⟩;rcases hr with⟨_,_,he⟩|⟨hn2,_⟩
       ·rw[qw.out]at he
        unfold jS at he;simp only at he;subst he;have HB3:=hid hB3;have hB4:=(hB3.trans ((wag w3.heap.size w3).alloc (waa _) (.cells #[.int .i64 12,.int .i64 (pf:Int),.int .i64 (pt:Int),.int .i64 pu,.bool po] 136)|>.mono hB3.size));have xE:=(HP.out.below hB4);have xN:=yg.out.trans (hB4.mono hsz);unfold uO at xE;rw[HZ.out]at xE;have uj:=hid xE;have hs4:=xN.size;simp at hs4;have kp:=zf.new w3 #[.int .i64 12,.int .i64 (pf:Int),.int .i64 (pt:Int),.int .i64 pu,.bool po] 136;have hs3:=hB3.size;have hne:∀k,(Value.slice xa z xc).ownBlock=some k->k<wr.heap.size:=λk hk=>kK Jb.out k hk;clear hB3 y9 xE
        go_wp2_with (at_builtin;refine Zq rfl _ _ 116 119 3 24 _ rfl underlying116 qQ rfl (by omega) (by omega) w.heap.size (.slice xa z xc) z (yE A) rfl (Y7 uj.out _) _ 1 (uY ⟨true,true,T⟩) rfl (QN (x:=⟨true,true,T⟩) (gy _ _ _ _)) rfl (YB _) (by omega) (by simp only[waf];omega) (z+1) rfl ?_;intro xU c2 w5 hown5 hgr5 hg5;have k5:=(kp.alloc (.cells #[.bool true,.bool true,.string T] 119)).grown hgr5 (λe=>by have:=hne _ e.symm;omega);have bM:=k5.cell 2)
        go_roundw
        case rel=>
         refine⟨pt,_,war,by go_num,rfl,HN.out,?_,?_⟩
         ·show w5.ownsRow _ _ _ _ _ _
          rw[wam,HZ.out,YA];simpa[yE]using hown5
         ·exact(xN.alloc xN.size _).grown hgr5 (by simp;omega) (λk hk=>xx uj.out k hk)
        case measure=>simp[intOf];omega
       ·exact absurd ⟨hl,HB.out⟩ hn2
      ·have hfl:fl true h false=[⟨false,true,h⟩]:=by unfold fl;rw[if_neg (λg=>hh0 g.1)]
       rw[hfl]at hnx;have HN:=hid hnx;have d1:=SS hh0;have d2:=bJ hh0;have hza:z<=200000:=by have:=HZ.out;omega
       clear hnx h13 hmo hfl hh0 ct
       go_wp2_with fail
       refine(jd.out).mono ?_;rintro e w3 ⟨hr,hB3⟩;rcases hr with⟨_,_,he⟩|⟨hn2,_⟩
       ·rw[qw.out]at he
        unfold jS at he;simp only at he;subst he;have HB3:=hid hB3;have hB4:=(hB3.trans ((wag w3.heap.size w3).alloc (waa _) (.cells #[.int .i64 12,.int .i64 (pf:Int),.int .i64 (pt:Int),.int .i64 pu,.bool po] 136)|>.mono hB3.size));have kp:=zf.new w3 #[.int .i64 12,.int .i64 (pf:Int),.int .i64 (pt:Int),.int .i64 pu,.bool po] 136;have xE:=(HP.out.below hB4);have xN:=yg.out.trans (hB4.mono hsz);unfold uO at xE;rw[HZ.out]at xE;have uj:=hid xE;have hs4:=xN.size;have hs3:=hB3.size;simp at hs4;have hne:∀k,(Value.slice xa z xc).ownBlock=some k->k<wr.heap.size:=λk hk=>kK Jb.out k hk;clear hB3 y9 xE
        go_wp2_with (at_builtin;first
         |(refine Zq rfl _ _ 116 119 3 24 _ rfl underlying116 qQ rfl (by omega) (by omega) w.heap.size (.slice xa z xc) z (yE A) rfl (Y7 uj.out _) _ 1 (uY ⟨false,true,h⟩) rfl (QN (x:=⟨false,true,h⟩) (gy _ _ _ _)) rfl (YB _) (by omega) (by simp only[waf];omega) (z+1) rfl ?_;intro xU c2 w5 hown5 hgr5 hg5;have vP:=(xN.alloc xN.size (.cells #[.bool false,.bool true,.string h] 119)).grown hgr5 (by simp;omega) (λk hk=>xx uj.out k hk);have k5:=(kp.alloc (.cells #[.bool false,.bool true,.string h] 119)).grown hgr5 (λe=>by have:=hne _ e.symm;omega);have k50:=k5.cell 0;have k51:=k5.cell 1;have bM:=k5.cell 2;have hs5:=vP.size)
         |(refine Zq rfl _ _ 116 119 3 24 _ rfl underlying116 qQ rfl (by omega) (by omega) w.heap.size (.slice xU (z+1) c2) (z+1) (yE A++uY ⟨false,true,h⟩) rfl (Y7 hown5 _) _ 1 (uY ⟨true,true,T⟩) rfl (lK _ ⟨true,true,T⟩) rfl (YB _) (by omega) (by simp only[waf];omega) (z+1+1) rfl ?_;intro oa6 c6 w6 hown6 ZL wo;have k6:=(k5.alloc (.cells #[.bool true,.bool true,.string T] 119)).grown ZL (λe=>by rcases hg5 with g|g;(have:=hne _ (g.symm.trans e.symm);omega);(rw[←e]at g;simp only[waf,Option.some.injEq]at g;omega));have k62:=k6.cell 2))
        go_roundw
        case rel=>
         refine⟨pt,_,war,by go_num,rfl,HN.out,?_,?_⟩
         ·show w6.ownsRow _ _ _ _ _ _
          rw[wam,wam,HZ.out,YA,YA];simpa[yE]using hown6
         ·exact(vP.alloc vP.size _).grown ZL (by simp;omega) (λk hk=>xx hown5 k hk)
        case measure=>simp[intOf];omega
       ·exact absurd ⟨hl,HB.out⟩ hn2
    have zeJ:((pm:Int)==12)=false:=beq_eq_false_iff_ne.2 (by omega);by_cases c13:pm=13
    ·subst c13
     by_cases hend:pf+1=s.size
     ·have hpt:pt=s.size:=by rw[h13 rfl,if_pos hend]
      have t2:((pt:Int)==(pf:Int)+2)=false:=beq_eq_false_iff_ne.2 (by omega);have MS:pt=pf+1:=by omega
      have hpe:yG s ⟨13,pf,pt,pu,po⟩ true=some war:=by unfold yG;dsimp only;rw[if_neg (by decide),if_neg (by decide),if_pos rfl,if_pos (.inl MS)]
      have jT:=hid hpe;clear hpt MS hpe hend;have hnx:=VE.out war (by exact jT.out);rw[ByteArray.append_empty]at hnx;have HN:=hid hnx;clear hnx h13 hmo
      go_wp2_with fail
      refine(jd.out).mono ?_;rintro e w3 ⟨hr,hB3⟩;rcases hr with⟨_,_,he⟩|⟨hn2,_⟩
      ·rw[qw.out]at he
       unfold jS at he;simp only at he;subst he;have HB3:=hid hB3;clear hB3 y9;go_wp2
       go_roundw
       case rel=>exact⟨pt,A,h,by go_num,rfl,HN.out,(HP.out.below HB3.out).below ((wag w3.heap.size w3).alloc (waa _) _),(yg.out.trans (HB3.out.mono hsz)).alloc (by have:=HB3.out.size;omega) _⟩
       case measure=>simp[intOf];omega
      ·exact absurd ⟨hl,HB.out⟩ hn2
     ·have hpt:pt=pf+2:=by rw[h13 rfl,if_neg hend]
      subst hpt;have t2:((pf+2:Nat):Int)=(pf:Int)+2:=by omega
      obtain⟨b,hby⟩:∃b,by8 s (pf+1)=b:=⟨_,rfl⟩;have hbl:b<256:=hby▸WZ s _;have hix:∀hh:pf+1<s.size,(s[pf+1]'hh).toNat=b:=λhh=>by rw[←hby];unfold by8;rw[zT hh]
      have hne1:¬(pf+2=pf+1):=by omega
      have q5:(pf:Int)+1<(s.size:Int):=by omega
      have q6:(pf:Int)+2<=(s.size:Int):=by omega
      have q7:(pf:Int)+1<=(pf:Int)+2:=by omega
      have q8:(pf:Int)<=(pf:Int)+2:=by omega
      have q9:(0:Int)<=(pf:Int)+1:=by omega
      by_cases b10:b=10
      ·have hpe:yG s ⟨13,pf,pf+2,pu,po⟩ true=some war:=by unfold yG;dsimp only;rw[if_neg (by decide),if_neg (by decide),if_pos rfl,if_pos (.inr (hby.trans b10))]
       have jT:=hid hpe;subst b10;clear hpe hby hne1 hend;have hnx:=VE.out war (by exact jT.out);rw[ByteArray.append_empty]at hnx;have HN:=hid hnx;clear hnx h13 hmo
       go_wp2_with fail
       refine(jd.out).mono ?_;rintro e w3 ⟨hr,hB3⟩;rcases hr with⟨_,_,he⟩|⟨hn2,_⟩
       ·rw[qw.out]at he
        unfold jS at he;simp only at he;subst he;have HB3:=hid hB3;clear hB3 y9;go_wp2
        go_roundw
        case rel=>exact⟨pf+2,A,h,by go_num,rfl,HN.out,(HP.out.below HB3.out).below ((wag w3.heap.size w3).alloc (waa _) _),(yg.out.trans (HB3.out.mono hsz)).alloc (by have:=HB3.out.size;omega) _⟩
        case measure=>simp[intOf];omega
       ·exact absurd ⟨hl,HB.out⟩ hn2
      ·have hor:¬(pf+2=pf+1\/by8 s (pf+1)=10):=by omega
       by_cases bq:b=36\/b=96\/b=34\/b=92
       ·have hpe:yG s ⟨13,pf,pf+2,pu,po⟩ true=some (s.extract (pf+1) (pf+2)):=by
         unfold yG;dsimp only;rw[if_neg (by decide),if_neg (by decide),if_pos rfl,if_neg hor,if_neg (by decide)];simp only[hby];rw[if_pos bq]
        have jT:=hid hpe;clear hpe hby hor b10 hne1 hend;rcases bq with rfl|rfl|rfl|rfl
        ·skip
         have hnx:=VE.out (s.extract (pf+1) (pf+2)) (by exact jT.out);have uz:=uX (s:=s) (a:=pf+1) (b:=pf+2) (by omega);obtain⟨T,hT⟩:∃T,s.extract (pf+1) (pf+2)=T:=⟨_,rfl⟩;rw[hT]at hnx uz;have hnz:=wat (a:=h) (b:=T);obtain⟨X,hX⟩:∃X,h++T=X:=⟨_,rfl⟩;rw[hX]at hnx hnz;have HN:=hid hnx;have Yv:X.size<=120000:=by omega
         have hsum:h.size+T.size<=120000:=by omega
         clear hnx hnz uz h13 hmo
         go_wp2_with fail
         refine(jd.out).mono ?_;rintro e w3 ⟨hr,hB3⟩;rcases hr with⟨_,_,he⟩|⟨hn2,_⟩
         ·rw[qw.out]at he
          unfold jS at he;simp only at he;subst he;have HB3:=hid hB3;clear hB3 y9;go_wp2
          go_roundw
          case rel=>exact⟨pf+2,A,X,by go_num,rfl,HN.out,(HP.out.below HB3.out).below ((wag w3.heap.size w3).alloc (waa _) _),(yg.out.trans (HB3.out.mono hsz)).alloc (by have:=HB3.out.size;omega) _⟩
          case measure=>simp[intOf];omega
         ·exact absurd ⟨hl,HB.out⟩ hn2
        ·skip
         have hnx:=VE.out (s.extract (pf+1) (pf+2)) (by exact jT.out);have uz:=uX (s:=s) (a:=pf+1) (b:=pf+2) (by omega);obtain⟨T,hT⟩:∃T,s.extract (pf+1) (pf+2)=T:=⟨_,rfl⟩;rw[hT]at hnx uz;have hnz:=wat (a:=h) (b:=T);obtain⟨X,hX⟩:∃X,h++T=X:=⟨_,rfl⟩;rw[hX]at hnx hnz;have HN:=hid hnx;have Yv:X.size<=120000:=by omega
         have hsum:h.size+T.size<=120000:=by omega
         clear hnx hnz uz h13 hmo
         go_wp2_with fail
         refine(jd.out).mono ?_;rintro e w3 ⟨hr,hB3⟩;rcases hr with⟨_,_,he⟩|⟨hn2,_⟩
         ·rw[qw.out]at he
          unfold jS at he;simp only at he;subst he;have HB3:=hid hB3;clear hB3 y9;go_wp2
          go_roundw
          case rel=>exact⟨pf+2,A,X,by go_num,rfl,HN.out,(HP.out.below HB3.out).below ((wag w3.heap.size w3).alloc (waa _) _),(yg.out.trans (HB3.out.mono hsz)).alloc (by have:=HB3.out.size;omega) _⟩
          case measure=>simp[intOf];omega
         ·exact absurd ⟨hl,HB.out⟩ hn2
        ·skip
         have hnx:=VE.out (s.extract (pf+1) (pf+2)) (by exact jT.out);have uz:=uX (s:=s) (a:=pf+1) (b:=pf+2) (by omega);obtain⟨T,hT⟩:∃T,s.extract (pf+1) (pf+2)=T:=⟨_,rfl⟩;rw[hT]at hnx uz;have hnz:=wat (a:=h) (b:=T);obtain⟨X,hX⟩:∃X,h++T=X:=⟨_,rfl⟩;rw[hX]at hnx hnz;have HN:=hid hnx;have Yv:X.size<=120000:=by omega
         have hsum:h.size+T.size<=120000:=by omega
         clear hnx hnz uz h13 hmo
         go_wp2_with fail
         refine(jd.out).mono ?_;rintro e w3 ⟨hr,hB3⟩;rcases hr with⟨_,_,he⟩|⟨hn2,_⟩
         ·rw[qw.out]at he
          unfold jS at he;simp only at he;subst he;have HB3:=hid hB3;clear hB3 y9;go_wp2
          go_roundw
          case rel=>exact⟨pf+2,A,X,by go_num,rfl,HN.out,(HP.out.below HB3.out).below ((wag w3.heap.size w3).alloc (waa _) _),(yg.out.trans (HB3.out.mono hsz)).alloc (by have:=HB3.out.size;omega) _⟩
          case measure=>simp[intOf];omega
         ·exact absurd ⟨hl,HB.out⟩ hn2
        ·skip
         have hnx:=VE.out (s.extract (pf+1) (pf+2)) (by exact jT.out);have uz:=uX (s:=s) (a:=pf+1) (b:=pf+2) (by omega);obtain⟨T,hT⟩:∃T,s.extract (pf+1) (pf+2)=T:=⟨_,rfl⟩;rw[hT]at hnx uz;have hnz:=wat (a:=h) (b:=T);obtain⟨X,hX⟩:∃X,h++T=X:=⟨_,rfl⟩;rw[hX]at hnx hnz;have HN:=hid hnx;have Yv:X.size<=120000:=by omega
         have hsum:h.size+T.size<=120000:=by omega
         clear hnx hnz uz h13 hmo
         go_wp2_with fail
         refine(jd.out).mono ?_;rintro e w3 ⟨hr,hB3⟩;rcases hr with⟨_,_,he⟩|⟨hn2,_⟩
         ·rw[qw.out]at he
          unfold jS at he;simp only at he;subst he;have HB3:=hid hB3;clear hB3 y9;go_wp2
          go_roundw
          case rel=>exact⟨pf+2,A,X,by go_num,rfl,HN.out,(HP.out.below HB3.out).below ((wag w3.heap.size w3).alloc (waa _) _),(yg.out.trans (HB3.out.mono hsz)).alloc (by have:=HB3.out.size;omega) _⟩
          case measure=>simp[intOf];omega
         ·exact absurd ⟨hl,HB.out⟩ hn2
       ·have hpe:yG s ⟨13,pf,pf+2,pu,po⟩ true=some (s.extract pf (pf+2)):=by
         unfold yG;dsimp only;rw[if_neg (by decide),if_neg (by decide),if_pos rfl,if_neg hor,if_neg (by decide)];simp only[hby];rw[if_neg bq]
        have jT:=hid hpe;have b1:((b:Int)==36)=false:=beq_eq_false_iff_ne.2 (by omega);have b2:((b:Int)==96)=false:=beq_eq_false_iff_ne.2 (by omega);have b3:((b:Int)==34)=false:=beq_eq_false_iff_ne.2 (by omega);have b4:((b:Int)==92)=false:=beq_eq_false_iff_ne.2 (by omega);have b5:((b:Int)==10)=false:=beq_eq_false_iff_ne.2 (by omega);clear hpe hby hor b10 hne1 hend bq;have hnx:=VE.out (s.extract pf (pf+2)) (by exact jT.out);have uz:=uX (s:=s) (a:=pf) (b:=pf+2) (by omega);obtain⟨T,hT⟩:∃T,s.extract (pf) (pf+2)=T:=⟨_,rfl⟩;rw[hT]at hnx uz;have hnz:=wat (a:=h) (b:=T);obtain⟨X,hX⟩:∃X,h++T=X:=⟨_,rfl⟩;rw[hX]at hnx hnz;have HN:=hid hnx;have Yv:X.size<=120000:=by omega
        have hsum:h.size+T.size<=120000:=by omega
        clear hnx hnz uz h13 hmo
        go_wp2_with fail
        refine(jd.out).mono ?_;rintro e w3 ⟨hr,hB3⟩;rcases hr with⟨_,_,he⟩|⟨hn2,_⟩
        ·rw[qw.out]at he
         unfold jS at he;simp only at he;subst he;have HB3:=hid hB3;clear hB3 y9;go_wp2
         go_roundw
         case rel=>exact⟨pf+2,A,X,by go_num,rfl,HN.out,(HP.out.below HB3.out).below ((wag w3.heap.size w3).alloc (waa _) _),(yg.out.trans (HB3.out.mono hsz)).alloc (by have:=HB3.out.size;omega) _⟩
         case measure=>simp[intOf];omega
        ·exact absurd ⟨hl,HB.out⟩ hn2
    ·have zeK:((pm:Int)==13)=false:=beq_eq_false_iff_ne.2 (by omega)
     have hpe:yG s ⟨pm,pf,pt,pu,po⟩ true=none:=by unfold yG;dsimp only;rw[if_neg hmo.2.2,if_neg c12,if_neg c13]
     have jT:=hid hpe;clear hpe;have hnx:=V8.out (by exact jT.out);obtain⟨T,hT⟩:∃T,s.extract pf pt=T:=⟨_,rfl⟩;rw[hT]at hnx;by_cases hh0:h.size=0
     ·have hfl:fl true h false=[]:=by unfold fl;rw[if_pos ⟨hh0,rfl⟩]
      rw[hfl,List.append_nil]at hnx;have HN:=hid hnx;have d1:=SQ hh0;have d2:=bI hh0;have hza:z<=200000:=by have:=HZ.out;omega
      clear hnx h13 hmo hfl hh0 c12 c13
      go_wp2_with fail
      refine(jd.out).mono ?_;rintro e w3 ⟨hr,hB3⟩;rcases hr with⟨_,_,he⟩|⟨hn2,_⟩
      ·rw[qw.out]at he
       unfold jS at he;simp only at he;subst he;have HB3:=hid hB3;have hB4:=(hB3.trans ((wag w3.heap.size w3).alloc (waa _) (.cells #[.int .i64 (pm:Int),.int .i64 (pf:Int),.int .i64 (pt:Int),.int .i64 pu,.bool po] 136)|>.mono hB3.size));have xE:=(HP.out.below hB4);have xN:=yg.out.trans (hB4.mono hsz);unfold uO at xE;rw[HZ.out]at xE;have uj:=hid xE;have hs4:=xN.size;simp at hs4;have kp:=zf.new w3 #[.int .i64 (pm:Int),.int .i64 (pf:Int),.int .i64 (pt:Int),.int .i64 pu,.bool po] 136;have hs3:=hB3.size;have hne:∀k,(Value.slice xa z xc).ownBlock=some k->k<wr.heap.size:=λk hk=>kK Jb.out k hk;clear hB3 y9 xE
       go_wp2_with (at_builtin;refine Zq rfl _ _ 116 119 3 24 _ rfl underlying116 qQ rfl (by omega) (by omega) w.heap.size (.slice xa z xc) z (yE A) rfl (Y7 uj.out _) _ 1 (uY ⟨true,true,T⟩) rfl (QN (x:=⟨true,true,T⟩) (gy _ _ _ _)) rfl (YB _) (by omega) (by simp only[waf];omega) (z+1) rfl ?_;intro xU c2 w5 hown5 hgr5 hg5;have k5:=(kp.alloc (.cells #[.bool true,.bool true,.string T] 119)).grown hgr5 (λe=>by have:=hne _ e.symm;omega);have bM:=k5.cell 2)
       go_roundw
       case rel=>
        refine⟨pt,_,war,by go_num,rfl,HN.out,?_,?_⟩
        ·show w5.ownsRow _ _ _ _ _ _
         rw[wam,HZ.out,YA];simpa[yE]using hown5
        ·exact(xN.alloc xN.size _).grown hgr5 (by simp;omega) (λk hk=>xx uj.out k hk)
       case measure=>simp[intOf];omega
      ·exact absurd ⟨hl,HB.out⟩ hn2
     ·have hfl:fl true h false=[⟨false,true,h⟩]:=by unfold fl;rw[if_neg (λg=>hh0 g.1)]
      rw[hfl]at hnx;have HN:=hid hnx;have d1:=SS hh0;have d2:=bJ hh0;have hza:z<=200000:=by have:=HZ.out;omega
      clear hnx h13 hmo hfl hh0 c12 c13
      go_wp2_with fail
      refine(jd.out).mono ?_;rintro e w3 ⟨hr,hB3⟩;rcases hr with⟨_,_,he⟩|⟨hn2,_⟩
      ·rw[qw.out]at he
       unfold jS at he;simp only at he;subst he;have HB3:=hid hB3;have hB4:=(hB3.trans ((wag w3.heap.size w3).alloc (waa _) (.cells #[.int .i64 (pm:Int),.int .i64 (pf:Int),.int .i64 (pt:Int),.int .i64 pu,.bool po] 136)|>.mono hB3.size));have kp:=zf.new w3 #[.int .i64 (pm:Int),.int .i64 (pf:Int),.int .i64 (pt:Int),.int .i64 pu,.bool po] 136;have xE:=(HP.out.below hB4);have xN:=yg.out.trans (hB4.mono hsz);unfold uO at xE;rw[HZ.out]at xE;have uj:=hid xE;have hs4:=xN.size;have hs3:=hB3.size;simp at hs4;have hne:∀k,(Value.slice xa z xc).ownBlock=some k->k<wr.heap.size:=λk hk=>kK Jb.out k hk;clear hB3 y9 xE
       go_wp2_with (at_builtin;first
        |(refine Zq rfl _ _ 116 119 3 24 _ rfl underlying116 qQ rfl (by omega) (by omega) w.heap.size (.slice xa z xc) z (yE A) rfl (Y7 uj.out _) _ 1 (uY ⟨false,true,h⟩) rfl (QN (x:=⟨false,true,h⟩) (gy _ _ _ _)) rfl (YB _) (by omega) (by simp only[waf];omega) (z+1) rfl ?_;intro xU c2 w5 hown5 hgr5 hg5;have vP:=(xN.alloc xN.size (.cells #[.bool false,.bool true,.string h] 119)).grown hgr5 (by simp;omega) (λk hk=>xx uj.out k hk);have k5:=(kp.alloc (.cells #[.bool false,.bool true,.string h] 119)).grown hgr5 (λe=>by have:=hne _ e.symm;omega);have k50:=k5.cell 0;have k51:=k5.cell 1;have bM:=k5.cell 2;have hs5:=vP.size)
        |(refine Zq rfl _ _ 116 119 3 24 _ rfl underlying116 qQ rfl (by omega) (by omega) w.heap.size (.slice xU (z+1) c2) (z+1) (yE A++uY ⟨false,true,h⟩) rfl (Y7 hown5 _) _ 1 (uY ⟨true,true,T⟩) rfl (lK _ ⟨true,true,T⟩) rfl (YB _) (by omega) (by simp only[waf];omega) (z+1+1) rfl ?_;intro oa6 c6 w6 hown6 ZL wo;have k6:=(k5.alloc (.cells #[.bool true,.bool true,.string T] 119)).grown ZL (λe=>by rcases hg5 with g|g;(have:=hne _ (g.symm.trans e.symm);omega);(rw[←e]at g;simp only[waf,Option.some.injEq]at g;omega));have k62:=k6.cell 2))
       go_roundw
       case rel=>
        refine⟨pt,_,war,by go_num,rfl,HN.out,?_,?_⟩
        ·show w6.ownsRow _ _ _ _ _ _
         rw[wam,wam,HZ.out,YA,YA];simpa[yE]using hown6
        ·exact(vP.alloc vP.size _).grown ZL (by simp;omega) (λk hk=>xx hown5 k hk)
       case measure=>simp[intOf];omega
      ·exact absurd ⟨hl,HB.out⟩ hn2
  ·have hge:¬a<yY (prt s f):=by have:=yU.out;omega
   have hd:=hI.eq;rw[OZ hge]at hd;have hza:z<=200000:=by omega
   by_cases hh0:h.size=0
   ·have d1:=SQ hh0
    have d2:=bI hh0
    cases A with
    |nil=>
     have hfl:fl true h ([]:List Pc).isEmpty=[⟨false,true,h⟩]:=by unfold fl;rw[if_neg (λg=>by simp at g)]
     rw[hfl]at hd;have HD:=hid hd;have hz0:z=0:=by rw[←hz];rfl
     subst hz0;have yg:=hid hB;unfold uO at hP;have uj:=hid hP;clear hI hd hfl hP hB HP y9 hge hh0 hst hz
     go_wp2_with (at_builtin;refine Zq rfl _ _ 116 119 3 24 _ rfl underlying116 qQ rfl (by omega) (by omega) w.heap.size (.slice xa 0 xc) 0 (yE []) rfl (Y7 uj.out _) _ 1 (uY ⟨false,true,h⟩) rfl (lK _ ⟨false,true,h⟩) rfl (YB _) (by omega) (by simp only[waf];omega) 1 rfl ?_;intro xU c2 w5 hown5 hgr5 hg5)
     go_ret;refine⟨_,rfl,?_,?_⟩
     ·rw[HD.out]
      show w5.ownsRow _ _ _ _ _ _;simpa[yE]using hown5
     ·exact(yg.out.alloc hsz _).grown hgr5 (by simp;omega) (λk hk=>xx uj.out k hk)
    |cons x A'=>
     have hfl:fl true h (x::A').isEmpty=[]:=by unfold fl;rw[if_pos ⟨hh0,rfl⟩]
     rw[hfl,List.append_nil]at hd;have HD:=hid hd;have hz0:((z:Int)==0)=false:=beq_eq_false_iff_ne.2 (by rw[←hz];simp;omega);have yg:=hid hB;have HZ:=hid hz;clear hI hd hfl hP hB y9 hge hh0 hst hz;go_wp2;go_ret;exact⟨_,rfl,by rw[HD.out];have:=HP.out;unfold uO at this ⊢;rw[HZ.out]at this ⊢;exact this,yg.out⟩
   ·have d1:=SS hh0
    have d2:=bJ hh0;have hfl:fl true h A.isEmpty=[⟨false,true,h⟩]:=by unfold fl;rw[if_neg (λg=>hh0 g.1)]
    rw[hfl]at hd;have HD:=hid hd;have yg:=hid hB;have xE:=HP.out;unfold uO at xE;rw[hz]at xE;have uj:=hid xE;have HZ:=hid hz;clear hI hd hfl hP hB y9 hge hh0 hst hz xE
    go_wp2_with (at_builtin;refine Zq rfl _ _ 116 119 3 24 _ rfl underlying116 qQ rfl (by omega) (by omega) w.heap.size (.slice xa z xc) z (yE A) rfl (Y7 uj.out _) _ 1 (uY ⟨false,true,h⟩) rfl (lK _ ⟨false,true,h⟩) rfl (YB _) (by omega) (by simp only[waf];omega) (z+1) rfl ?_;intro xU c2 w5 hown5 hgr5 hg5)
    go_ret;refine⟨_,rfl,?_,?_⟩
    ·rw[HD.out]
     show w5.ownsRow _ _ _ _ _ _;rw[wam,HZ.out,YA];simpa[yE]using hown5
    ·exact(yg.out.alloc hsz _).grown hgr5 (by simp;omega) (λk hk=>xx uj.out k hk)
end
open _root_.Go.IntWalk renaming i64_in->waq
theorem MV(zi:Bool)(h:ByteArray)(w:Bool):(fl zi h w).length<=1:=by unfold fl;split<;>simp
theorem MW{s:ByteArray}{zi:Bool}{sub:Nat->List Pc}{e E:Nat}{uu:Nat->Prop}(he:e<=s.size)(lN:e<=E)(hR1:∀a,uu a->a<e->born s a=false->uu (a+1))(hR2:∀a,uu a->a<e->born s a=true->uu (prt s a).to/\(prt s a).to<=E)
 (hsub:∀a,uu a->a<e->born s a=true->(sub a).length+1<=2*((prt s a).to-a)):∀(k a:Nat) (h:ByteArray) (w:Bool),uu a->a<=E->(rm s zi sub e k a h w).length<=2*(E-a)+1
 |0,a,h,w,_,_=>by unfold rm;have:=MV zi h w;omega
 |k+1,a,h,w,hr,ha=>by
  unfold rm;by_cases hae:a<e
  ·rw[if_pos hae]
   by_cases hb:born s a=true
   ·rw[if_pos hb]
    have hg:=qP hb (by omega);obtain⟨r1,r2⟩:=hR2 a hr hae hb
    cases hi:yG s (prt s a) zi with
    |some t=>
     have:=MW (zi:=zi) he lN hR1 hR2 hsub k _ (h++t) w r1 r2;simp only;omega
    |none=>
     have h1:=hsub a hr hae hb;have:=MW (zi:=zi) he lN hR1 hR2 hsub k _ war false r1 r2;have h2:=MV zi h false;simp only;rw[wam,wam];omega
   ·rw[if_neg hb]
    have:=MW (zi:=zi) he lN hR1 hR2 hsub k _ (h++s.extract a (a+1)) w (hR1 a hr hae (by simpa using hb)) (by omega);omega
  ·rw[if_neg hae];have:=MV zi h w;omega
theorem AY{s:ByteArray}{f:Nat}(hf:f<s.size)(hb:born s f=true)(hm:(prt s f).mode=5):(DB s (f+1) (yY (prt s f))).length+1<=2*((prt s f).to-f):=by
 obtain⟨h1,h2,h3,hin⟩:=QP hf hb hm;have hto:=qP hb hf;obtain⟨n1,n2⟩:=MQ hf hb hm;have:=MW (s:=s) (zi:=true) (sub:=Js s) (e:=yY (prt s f)) (E:=(prt s f).to) (uu:=gz s f) h1 h2 n1 n2 (λa hr hlt hbn=>by
  have:=qP hbn (by omega);unfold Js;simp;omega) (yY (prt s f)-(f+1)) (f+1) war true h3 (by omega)
 unfold DB Rm;omega
theorem AZ{s:ByteArray}{f:Nat}(hf:f<s.size)(hb:born s f=true):(jQ s f).length+1<=2*((prt s f).to-f):=by
 have hto:=qP hb hf;unfold jQ;split
 ·rename_i h5;exact AY hf hb h5
 ·split<;>(simp;omega)
theorem zeL{s:ByteArray}{f:Nat}(hb:born s f=true)(hf:f<s.size)(hm:(prt s f).mode≠12)(ho:(prt s f).op=false):f+2<=(prt s f).to:=by
 have he:=Ju hb hf;have h1:=MJ hb hf;rw[G6 hb hf]at hm;rw[if_neg hm]at he;rw[he]at ho ⊢;simp only at ho ⊢;have:¬eK s f s.size=s.size:=of_decide_eq_false ho;rw[if_neg this];omega
theorem A7{m f t:Nat}{u:Int}{op:Bool}(hm:m=4\/m=5)(h1:f<t)(h2:op=false->f+2<=t):yY ⟨m,f,t,u,op⟩=if op=true then t else t-1:=by
 unfold yY;dsimp only;have e1:Yd m=1:=by rcases hm with rfl|rfl<;>rfl
 have e2:Ja m=1:=by rcases hm with rfl|rfl<;>rfl
 rw[e1,e2]
 cases op with
 |true=>simp;omega
 |false=>have:=h2 rfl;rw[if_neg (by omega),if_neg (by decide),if_pos (by omega),if_neg (by decide)]
theorem zeM{f t:Nat}{u:Int}{op:Bool}(h1:f<t):yY ⟨13,f,t,u,op⟩=t:=by
 unfold yY;dsimp only;have e1:Yd 13=1:=rfl;have e2:Ja 13=0:=rfl;rw[e1,e2]
 repeat' split
 all_goals omega
structure Jz(s:ByteArray)(a:Nat)(pre:List Pc)(h:ByteArray):Prop where
 le:a<=s.size
 eq:kS s=pre++Rm s false (jQ s) s.size a h false
 hz:h.size<=a
 az:pre.length+1<=2*a+1
theorem Jz.start(s:ByteArray):Jz s 0 [] war:=⟨Nat.zero_le _,rfl,Nat.le_refl _,Nat.le_refl _⟩
section
variable{s:ByteArray}{a:Nat}{pre:List Pc}{h:ByteArray}(I:Jz s a pre h)(ha:a<s.size)
include I ha
theorem Jz.plain(hB:born s a=false):Jz s (a+1) pre (h++s.extract a (a+1)):=by
 refine⟨by omega,?_,?_,by have:=I.az;omega⟩
 ·rw[I.eq,OI (Nat.le_refl _) ha hB]
 ·rw[wat,uX (by omega)]
  have:=I.hz;omega
theorem Jz.self(hB:born s a=true){t:ByteArray}(ht:yG s (prt s a) false=some t):Jz s (prt s a).to pre (h++t):=by
 have hg:=qP hB ha;refine⟨(Xt ha hB).1,?_,?_,by have:=I.az;omega⟩
 ·rw[I.eq,OL (Nat.le_refl _) ha hB ht]
 ·rw[wat]
  have:=bK ht;rw[Yc]at this;have:=I.hz;omega
theorem Jz.sub(hB:born s a=true)(ht:yG s (prt s a) false=none):Jz s (prt s a).to (pre++fl false h false++jQ s a) war:=by
 have hg:=qP hB ha;refine⟨(Xt ha hB).1,?_,Nat.zero_le _,?_⟩
 ·rw[I.eq,OM (Nat.le_refl _) ha hB ht,List.append_assoc,List.append_assoc]
 ·rw[wam,wam]
  have h1:=MV false h false;have h2:=AZ ha hB;have:=I.az;omega
end
def jI(pre:List Pc)(h:ByteArray):List Pc:=pre++fl false h false
theorem jI.empty(pre:List Pc):jI pre war=pre:=by unfold jI;rw[zet,List.append_nil]
theorem jI.zero{pre:List Pc}{h:ByteArray}(hz:h.size=0):jI pre h=pre:=by
 unfold jI fl;rw[if_pos ⟨hz,rfl⟩,List.append_nil]
theorem jI.more{pre:List Pc}{h:ByteArray}(hz:h.size≠0):jI pre h=pre++ [⟨false,false,h⟩]:=by
 unfold jI fl;rw[if_neg (λg=>hz g.1)]
theorem jI.len(pre:List Pc)(h:ByteArray):(jI pre h).length<=pre.length+1:=by
 unfold jI;rw[wam];have:=MV false h false;omega
theorem bP(w:World)(pre:List Pc)(h t:ByteArray)(fr:Bool)(hfr:fr=decide (h.size=0))(v:Value)(hP:uO w 0 v (jI pre h))(hl:pre.length<=400000)(hh:h.size<=1000000)(ht:t.size<=1000000)(h0:0<t.size):
  Calls prog 142 #[v,.string t,.bool fr] w λe w'=>∃v',e=.returned v'/\uO w' w.heap.size v' (jI pre (h++t))/\Below w.heap.size w w':=by
 have hn:(h++t).size≠0:=by rw[wat];omega
 rw[jI.more hn];by_cases hz:h.size=0
 ·rw[jI.zero hz]at hP
  have he:h=war:=ByteArray.ext (Array.eq_empty_of_size_eq_zero hz);rw[hfr,decide_eq_true hz];have:=zeF w pre t true v hP (by omega) (.inr rfl);rw[he,ByteArray.empty_append];exact this
 ·rw[jI.more hz]at hP
  rw[hfr,decide_eq_false hz];exact zeG w pre h t v hP hl hh ht
def zeN(s:ByteArray)(w:World)(v4 v5 v6:Value)(wr:World):Prop:=∃(a:Nat) (pre:List Pc) (h:ByteArray) (fr:Bool),v6=.int .i64 (a:Int)/\v5=.bool fr/\fr=decide (h.size=0)/\Jz s a pre h/\uO wr w.heap.size v4 (jI pre h)/\Below w.heap.size w wr
section
variable(w:World)
theorem zeO(s:ByteArray)(hs:s.size<=60000):
  Calls prog 115 #[.string s] w λe w'=>∃v,e=.returned v/\uO w' w.heap.size v (kS s)/\Below w.heap.size w w':=by
 go_enter func115,ntmps115
 go_wp2_with fail
 refine(zeP w s hs).mono ?_;rintro e w1 ⟨⟨v,rfl,A8⟩,hB1⟩;obtain⟨oa,n,oc,rfl,hR⟩:=A8.read;have hn:n<=60000:=by have h1:=hR.len;have h2:=Aj s;omega
 have HR:=hid hR;have HB1:=hid hB1;have hsz1:=hB1.size;clear A8 hR hB1;go_wp2
 go_loopw [4,5,6] (λv4 v5 v6 wr=>zeN s w1 v4 v5 v6 wr) (λ_ _ v _=>s.size-(intOf v).toNat)
 case atStart=>exact⟨0,[],war,true,rfl,rfl,rfl,Jz.start s,World.ownsRow_nil _ _ _ _,Below.refl _ _⟩
 case round=>
  obtain⟨a,pre,h,fr,rfl,rfl,hfr,hI,hP,hB⟩:=hrel;have y9:=HR.out.below hB;have hsz:=hB.size;have hhz:=hI.hz;have haz:=hI.az;have kW:=hI.le;have hal:=jI.len pre h;obtain⟨xa,xc,rfl⟩:=Xw hP;obtain⟨A,hA⟩:∃A,jI pre h=A:=⟨_,rfl⟩;obtain⟨z,hz⟩:∃z,A.length=z:=⟨_,rfl⟩;have hP0:=hP;rw[hA]at hP hal ⊢;rw[hz]at hP hal ⊢;have MR:wr.ownsRow w1.heap.size 119 3 (.slice xa z xc) z (yE A):=by have:=hP;unfold uO at this;rw[hz]at this;exact this
  have Jb:=hid MR;have Ua:uO wr w1.heap.size (.slice xa z xc) (jI pre h):=by rw[hA];exact hP
  have HP:=hid Ua;have hza:z<=200000:=by omega
  have QQ:=hid hfr;have HA:=hid hA;have HZ:=hid hz;have yg:=hid hB;clear MR hP hP0 Ua hfr hA hz hB;by_cases hlt:(a:Int)<(s.size:Int)
  ·have hl:a<s.size:=by omega
   have hfi:=AP wr s oa n oc a y9 hn (by omega);have jd:=hid hfi;have q0:(0:Int)<=(a:Int):=by omega
   have q1:(a:Int)+1<=(s.size:Int):=by omega
   have q2:IntKind.i64.wrap ((a:Int)+1)=(a:Int)+1:=waq _ (by omega);have q3:(a:Int)<=(a:Int)+1:=by omega
   have q4:IntKind.i64.wrap ((a:Int)+2)=(a:Int)+2:=waq _ (by omega);clear hfi
   cases hBn:born s a with
   |false=>
    have hnx:=hI.plain hl hBn;have uz:=uX (s:=s) (a:=a) (b:=a+1) (by omega);obtain⟨T,hT⟩:∃T,s.extract a (a+1)=T:=⟨_,rfl⟩;rw[hT]at hnx uz;have HN:=hid hnx;have HB:=hid hBn;have RG:0<T.size:=by omega
    have MX:=hid (λW (hW:Below wr.heap.size wr W)=>bP W pre h T fr QQ.out (.slice xa z xc) ((HP.out.below hW).lower (Nat.zero_le _)) (by omega) (by omega) (by omega) (by omega));clear hI hnx hBn uz
    go_wp2_with fail
    refine(jd.out).mono ?_;rintro e w3 ⟨hr,hB3⟩;rcases hr with⟨_,hb2,_⟩|⟨_,rfl⟩
    ·rw[HB.out]at hb2;cases hb2
    have hB4:=hB3.alloc hB3.size (.cells #[.int .i64 0,.int .i64 0,.int .i64 0,.int .i64 0,.bool false] 136);have HB4:=hid hB4;clear hB3 y9 hB4
    go_wp2_with fail
    refine(MX.out _ HB4.out).mono ?_;rintro e w5 ⟨v5,rfl,Vg,vP⟩;have JA:=hid Vg;have uH:=hid vP;clear Vg vP;go_wp2
    go_roundw
    case rel=>
     have e1:Below w1.heap.size w1 w5:=(yg.out.trans (HB4.out.mono hsz)).trans (uH.out.mono (by have:=HB4.out.size;omega));exact⟨a+1,pre,h++T,false,by go_num,rfl,(decide_eq_false (by rw[wat];omega)).symm,HN.out,JA.out.lower (by have:=HB4.out.size;omega),e1⟩
    case measure=>simp[intOf];omega
   |true=>
    have hto:=qP hBn hl;have hle:=(Xt hl hBn).1;have hself:=λt=>hI.self hl hBn (t:=t);have hsub:=hI.sub hl hBn;have hsb:jQ s a=if(prt s a).mode=5 then DB s (a+1) (yY (prt s a))else if(prt s a).mode=4\/(prt s a).mode=13 then [⟨false,true,s.extract (a+1) (yY (prt s a))⟩]else [⟨true,false,s.extract a (prt s a).to⟩]:=rfl
    have bQ:=Yc s a;have h13:(prt s a).mode=13->(prt s a).to=if a+1=s.size then s.size else a+2:=λe=>OJ hBn hl e
    have hsh:(prt s a).mode≠12->(prt s a).op=false->a+2<=(prt s a).to:=λe1 e2=>zeL hBn hl e1 e2;have hdl:=fun(e:(prt s a).mode=5)=>AY hl hBn e;have SV:=fun(e:(prt s a).mode=5) W (hW:Below wr.heap.size wr W) f1 e1 (h1:f1=a+1) (h2:e1=yY (prt s a))=>zeI W s hs a hl hBn e oa n oc (y9.below hW) hn f1 e1 h1 h2;obtain⟨p,hp⟩:∃p,prt s a=p:=⟨_,rfl⟩;rw[hp]at hto hle hself hsub bQ h13 hsb hsh hdl SV;obtain⟨pm,pf,pt,pu,po⟩:=p;simp only at hto hle hself hsub bQ h13 hsb hsh hdl SV;subst bQ;have HB:=hid hBn;have qw:=hid hp;have VE:=hid hself;have V8:=hid hsub;have QR:=hid hsb;have Ub:=hid SV;have Uc:=hid hdl;have QS:=hid hsh;clear hI hself hsub hBn hp hsb SV hdl hsh;by_cases c14:pm=14
    ·subst c14
     have hnx:=VE.out (s.extract pf pt) (by unfold yG;dsimp only;rw[if_pos rfl]);have uz:=uX (s:=s) (a:=pf) (b:=pt) (by omega);obtain⟨T,hT⟩:∃T,s.extract pf pt=T:=⟨_,rfl⟩;rw[hT]at hnx uz;have HN:=hid hnx;have MX:=hid (λW (hW:Below wr.heap.size wr W)=>bP W pre h T fr QQ.out (.slice xa z xc) ((HP.out.below hW).lower (Nat.zero_le _)) (by omega) (by omega) (by omega) (by omega));have RG:0<T.size:=by omega
     clear hnx uz h13
     go_wp2_with fail
     refine(jd.out).mono ?_;rintro e w3 ⟨hr,hB3⟩;rcases hr with⟨_,_,he⟩|⟨hn2,_⟩
     ·rw[qw.out]at he
      unfold jS at he;simp only at he;subst he;have hB4:=hB3.alloc hB3.size (.cells #[.int .i64 14,.int .i64 (pf:Int),.int .i64 (pt:Int),.int .i64 pu,.bool po] 136);have HB4:=hid hB4;have kp:=zf.new w3 #[.int .i64 14,.int .i64 (pf:Int),.int .i64 (pt:Int),.int .i64 pu,.bool po] 136;have hs3:=hB3.size;clear hB3 y9 hB4
      go_wp2_with fail
      refine(MX.out _ HB4.out).mono ?_;rintro e w5 ⟨v5,rfl,Vg,vP⟩;have JA:=hid Vg;have uH:=hid vP;clear Vg vP;go_wp2
      go_roundw
      case rel=>
       have e1:Below w1.heap.size w1 w5:=(yg.out.trans (HB4.out.mono hsz)).trans (uH.out.mono (by have:=HB4.out.size;omega));exact⟨pt,pre,h++T,false,by go_num,rfl,(decide_eq_false (by rw[wat];omega)).symm,HN.out,JA.out.lower (by have:=HB4.out.size;omega),e1⟩
      case measure=>simp[intOf];omega
     ·exact absurd ⟨hl,HB.out⟩ hn2
    have zoj:((pm:Int)==14)=false:=beq_eq_false_iff_ne.2 (by omega);by_cases c12:pm=12
    ·subst c12
     by_cases ct:pt=pf+1
     ·subst ct
      have hnx:=VE.out (s.extract pf (pf+1)) (by unfold yG;dsimp only;rw[if_neg (by decide),if_pos rfl,if_pos rfl]);have uz:=uX (s:=s) (a:=pf) (b:=pf+1) (by omega);obtain⟨T,hT⟩:∃T,s.extract pf (pf+1)=T:=⟨_,rfl⟩;rw[hT]at hnx uz;have HN:=hid hnx;have MX:=hid (λW (hW:Below wr.heap.size wr W)=>bP W pre h T fr QQ.out (.slice xa z xc) ((HP.out.below hW).lower (Nat.zero_le _)) (by omega) (by omega) (by omega) (by omega));have RG:0<T.size:=by omega
      have tq:((pf+1:Nat):Int)=(pf:Int)+1:=by omega
      clear hnx uz h13
      go_wp2_with fail
      refine(jd.out).mono ?_;rintro e w3 ⟨hr,hB3⟩;rcases hr with⟨_,_,he⟩|⟨hn2,_⟩
      ·rw[qw.out]at he
       unfold jS at he;simp only at he;subst he;have hB4:=hB3.alloc hB3.size (.cells #[.int .i64 12,.int .i64 (pf:Int),.int .i64 ((pf+1:Nat):Int),.int .i64 pu,.bool po] 136);have HB4:=hid hB4;have kp:=zf.new w3 #[.int .i64 12,.int .i64 (pf:Int),.int .i64 ((pf+1:Nat):Int),.int .i64 pu,.bool po] 136;have hs3:=hB3.size;clear hB3 y9 hB4
       go_wp2_with fail
       refine(MX.out _ HB4.out).mono ?_;rintro e w5 ⟨v5,rfl,Vg,vP⟩;have JA:=hid Vg;have uH:=hid vP;clear Vg vP;go_wp2
       go_roundw
       case rel=>
        have e1:Below w1.heap.size w1 w5:=(yg.out.trans (HB4.out.mono hsz)).trans (uH.out.mono (by have:=HB4.out.size;omega));exact⟨pf+1,pre,h++T,false,by go_num,rfl,(decide_eq_false (by rw[wat];omega)).symm,HN.out,JA.out.lower (by have:=HB4.out.size;omega),e1⟩
       case measure=>simp[intOf];omega
      ·exact absurd ⟨hl,HB.out⟩ hn2
     ·have t1:((pt:Int)==(pf:Int)+1)=false:=beq_eq_false_iff_ne.2 (by omega)
      have hnx:=V8.out (by unfold yG;dsimp only;rw[if_neg (by decide),if_pos rfl,if_neg ct]);have hse:jQ s pf=[⟨true,false,s.extract pf pt⟩]:=by rw[QR.out,if_neg (by decide),if_neg (by decide)]
      rw[hse]at hnx;have HN:=hid hnx;obtain⟨T,hT⟩:∃T,s.extract pf pt=T:=⟨_,rfl⟩;rw[hT]at HN;clear hnx hse h13 ct
      go_wp2_with fail
      refine(jd.out).mono ?_;rintro e w3 ⟨hr,hB3⟩;rcases hr with⟨_,_,he⟩|⟨hn2,_⟩
      ·rw[qw.out]at he
       unfold jS at he;simp only at he;subst he;have hB4:=hB3.alloc hB3.size (.cells #[.int .i64 12,.int .i64 (pf:Int),.int .i64 (pt:Int),.int .i64 pu,.bool po] 136);have HB4:=hid hB4;have kp:=zf.new w3 #[.int .i64 12,.int .i64 (pf:Int),.int .i64 (pt:Int),.int .i64 pu,.bool po] 136;have hs3:=hB3.size;have xE:=uh Jb.out hB4;have uj:=hid xE;have xN:=yg.out.trans (hB4.mono hsz);have Zt:=hid xN;have hs4:=xN.size;simp at hs4;clear hB3 y9 hB4 xE xN
       go_wp2_with (at_builtin;refine Zq rfl _ _ 116 119 3 24 _ rfl underlying116 qQ rfl (by omega) (by omega) w1.heap.size (.slice xa z xc) z (yE A) rfl (Y7 uj.out _) _ 1 (uY ⟨true,false,T⟩) rfl (QN (x:=⟨true,false,T⟩) (gy _ _ _ _)) rfl (YB _) (by omega) (by simp only[waf];omega) (z+1) rfl ?_;intro xU c2 w6 hown6 ZL wo)
       go_roundw
       case rel=>
        refine⟨pt,_,war,true,by go_num,rfl,rfl,HN.out,?_,?_⟩
        ·rw[jI.empty]
         show w6.ownsRow _ _ _ _ _ _;have e0:pre++fl false h false=A:=HA.out;rw[e0,wam,HZ.out,YA];simpa[yE]using hown6
        ·exact(Zt.out.alloc Zt.out.size _).grown ZL (by simp;omega) (λk hk=>xx uj.out k hk)
       case measure=>simp[intOf];omega
      ·exact absurd ⟨hl,HB.out⟩ hn2
    have zeJ:((pm:Int)==12)=false:=beq_eq_false_iff_ne.2 (by omega);by_cases c13:pm=13
    ·subst c13
     by_cases hend:pf+1=s.size
     ·have hpt:pt=s.size:=by rw[h13 rfl,if_pos hend]
      have t2:((pt:Int)==(pf:Int)+2)=false:=beq_eq_false_iff_ne.2 (by omega);have MS:pt=pf+1:=by omega
      have hpe:yG s ⟨13,pf,pt,pu,po⟩ false=some war:=by unfold yG;dsimp only;rw[if_neg (by decide),if_neg (by decide),if_pos rfl,if_pos (.inl MS)]
      have jT:=hid hpe;clear hpt MS hpe hend;have hnx:=VE.out war (by exact jT.out);rw[ByteArray.append_empty]at hnx;have HN:=hid hnx;clear hnx h13
      go_wp2_with fail
      refine(jd.out).mono ?_;rintro e w3 ⟨hr,hB3⟩;rcases hr with⟨_,_,he⟩|⟨hn2,_⟩
      ·rw[qw.out]at he
       unfold jS at he;simp only at he;subst he;have hB4:=hB3.alloc hB3.size (.cells #[.int .i64 13,.int .i64 (pf:Int),.int .i64 (pt:Int),.int .i64 pu,.bool po] 136);have HB4:=hid hB4;have kp:=zf.new w3 #[.int .i64 13,.int .i64 (pf:Int),.int .i64 (pt:Int),.int .i64 pu,.bool po] 136;have hs3:=hB3.size;clear hB3 y9 hB4;go_wp2
       go_roundw
       case rel=>exact⟨pt,pre,h,fr,by go_num,rfl,QQ.out,HN.out,HP.out.below HB4.out,yg.out.trans (HB4.out.mono hsz)⟩
       case measure=>simp[intOf];omega
      ·exact absurd ⟨hl,HB.out⟩ hn2
     ·have hpt:pt=pf+2:=by rw[h13 rfl,if_neg hend]
      subst hpt;have t2:((pf+2:Nat):Int)=(pf:Int)+2:=by omega
      obtain⟨b,hby⟩:∃b,by8 s (pf+1)=b:=⟨_,rfl⟩;have hbl:b<256:=hby▸WZ s _;have hix:∀hh:pf+1<s.size,(s[pf+1]'hh).toNat=b:=λhh=>by rw[←hby];unfold by8;rw[zT hh]
      have hne1:¬(pf+2=pf+1):=by omega
      have q5:(pf:Int)+1<(s.size:Int):=by omega
      have q6:(pf:Int)+2<=(s.size:Int):=by omega
      have q7:(pf:Int)+1<=(pf:Int)+2:=by omega
      have q9:(0:Int)<=(pf:Int)+1:=by omega
      by_cases b10:b=10
      ·have hpe:yG s ⟨13,pf,pf+2,pu,po⟩ false=some war:=by unfold yG;dsimp only;rw[if_neg (by decide),if_neg (by decide),if_pos rfl,if_pos (.inr (hby.trans b10))]
       have jT:=hid hpe;subst b10;clear hpe hby hne1 hend;have hnx:=VE.out war (by exact jT.out);rw[ByteArray.append_empty]at hnx;have HN:=hid hnx;clear hnx h13
       go_wp2_with fail
       refine(jd.out).mono ?_;rintro e w3 ⟨hr,hB3⟩;rcases hr with⟨_,_,he⟩|⟨hn2,_⟩
       ·rw[qw.out]at he
        unfold jS at he;simp only at he;subst he;have hB4:=hB3.alloc hB3.size (.cells #[.int .i64 13,.int .i64 (pf:Int),.int .i64 ((pf+2:Nat):Int),.int .i64 pu,.bool po] 136);have HB4:=hid hB4;have kp:=zf.new w3 #[.int .i64 13,.int .i64 (pf:Int),.int .i64 ((pf+2:Nat):Int),.int .i64 pu,.bool po] 136;have hs3:=hB3.size;clear hB3 y9 hB4;go_wp2
        go_roundw
        case rel=>exact⟨pf+2,pre,h,fr,by go_num,rfl,QQ.out,HN.out,HP.out.below HB4.out,yg.out.trans (HB4.out.mono hsz)⟩
        case measure=>simp[intOf];omega
       ·exact absurd ⟨hl,HB.out⟩ hn2
      ·have hor:¬(pf+2=pf+1\/by8 s (pf+1)=10):=by omega
       have hpe:yG s ⟨13,pf,pf+2,pu,po⟩ false=none:=by unfold yG;dsimp only;rw[if_neg (by decide),if_neg (by decide),if_pos rfl,if_neg hor,if_pos rfl]
       have jT:=hid hpe;have b5:((b:Int)==10)=false:=beq_eq_false_iff_ne.2 (by omega);obtain⟨T,hT⟩:∃T,s.extract (pf+1) (pf+2)=T:=⟨_,rfl⟩;clear hpe hby hor b10 hne1 hend;have hnx:=V8.out (by exact jT.out);have hse:jQ s pf=[⟨false,true,T⟩]:=by rw[QR.out,if_neg (by decide),if_pos (.inr rfl),zeM (by omega),hT]
       rw[hse]at hnx;have HN:=hid hnx;clear hnx hse h13
       go_wp2_with fail
       refine(jd.out).mono ?_;rintro e w3 ⟨hr,hB3⟩;rcases hr with⟨_,_,he⟩|⟨hn2,_⟩
       ·rw[qw.out]at he
        unfold jS at he;simp only at he;subst he;have hB4:=hB3.alloc hB3.size (.cells #[.int .i64 13,.int .i64 (pf:Int),.int .i64 ((pf+2:Nat):Int),.int .i64 pu,.bool po] 136);have HB4:=hid hB4;have kp:=zf.new w3 #[.int .i64 13,.int .i64 (pf:Int),.int .i64 ((pf+2:Nat):Int),.int .i64 pu,.bool po] 136;have hs3:=hB3.size;have xE:=uh Jb.out hB4;have uj:=hid xE;have xN:=yg.out.trans (hB4.mono hsz);have Zt:=hid xN;have hs4:=xN.size;simp at hs4;clear hB3 y9 hB4 xE xN
        go_wp2_with (at_builtin;refine Zq rfl _ _ 116 119 3 24 _ rfl underlying116 qQ rfl (by omega) (by omega) w1.heap.size (.slice xa z xc) z (yE A) rfl (Y7 uj.out _) _ 1 (uY ⟨false,true,T⟩) rfl (QN (x:=⟨false,true,T⟩) (gy _ _ _ _)) rfl (YB _) (by omega) (by simp only[waf];omega) (z+1) rfl ?_;intro xU c2 w6 hown6 ZL wo)
        go_roundw
        case rel=>
         refine⟨pf+2,_,war,true,by go_num,rfl,rfl,HN.out,?_,?_⟩
         ·rw[jI.empty]
          show w6.ownsRow _ _ _ _ _ _;have e0:pre++fl false h false=A:=HA.out;rw[e0,wam,HZ.out,YA];simpa[yE]using hown6
         ·exact(Zt.out.alloc Zt.out.size _).grown ZL (by simp;omega) (λk hk=>xx uj.out k hk)
        case measure=>simp[intOf];omega
       ·exact absurd ⟨hl,HB.out⟩ hn2
    have zeK:((pm:Int)==13)=false:=beq_eq_false_iff_ne.2 (by omega);by_cases c4:pm=4
    ·subst c4
     have hin:=A7 (m:=4) (f:=pf) (t:=pt) (u:=pu) (op:=po) (.inl rfl) hto (λe=>QS.out (by decide) e)
     cases po with
     |true=>
      rw[if_pos rfl]at hin;have r2:IntKind.i64.wrap ((pt:Int)-1)=(pt:Int)-1:=waq _ (by omega);have q5:(pf:Int)+1<=(pt:Int):=by omega
      have q9:(0:Int)<=(pf:Int)+1:=by omega
      obtain⟨T,hT⟩:∃T,s.extract (pf+1) pt=T:=⟨_,rfl⟩;have hnx:=V8.out (by unfold yG;dsimp only;rw[if_neg (by decide),if_neg (by decide),if_neg (by decide)]);have hse:jQ s pf=[⟨false,true,T⟩]:=by rw[QR.out,if_neg (by decide),if_pos (.inl rfl),hin,hT]
      rw[hse]at hnx;have HN:=hid hnx;clear hnx hse h13 hin
      go_wp2_with fail
      refine(jd.out).mono ?_;rintro e w3 ⟨hr,hB3⟩;rcases hr with⟨_,_,he⟩|⟨hn2,_⟩
      ·rw[qw.out]at he
       unfold jS at he;simp only at he;subst he;have hB4:=hB3.alloc hB3.size (.cells #[.int .i64 4,.int .i64 (pf:Int),.int .i64 (pt:Int),.int .i64 pu,.bool true] 136);have HB4:=hid hB4;have kp:=zf.new w3 #[.int .i64 4,.int .i64 (pf:Int),.int .i64 (pt:Int),.int .i64 pu,.bool true] 136;have hs3:=hB3.size;have xE:=uh Jb.out hB4;have uj:=hid xE;have xN:=yg.out.trans (hB4.mono hsz);have Zt:=hid xN;have hs4:=xN.size;simp at hs4;clear hB3 y9 hB4 xE xN
       go_wp2_with (at_builtin;refine Zq rfl _ _ 116 119 3 24 _ rfl underlying116 qQ rfl (by omega) (by omega) w1.heap.size (.slice xa z xc) z (yE A) rfl (Y7 uj.out _) _ 1 (uY ⟨false,true,T⟩) rfl (QN (x:=⟨false,true,T⟩) (gy _ _ _ _)) rfl (YB _) (by omega) (by simp only[waf];omega) (z+1) rfl ?_;intro xU c2 w6 hown6 ZL wo)
       go_roundw
       case rel=>
        refine⟨pt,_,war,true,by go_num,rfl,rfl,HN.out,?_,?_⟩
        ·rw[jI.empty]
         show w6.ownsRow _ _ _ _ _ _;have e0:pre++fl false h false=A:=HA.out;rw[e0,wam,HZ.out,YA];simpa[yE]using hown6
        ·exact(Zt.out.alloc Zt.out.size _).grown ZL (by simp;omega) (λk hk=>xx uj.out k hk)
       case measure=>simp[intOf];omega
      ·exact absurd ⟨hl,HB.out⟩ hn2
     |false=>
      rw[if_neg (by decide)]at hin;have h2:=QS.out (by decide) rfl;obtain⟨e1,he1⟩:∃e1,pt-1=e1:=⟨_,rfl⟩;rw[he1]at hin;have r2:IntKind.i64.wrap ((pt:Int)-1)=(e1:Int):=by rw[waq _ (by omega)];omega
      have q5:(pf:Int)+1<=(e1:Int):=by omega
      have q6:(e1:Int)<=(s.size:Int):=by omega
      have q9:(0:Int)<=(pf:Int)+1:=by omega
      obtain⟨T,hT⟩:∃T,s.extract (pf+1) e1=T:=⟨_,rfl⟩;have hnx:=V8.out (by unfold yG;dsimp only;rw[if_neg (by decide),if_neg (by decide),if_neg (by decide)]);have hse:jQ s pf=[⟨false,true,T⟩]:=by rw[QR.out,if_neg (by decide),if_pos (.inl rfl),hin,hT]
      rw[hse]at hnx;have HN:=hid hnx;clear hnx hse h13 hin he1
      go_wp2_with fail
      refine(jd.out).mono ?_;rintro e w3 ⟨hr,hB3⟩;rcases hr with⟨_,_,he⟩|⟨hn2,_⟩
      ·rw[qw.out]at he
       unfold jS at he;simp only at he;subst he;have hB4:=hB3.alloc hB3.size (.cells #[.int .i64 4,.int .i64 (pf:Int),.int .i64 (pt:Int),.int .i64 pu,.bool false] 136);have HB4:=hid hB4;have kp:=zf.new w3 #[.int .i64 4,.int .i64 (pf:Int),.int .i64 (pt:Int),.int .i64 pu,.bool false] 136;have hs3:=hB3.size;have xE:=uh Jb.out hB4;have uj:=hid xE;have xN:=yg.out.trans (hB4.mono hsz);have Zt:=hid xN;have hs4:=xN.size;simp at hs4;clear hB3 y9 hB4 xE xN
       go_wp2_with (at_builtin;refine Zq rfl _ _ 116 119 3 24 _ rfl underlying116 qQ rfl (by omega) (by omega) w1.heap.size (.slice xa z xc) z (yE A) rfl (Y7 uj.out _) _ 1 (uY ⟨false,true,T⟩) rfl (QN (x:=⟨false,true,T⟩) (gy _ _ _ _)) rfl (YB _) (by omega) (by simp only[waf];omega) (z+1) rfl ?_;intro xU c2 w6 hown6 ZL wo)
       go_roundw
       case rel=>
        refine⟨pt,_,war,true,by go_num,rfl,rfl,HN.out,?_,?_⟩
        ·rw[jI.empty]
         show w6.ownsRow _ _ _ _ _ _;have e0:pre++fl false h false=A:=HA.out;rw[e0,wam,HZ.out,YA];simpa[yE]using hown6
        ·exact(Zt.out.alloc Zt.out.size _).grown ZL (by simp;omega) (λk hk=>xx uj.out k hk)
       case measure=>simp[intOf];omega
      ·exact absurd ⟨hl,HB.out⟩ hn2
    have c4':((pm:Int)==4)=false:=beq_eq_false_iff_ne.2 (by omega);by_cases c5:pm=5
    ·subst c5
     have hin:=A7 (m:=5) (f:=pf) (t:=pt) (u:=pu) (op:=po) (.inr rfl) hto (λe=>QS.out (by decide) e)
     cases po with
     |true=>
      rw[if_pos rfl]at hin;have r2:IntKind.i64.wrap ((pt:Int)-1)=(pt:Int)-1:=waq _ (by omega);have yU:=hid hin.symm;have hnx:=V8.out (by unfold yG;dsimp only;rw[if_neg (by decide),if_neg (by decide),if_neg (by decide)]);have hse:jQ s pf=DB s (pf+1) (yY ⟨5,pf,pt,pu,true⟩):=by rw[QR.out,if_pos rfl]
      rw[hse]at hnx;have HN:=hid hnx;have hdn:=Uc.out rfl;clear hin;obtain⟨f1,hf1⟩:∃f1,pf+1=f1:=⟨_,rfl⟩;have r1:IntKind.i64.wrap ((pf:Int)+1)=(f1:Int):=by rw[waq _ (by omega)];omega
      have qR:=hid hf1.symm;obtain⟨D,hD⟩:∃D,DB s (pf+1) (yY ⟨5,pf,pt,pu,true⟩)=D:=⟨_,rfl⟩;rw[hD]at hdn;obtain⟨d,hd⟩:∃d,D.length=d:=⟨_,rfl⟩;rw[hd]at hdn;have HD:=hid hD;have uA:=hid hd;have hdl:d<=200000:=by omega
      have AX:f1<=60000:=by omega
      clear hnx hse h13 hdn hf1 hD hd q2
      go_wp2_with fail
      refine(jd.out).mono ?_;rintro e w3 ⟨hr,hB3⟩;rcases hr with⟨_,_,he⟩|⟨hn2,_⟩
      ·rw[qw.out]at he
       unfold jS at he;simp only at he;subst he;have hB4:=hB3.alloc hB3.size (.cells #[.int .i64 5,.int .i64 (pf:Int),.int .i64 (pt:Int),.int .i64 pu,.bool true] 136);have HB4:=hid hB4;have kp:=zf.new w3 #[.int .i64 5,.int .i64 (pf:Int),.int .i64 (pt:Int),.int .i64 pu,.bool true] 136;have hs3:=hB3.size;have xE:=uh Jb.out hB4;have uj:=hid xE;have xN:=yg.out.trans (hB4.mono hsz);have Zt:=hid xN;have hs4:=xN.size;have bT:=hid (Ub.out (by first|rfl|trivial) _ hB4 f1 pt qR.out yU.out);simp at hs4;clear hB3 y9 hB4 xE xN
       go_wp2_with fail
       refine(bT.out).mono ?_;rintro e w5 ⟨v5,rfl,hD5,vP⟩;rw[HD.out]at hD5;obtain⟨ya,yc,rfl⟩:=Xw hD5;unfold uO at hD5;rw[uA.out]at hD5 ⊢;have bU:=hid (Src.Y2 hD5);have Vg:=uh uj.out vP;have JA:=hid Vg;have lQ:=Zt.out.trans (vP.mono Zt.out.size);have bV:=hid lQ;have hs5:=lQ.size;have MZ:(yE D).length=d*3:=by rw[RY,uA.out]
       have bW:=hid MZ;clear hD5 vP Vg lQ MZ
       go_wp2_with (at_builtin;refine Zq rfl _ _ 116 119 3 24 _ rfl underlying116 qQ rfl (by omega) (by omega) w1.heap.size (.slice xa z xc) z (yE A) rfl JA.out (.slice ya d yc) d (yE D) rfl bU.out bW.out (lJ D) (by omega) hs5 (z+d) rfl ?_;intro xU c2 w6 hown6 ZL wo)
       go_roundw
       case rel=>
        refine⟨pt,_,war,true,by go_num,rfl,rfl,HN.out,?_,?_⟩
        ·rw[jI.empty,HD.out]
         show w6.ownsRow _ _ _ _ _ _;have e0:pre++fl false h false=A:=HA.out;rw[e0,wam,HZ.out,uA.out,YA];exact hown6
        ·exact bV.out.grown ZL (by omega) (λk hk=>xx JA.out k hk)
       case measure=>simp[intOf];omega
      ·exact absurd ⟨hl,HB.out⟩ hn2
     |false=>
      rw[if_neg (by decide)]at hin;have h2:=QS.out (by decide) rfl;obtain⟨e1,he1⟩:∃e1,pt-1=e1:=⟨_,rfl⟩;rw[he1]at hin;have r2:IntKind.i64.wrap ((pt:Int)-1)=(e1:Int):=by rw[waq _ (by omega)];omega
      have yU:=hid hin.symm;have hnx:=V8.out (by unfold yG;dsimp only;rw[if_neg (by decide),if_neg (by decide),if_neg (by decide)]);have hse:jQ s pf=DB s (pf+1) (yY ⟨5,pf,pt,pu,false⟩):=by rw[QR.out,if_pos rfl]
      rw[hse]at hnx;have HN:=hid hnx;have hdn:=Uc.out rfl;clear hin he1;obtain⟨f1,hf1⟩:∃f1,pf+1=f1:=⟨_,rfl⟩;have r1:IntKind.i64.wrap ((pf:Int)+1)=(f1:Int):=by rw[waq _ (by omega)];omega
      have qR:=hid hf1.symm;obtain⟨D,hD⟩:∃D,DB s (pf+1) (yY ⟨5,pf,pt,pu,false⟩)=D:=⟨_,rfl⟩;rw[hD]at hdn;obtain⟨d,hd⟩:∃d,D.length=d:=⟨_,rfl⟩;rw[hd]at hdn;have HD:=hid hD;have uA:=hid hd;have hdl:d<=200000:=by omega
      have AX:f1<=60000:=by omega
      clear hnx hse h13 hdn hf1 hD hd q2
      go_wp2_with fail
      refine(jd.out).mono ?_;rintro e w3 ⟨hr,hB3⟩;rcases hr with⟨_,_,he⟩|⟨hn2,_⟩
      ·rw[qw.out]at he
       unfold jS at he;simp only at he;subst he;have hB4:=hB3.alloc hB3.size (.cells #[.int .i64 5,.int .i64 (pf:Int),.int .i64 (pt:Int),.int .i64 pu,.bool false] 136);have HB4:=hid hB4;have kp:=zf.new w3 #[.int .i64 5,.int .i64 (pf:Int),.int .i64 (pt:Int),.int .i64 pu,.bool false] 136;have hs3:=hB3.size;have xE:=uh Jb.out hB4;have uj:=hid xE;have xN:=yg.out.trans (hB4.mono hsz);have Zt:=hid xN;have hs4:=xN.size;have bT:=hid (Ub.out (by first|rfl|trivial) _ hB4 f1 e1 qR.out yU.out);simp at hs4;clear hB3 y9 hB4 xE xN
       go_wp2_with fail
       refine(bT.out).mono ?_;rintro e w5 ⟨v5,rfl,hD5,vP⟩;rw[HD.out]at hD5;obtain⟨ya,yc,rfl⟩:=Xw hD5;unfold uO at hD5;rw[uA.out]at hD5 ⊢;have bU:=hid (Src.Y2 hD5);have Vg:=uh uj.out vP;have JA:=hid Vg;have lQ:=Zt.out.trans (vP.mono Zt.out.size);have bV:=hid lQ;have hs5:=lQ.size;have MZ:(yE D).length=d*3:=by rw[RY,uA.out]
       have bW:=hid MZ;clear hD5 vP Vg lQ MZ
       go_wp2_with (at_builtin;refine Zq rfl _ _ 116 119 3 24 _ rfl underlying116 qQ rfl (by omega) (by omega) w1.heap.size (.slice xa z xc) z (yE A) rfl JA.out (.slice ya d yc) d (yE D) rfl bU.out bW.out (lJ D) (by omega) hs5 (z+d) rfl ?_;intro xU c2 w6 hown6 ZL wo)
       go_roundw
       case rel=>
        refine⟨pt,_,war,true,by go_num,rfl,rfl,HN.out,?_,?_⟩
        ·rw[jI.empty,HD.out]
         show w6.ownsRow _ _ _ _ _ _;have e0:pre++fl false h false=A:=HA.out;rw[e0,wam,HZ.out,uA.out,YA];exact hown6
        ·exact bV.out.grown ZL (by omega) (λk hk=>xx JA.out k hk)
       case measure=>simp[intOf];omega
      ·exact absurd ⟨hl,HB.out⟩ hn2
    have c5':((pm:Int)==5)=false:=beq_eq_false_iff_ne.2 (by omega);have hpe:yG s ⟨pm,pf,pt,pu,po⟩ false=none:=by unfold yG;dsimp only;rw[if_neg c14,if_neg c12,if_neg c13]
    have jT:=hid hpe;have bY:jQ s pf=[⟨true,false,s.extract pf pt⟩]:=by rw[QR.out,if_neg c5,if_neg (by omega)]
    obtain⟨T,hT⟩:∃T,s.extract pf pt=T:=⟨_,rfl⟩;rw[hT]at bY;have HSQ:=hid bY;clear hpe bY;have hnx:=V8.out (by exact jT.out);have hse:jQ s pf=[⟨true,false,T⟩]:=by exact HSQ.out
    rw[hse]at hnx;have HN:=hid hnx;clear hnx hse h13 c14 c12 c13 c4 c5
    go_wp2_with fail
    refine(jd.out).mono ?_;rintro e w3 ⟨hr,hB3⟩;rcases hr with⟨_,_,he⟩|⟨hn2,_⟩
    ·rw[qw.out]at he
     unfold jS at he;simp only at he;subst he;have hB4:=hB3.alloc hB3.size (.cells #[.int .i64 (pm:Int),.int .i64 (pf:Int),.int .i64 (pt:Int),.int .i64 pu,.bool po] 136);have HB4:=hid hB4;have kp:=zf.new w3 #[.int .i64 (pm:Int),.int .i64 (pf:Int),.int .i64 (pt:Int),.int .i64 pu,.bool po] 136;have hs3:=hB3.size;have xE:=uh Jb.out hB4;have uj:=hid xE;have xN:=yg.out.trans (hB4.mono hsz);have Zt:=hid xN;have hs4:=xN.size;simp at hs4;clear hB3 y9 hB4 xE xN
     go_wp2_with (at_builtin;refine Zq rfl _ _ 116 119 3 24 _ rfl underlying116 qQ rfl (by omega) (by omega) w1.heap.size (.slice xa z xc) z (yE A) rfl (Y7 uj.out _) _ 1 (uY ⟨true,false,T⟩) rfl (QN (x:=⟨true,false,T⟩) (gy _ _ _ _)) rfl (YB _) (by omega) (by simp only[waf];omega) (z+1) rfl ?_;intro xU c2 w6 hown6 ZL wo)
     go_roundw
     case rel=>
      refine⟨pt,_,war,true,by go_num,rfl,rfl,HN.out,?_,?_⟩
      ·rw[jI.empty]
       show w6.ownsRow _ _ _ _ _ _;have e0:pre++fl false h false=A:=HA.out;rw[e0,wam,HZ.out,YA];simpa[yE]using hown6
      ·exact(Zt.out.alloc Zt.out.size _).grown ZL (by simp;omega) (λk hk=>xx uj.out k hk)
     case measure=>simp[intOf];omega
    ·exact absurd ⟨hl,HB.out⟩ hn2
  ·obtain rfl:a=s.size:=by omega
   have hd:=hI.eq;rw[OZ (by omega)]at hd;have HD:=hid hd;clear hI hd y9 hlt;go_wp2;go_ret;refine⟨_,rfl,?_,HB1.out.trans (yg.out.mono hsz1)⟩;rw[HD.out];exact HP.out.lower hsz1
end
set_option maxHeartbeats 8000000
theorem zeQ{L:List Pc}{i:Nat}{p:Pc}(h:L[i]?=some p):L.take (i+1)=L.take i++ [p]:=by rw[List.take_add_one,h];rfl
theorem zeR(L:List Pc)(i:Nat):(vW (L.take i)).size<=(vW L).size:=by
 have:=RX (L.take i) (L.drop i);rw[List.take_append_drop]at this;rw[this,ByteArray.size_append];omega
theorem Ud(p:Pc):vW [p]=p.t:=by show p.t++ByteArray.empty=_;rw[ByteArray.append_empty]
theorem zeS(s:ByteArray)(hs:s.size<=60000):(kS s).length<=120001:=by
 have:=MW (s:=s) (zi:=false) (sub:=jQ s) (e:=s.size) (E:=s.size) (uu:=λ_=>True) (Nat.le_refl _) (Nat.le_refl _) (λ_ _ _ _=>trivial) (λa _ hlt hbn=>⟨trivial,(Xt hlt hbn).1⟩) (λa _ hlt hbn=>AZ hlt hbn) s.size 0 ByteArray.empty false trivial (Nat.zero_le _);have e:kS s=rm s false (jQ s) s.size s.size 0 ByteArray.empty false:=rfl;rw[e];omega
def zeT(L:List Pc)(n:Nat)(w:World)(v4 v5:Value)(wr:World):Prop:=∃i:Nat,i<=n/\v5=.int .i64 (i:Int)/\v4=.string (vW (L.take i))/\wr=w
section
variable(w:World)
theorem zeU(s:ByteArray)(hs:s.size<=60000):
  Calls Tryz.prog 97 #[.string s] w λe w'=>e=.returned (.string (vW (kS s)))/\Below w.heap.size w w':=by
 have htot:=Ue s;have hcap:=zeS s hs;have hps:=zeO w s hs;obtain⟨L,hL⟩:∃L,kS s=L:=⟨_,rfl⟩;rw[hL]at hps htot hcap ⊢;have HPS:=Lib.hid hps;clear hps hL;go_enter Tryz.func97,Tryz.ntmps97
 go_wp2_with fail
 refine(HPS.out).mono ?_;rintro e w1 ⟨v,rfl,hP,hB⟩;obtain⟨oa,n,oc,rfl,y9⟩:=hP.read;have Uf:=Lib.hid y9;have hnl:n<=120001:=by have:=y9.len;omega
 clear hP y9;go_wp2
 go_loopw [4,5] (λv4 v5 wr=>zeT L n w1 v4 v5 wr) (λ_ v _=>n-(intOf v).toNat)
 case atStart=>exact⟨0,Nat.zero_le _,rfl,rfl,rfl⟩
 case round=>
  obtain⟨i,hi,rfl,rfl,rfl⟩:=hrel;by_cases hlt:(i:Int)<(n:Int)
  ·have hlt':i<n:=by omega
   have q0:(0:Int)<=(i:Int):=by omega
   obtain⟨ob,p,rfl,hp,_,a0,a1,a2⟩:=Uf.out.get hlt';have hsu:=zeQ hp;have hle:=zeR L (i+1);rw[hsu,RX,Ud]at hle;have hz:=ByteArray.size_append (a:=vW (L.take i)) (b:=p.t);obtain⟨X,hX⟩:∃X,vW (L.take i)=X:=⟨_,rfl⟩;have SX:vW (L.take (i+1))=X++p.t:=by rw[hsu,RX,Ud,hX]
   rw[hX]at hle hz ⊢;obtain⟨T,hT⟩:∃T,p.t=T:=⟨_,rfl⟩;rw[hT]at hle hz a2 SX;obtain⟨Y,hY⟩:∃Y,X++T=Y:=⟨_,rfl⟩;rw[hY]at hle hz SX;have HSU:=Lib.hid SX;have hYz:Y.size<=60000:=by omega
   have hsum:X.size+T.size<=60000:=by omega
   clear hsu hle hz SX hX hp hT htot;go_wp2
   go_roundw
   case rel=>exact⟨i+1,by omega,by go_num,by rw[HSU.out],rfl⟩
   case measure=>simp[intOf];omega
  ·obtain rfl:i=n:=by omega
   have hall:L.take i=L:=List.take_of_length_le (by rw[Uf.out.len];exact Nat.le_refl _);rw[hall];clear hall htot;go_wp2;go_ret;exact⟨rfl,hB⟩
end
end Go.Proofs.YtkolpaonccmgiaaGreatDoor

/- What the document's own Double of layer 8 (literal -/
import Derived.Test.YtdjcidackkogjaaGreatDoorLtR
namespace Go.Proofs.YtdjcidackkogjaaGreatDoor
set_option linter.unusedSectionVars false
set_option linter.unusedVariables false
open Lib(hid)
set_option maxHeartbeats 16000000
set_option maxRecDepth 100000
open Go.RowKit
theorem D8{x:ByteArray}(h:x.size=0):x.toList=[]:=by
 rw[Go.ByteArray.toList_eq];have:x=ByteArray.empty:=ByteArray.ext (Array.eq_empty_of_size_eq_zero h);subst this;rfl
theorem D9{x:ByteArray}(h:x.size≠0):¬x.toList=[]:=by
 intro e;have h1:=Go.ByteArray.toList_eq x;rw[e]at h1;have h2:x.data.toList.length=0:=by rw[←h1];rfl
 rw[Array.length_toList]at h2;exact h h2
theorem sJ{x:ByteArray}(h:x.size=0):x.toList.isEmpty=true:=by rw[D8 h];rfl
theorem sK{x:ByteArray}(h:x.size≠0):x.toList.isEmpty=false:=by
 cases g:x.toList.isEmpty with
 |false=>rfl
 |true=>exact absurd (List.isEmpty_iff.1 g) (D9 h)
theorem VW(W:World)(o:Obj)(cs:Array Value)(ty:TypeId):zh ((W.alloc o).alloc (.cells cs ty)) (W.heap.size+1) cs ty:=by
 have:=zh.new (W.alloc o) cs ty
 rwa [World.size_alloc]at this
structure ZW(s:ByteArray)(f a:Nat)(A:List Pc)(h:ByteArray):Prop where
 dq:VX s f a
 le:a≤s.size
 eq:DB s (f+1) (yG (prt s f))=A++Rm s true (Y4 s) (yG (prt s f)) a h A.isEmpty
 hz:h.size≤a
 az:A.length≤2*a
section
variable{s:ByteArray}{f:Nat}(hf:f<s.size)(hb:born s f=true)(hm:(prt s f).mode=5)
include hf hb hm
theorem ZW.start:ZW s f (f+1) [] ByteArray.empty:=by
 obtain⟨h1,h2,h3,_⟩:=X8 hf hb hm;exact⟨h3,by omega,rfl,Nat.zero_le _,Nat.zero_le _⟩
theorem ZW.lt{a:Nat}{A:List Pc}{h:ByteArray}(I:ZW s f a A h)(ha:a<yG (prt s f)):a<s.size:=by
 have:=(X8 hf hb hm).1;omega
variable{a:Nat}{A:List Pc}{h:ByteArray}(I:ZW s f a A h)(ha:a<yG (prt s f))
include I ha
theorem ZW.plain(hB:born s a=false):ZW s f (a+1) A (h++s.extract a (a+1)):=by
 have hl:=I.lt hf hb hm ha;refine⟨(Lc hf hb hm).1 a I.dq ha hB,by omega,?_,?_,by have:=I.az;omega⟩
 ·rw[I.eq,Tq (X8 hf hb hm).1 ha hB]
 ·rw[ByteArray.size_append,vk (by omega)]
  have:=I.hz;omega
theorem ZW.self(hB:born s a=true){t:ByteArray}(ht:yf s (prt s a) true=some t):ZW s f (prt s a).to A (h++t):=by
 have hl:=I.lt hf hb hm ha;have hg:=uV hB hl;refine⟨((Lc hf hb hm).2 a I.dq ha hB).1,(Zo hl hB).1,?_,?_,by have:=I.az;omega⟩
 ·rw[I.eq,Tu (X8 hf hb hm).1 ha hB ht]
 ·rw[ByteArray.size_append]
  have:=sN ht;rw[qH]at this;have:=I.hz;omega
theorem ZW.sub(hB:born s a=true)(ht:yf s (prt s a) true=none):ZW s f (prt s a).to (A++fl true h false++ [⟨true,true,s.extract a (prt s a).to⟩]) ByteArray.empty:=by
 have hl:=I.lt hf hb hm ha;have hg:=uV hB hl;refine⟨((Lc hf hb hm).2 a I.dq ha hB).1,(Zo hl hB).1,?_,Nat.zero_le _,?_⟩
 ·rw[I.eq,Tv (X8 hf hb hm).1 ha hB ht]
  have:(A++fl true h false++ [(⟨true,true,s.extract a (prt s a).to⟩:Pc)]).isEmpty=false:=by
   rw[List.isEmpty_eq_false_iff];simp
  rw[this,List.append_assoc,List.append_assoc];rfl
 ·have:=I.az
  rw[List.length_append,List.length_append];have:(fl true h false).length≤1:=by unfold fl;split<;>simp
  simp only[List.length_cons,List.length_nil];omega
theorem ZW.modes(hB:born s a=true):(prt s a).mode≠4∧(prt s a).mode≠5∧(prt s a).mode≠14:=(fM (I.dq.2 ha) (I.lt hf hb hm ha) ((X8 hf hb hm).2.2.2 a I.dq ha) hB).2
end
def zcO(s:ByteArray)(f:Nat)(w:World)(v9 v10 v11:Value)(wr:World):Prop:=∃(a:Nat) (A:List Pc) (h:ByteArray),v11=.int .i64 (a:Int)∧v10=.string h∧ZW s f a A h∧vw wr w.heap.size v9 A∧Below w.heap.size w wr
section
variable(w:World)
theorem zcP(s:ByteArray)(hs:s.size≤60000)(f:Nat)(hf:f<s.size)(hb:born s f=true)(hm:(prt s f).mode=5)(oa:Option Addr)(n oc:Nat)(hR:Xa w oa n (PL s))(hn:n≤60000)(f1 e1:Nat)(hf1:f1=f+1)(he1:e1=yG (prt s f)):
  Calls Tryz.prog 85 #[.string s,.slice oa n oc,.int .i64 (f1:Int),.int .i64 (e1:Int)] w λe w'=>∃v,e=.returned v∧vw w' w.heap.size v (DB s (f+1) (yG (prt s f)))∧Below w.heap.size w w':=by
 have hins:=(X8 hf hb hm).1;have hst:=ZW.start hf hb hm;have HR:=hid hR;have uY:=hid hf1;have uZ:=hid he1;have zmu:e1≤60000:=by omega
 have FC:f1≤60000:=by omega
 clear hR hf1 he1 hins;go_enter Tryz.func85,Tryz.ntmps85;go_wp2
 go_loopw [9,10,11] (λv9 v10 v11 wr=>zcO s f w v9 v10 v11 wr) (λ_ _ v _=>e1-(intOf v).toNat)
 case atStart=>exact⟨f1,[],_,rfl,rfl,by rw[uY.out];exact hst,World.ownsRow_nil _ _ _ _,Below.refl _ _⟩
 case round=>
  obtain⟨a,A,h,rfl,rfl,hI,hP,hB⟩:=hrel;have yu:=HR.out.below hB;have hsz:=hB.size;have hhz:=hI.hz;have haz:=hI.az;have zcQ:=hI.le;obtain⟨xa,xc,rfl⟩:=Zt hP;obtain⟨z,hz⟩:∃z,A.length=z:=⟨_,rfl⟩;rw[hz]at hP ⊢;have Ld:wr.ownsRow w.heap.size 133 3 (.slice xa z xc) z (zZ A):=by have:=hP;unfold vw at this;rw[hz]at this;exact this
  have YH:=hid Ld;clear Ld;have HP:=hid hP;by_cases hlt:(a:Int)<(e1:Int)
  ·have hlt':a<yG (prt s f):=by have:=uZ.out;omega
   have hl:=hI.lt hf hb hm hlt';have hfi:=Fq wr s oa n oc a yu hn (by omega);have vS:=hid hfi;have q0:(0:Int)≤(a:Int):=by omega
   have q1:(a:Int)+1≤(s.size:Int):=by omega
   have q2:IntKind.i64.wrap ((a:Int)+1)=(a:Int)+1:=IntWalk.i64_in _ (by omega);have q3:(a:Int)≤(a:Int)+1:=by omega
   have q4:IntKind.i64.wrap ((a:Int)+2)=(a:Int)+2:=IntWalk.i64_in _ (by omega);clear hfi
   cases hBn:born s a with
   |false=>
    have hnx:=hI.plain hf hb hm hlt' hBn;have vz:=vk (s:=s) (a:=a) (b:=a+1) (by omega);obtain⟨T,hT⟩:∃T,s.extract a (a+1)=T:=⟨_,rfl⟩;rw[hT]at hnx vz;have hnz:=ByteArray.size_append (a:=h) (b:=T);obtain⟨X,hX⟩:∃X,h++T=X:=⟨_,rfl⟩;rw[hX]at hnx hnz;have HN:=hid hnx;have HB:=hid hBn;have qY:X.size≤120000:=by omega
    have hsum:h.size+T.size≤120000:=by omega
    have yg:=hid hB;have HZ:=hid hz;clear hI hnx hnz hP hBn vz hst hB hz
    go_wp2_with fail
    refine(vS.out).mono ?_;rintro e w3 ⟨hr,hB3⟩;rcases hr with⟨_,hb2,_⟩|⟨_,rfl⟩
    ·rw[HB.out]at hb2;cases hb2
    have HB3:=hid hB3;clear hB3 yu;go_wp2
    go_roundw
    case rel=>exact⟨a+1,A,X,by go_num,rfl,HN.out,(HP.out.below HB3.out).below ((Below.refl w3.heap.size w3).alloc (Nat.le_refl _) _),(yg.out.trans (HB3.out.mono hsz)).alloc (by have:=HB3.out.size;omega) _⟩
    case measure=>simp[intOf];omega
   |true=>
    have hto:=uV hBn hl;have hle:=(Zo hl hBn).1;have hmo:=hI.modes hf hb hm hlt' hBn;have hself:=λt=>hI.self hf hb hm hlt' hBn (t:=t);have hsub:=hI.sub hf hb hm hlt' hBn;have hfr:=qH s a;have h13:(prt s a).mode=13→(prt s a).to=if a+1=s.size then s.size else a+2:=λe=>Tt hBn hl e
    obtain⟨p,hp⟩:∃p,prt s a=p:=⟨_,rfl⟩;rw[hp]at hto hle hmo hself hsub hfr h13;obtain⟨pm,pf,pt,pu,po⟩:=p;simp only at hto hle hmo hself hsub hfr h13;subst hfr;have HB:=hid hBn;have uM:=hid hp;have Yh:=hid hself;have YD:=hid hsub;have yg:=hid hB;have HZ:=hid hz;clear hI hself hsub hBn hp hP hst hB hz;have c0:((1:Int)==0)=false:=rfl;by_cases c12:pm=12
    ·subst c12
     by_cases ct:pt=pf+1
     ·subst ct
      have hnx:=Yh.out (s.extract pf (pf+1)) (by unfold yf;dsimp only;rw[if_neg (by decide),if_pos rfl,if_pos rfl]);have vz:=vk (s:=s) (a:=pf) (b:=pf+1) (by omega);obtain⟨T,hT⟩:∃T,s.extract pf (pf+1)=T:=⟨_,rfl⟩;rw[hT]at hnx vz;have hnz:=ByteArray.size_append (a:=h) (b:=T);obtain⟨X,hX⟩:∃X,h++T=X:=⟨_,rfl⟩;rw[hX]at hnx hnz;have HN:=hid hnx;have qY:X.size≤120000:=by omega
      have hsum:h.size+T.size≤120000:=by omega
      clear hnx hnz vz h13 hmo
      go_wp2_with fail
      refine(vS.out).mono ?_;rintro e w3 ⟨hr,hB3⟩;rcases hr with⟨_,_,he⟩|⟨hn2,_⟩
      ·rw[uM.out]at he
       unfold uz at he;simp only at he;subst he;have HB3:=hid hB3;clear hB3 yu;go_wp2
       go_roundw
       case rel=>exact⟨pf+1,A,X,by go_num,rfl,HN.out,(HP.out.below HB3.out).below ((Below.refl w3.heap.size w3).alloc (Nat.le_refl _) _),(yg.out.trans (HB3.out.mono hsz)).alloc (by have:=HB3.out.size;omega) _⟩
       case measure=>simp[intOf];omega
      ·exact absurd ⟨hl,HB.out⟩ hn2
     ·have t1:((pt:Int)==(pf:Int)+1)=false:=beq_eq_false_iff_ne.2 (by omega)
      have hnx:=YD.out (by unfold yf;dsimp only;rw[if_neg (by decide),if_pos rfl,if_neg ct]);obtain⟨T,hT⟩:∃T,s.extract pf pt=T:=⟨_,rfl⟩;rw[hT]at hnx;by_cases hh0:h.size=0
      ·have hfl:fl true h false=[]:=by unfold fl;rw[if_pos ⟨hh0,rfl⟩]
       rw[hfl,List.append_nil]at hnx;have HN:=hid hnx;have d1:=D8 hh0;have d2:=sJ hh0;have hza:z≤200000:=by have:=HZ.out;omega
       clear hnx h13 hmo hfl hh0 ct
       go_wp2_with fail
       refine(vS.out).mono ?_;rintro e w3 ⟨hr,hB3⟩;rcases hr with⟨_,_,he⟩|⟨hn2,_⟩
       ·rw[uM.out]at he
        unfold uz at he;simp only at he;subst he;have HB3:=hid hB3;have hB4:=(hB3.trans ((Below.refl w3.heap.size w3).alloc (Nat.le_refl _) (.cells #[.int .i64 12,.int .i64 (pf:Int),.int .i64 (pt:Int),.int .i64 pu,.bool po] 142)|>.mono hB3.size));have yU:=(HP.out.below hB4);have yY:=yg.out.trans (hB4.mono hsz);unfold vw at yU;rw[HZ.out]at yU;have xN:=hid yU;have hs4:=yY.size;simp at hs4;have kp:=zh.new w3 #[.int .i64 12,.int .i64 (pf:Int),.int .i64 (pt:Int),.int .i64 pu,.bool po] 142;have hs3:=hB3.size;have hne:∀k,(Value.slice xa z xc).ownBlock=some k→k<wr.heap.size:=λk hk=>ji YH.out k hk;clear hB3 yu yU
        go_wp2_with (at_builtin;refine jh rfl _ _ 130 133 3 24 _ rfl Tryz.underlying130 uX rfl (by omega) (by omega) w.heap.size (.slice xa z xc) z (zZ A) rfl (jS xN.out _) _ 1 (vK ⟨true,true,T⟩) rfl (X6 (x:=⟨true,true,T⟩) (VW _ _ _ _)) rfl (kE _) (by omega) (by simp only[World.size_alloc];omega) (z+1) rfl ?_;intro xq c2 w5 hown5 hgr5 hg5;have k5:=(kp.alloc (.cells #[.bool true,.bool true,.string T] 133)).grown hgr5 (λe=>by have:=hne _ e.symm;omega);have sO:=k5.cell 2)
        go_roundw
        case rel=>
         refine⟨pt,_,ByteArray.empty,by go_num,rfl,HN.out,?_,?_⟩
         ·show w5.ownsRow _ _ _ _ _ _
          rw[List.length_append,HZ.out,kD];simpa[zZ]using hown5
         ·exact(yY.alloc yY.size _).grown hgr5 (by simp;omega) (λk hk=>yH xN.out k hk)
        case measure=>simp[intOf];omega
       ·exact absurd ⟨hl,HB.out⟩ hn2
      ·have hfl:fl true h false=[⟨false,true,h⟩]:=by unfold fl;rw[if_neg (λg=>hh0 g.1)]
       rw[hfl]at hnx;have HN:=hid hnx;have d1:=D9 hh0;have d2:=sK hh0;have hza:z≤200000:=by have:=HZ.out;omega
       clear hnx h13 hmo hfl hh0 ct
       go_wp2_with fail
       refine(vS.out).mono ?_;rintro e w3 ⟨hr,hB3⟩;rcases hr with⟨_,_,he⟩|⟨hn2,_⟩
       ·rw[uM.out]at he
        unfold uz at he;simp only at he;subst he;have HB3:=hid hB3;have hB4:=(hB3.trans ((Below.refl w3.heap.size w3).alloc (Nat.le_refl _) (.cells #[.int .i64 12,.int .i64 (pf:Int),.int .i64 (pt:Int),.int .i64 pu,.bool po] 142)|>.mono hB3.size));have kp:=zh.new w3 #[.int .i64 12,.int .i64 (pf:Int),.int .i64 (pt:Int),.int .i64 pu,.bool po] 142;have yU:=(HP.out.below hB4);have yY:=yg.out.trans (hB4.mono hsz);unfold vw at yU;rw[HZ.out]at yU;have xN:=hid yU;have hs4:=yY.size;have hs3:=hB3.size;simp at hs4;have hne:∀k,(Value.slice xa z xc).ownBlock=some k→k<wr.heap.size:=λk hk=>ji YH.out k hk;clear hB3 yu yU
        go_wp2_with (at_builtin;first
         |(refine jh rfl _ _ 130 133 3 24 _ rfl Tryz.underlying130 uX rfl (by omega) (by omega) w.heap.size (.slice xa z xc) z (zZ A) rfl (jS xN.out _) _ 1 (vK ⟨false,true,h⟩) rfl (X6 (x:=⟨false,true,h⟩) (VW _ _ _ _)) rfl (kE _) (by omega) (by simp only[World.size_alloc];omega) (z+1) rfl ?_;intro xq c2 w5 hown5 hgr5 hg5;have yA:=(yY.alloc yY.size (.cells #[.bool false,.bool true,.string h] 133)).grown hgr5 (by simp;omega) (λk hk=>yH xN.out k hk);have k5:=(kp.alloc (.cells #[.bool false,.bool true,.string h] 133)).grown hgr5 (λe=>by have:=hne _ e.symm;omega);have k50:=k5.cell 0;have k51:=k5.cell 1;have sO:=k5.cell 2;have hs5:=yA.size)
         |(refine jh rfl _ _ 130 133 3 24 _ rfl Tryz.underlying130 uX rfl (by omega) (by omega) w.heap.size (.slice xq (z+1) c2) (z+1) (zZ A++vK ⟨false,true,h⟩) rfl (jS hown5 _) _ 1 (vK ⟨true,true,T⟩) rfl (QQ _ ⟨true,true,T⟩) rfl (kE _) (by omega) (by simp only[World.size_alloc];omega) (z+1+1) rfl ?_;intro oa6 c6 w6 hown6 qi VY;have k6:=(k5.alloc (.cells #[.bool true,.bool true,.string T] 133)).grown qi (λe=>by rcases hg5 with g|g;(have:=hne _ (g.symm.trans e.symm);omega);(rw[←e]at g;simp only[World.size_alloc,Option.some.injEq]at g;omega));have k62:=k6.cell 2))
        go_roundw
        case rel=>
         refine⟨pt,_,ByteArray.empty,by go_num,rfl,HN.out,?_,?_⟩
         ·show w6.ownsRow _ _ _ _ _ _
          rw[List.length_append,List.length_append,HZ.out,kD,kD];simpa[zZ]using hown6
         ·exact(yA.alloc yA.size _).grown qi (by simp;omega) (λk hk=>yH hown5 k hk)
        case measure=>simp[intOf];omega
       ·exact absurd ⟨hl,HB.out⟩ hn2
    have zcR:((pm:Int)==12)=false:=beq_eq_false_iff_ne.2 (by omega);by_cases c13:pm=13
    ·subst c13
     by_cases hend:pf+1=s.size
     ·have hpt:pt=s.size:=by rw[h13 rfl,if_pos hend]
      have t2:((pt:Int)==(pf:Int)+2)=false:=beq_eq_false_iff_ne.2 (by omega);have Le:pt=pf+1:=by omega
      have hpe:yf s ⟨13,pf,pt,pu,po⟩ true=some ByteArray.empty:=by unfold yf;dsimp only;rw[if_neg (by decide),if_neg (by decide),if_pos rfl,if_pos (.inl Le)]
      have uA:=hid hpe;clear hpt Le hpe hend;have hnx:=Yh.out ByteArray.empty (by exact uA.out);rw[ByteArray.append_empty]at hnx;have HN:=hid hnx;clear hnx h13 hmo
      go_wp2_with fail
      refine(vS.out).mono ?_;rintro e w3 ⟨hr,hB3⟩;rcases hr with⟨_,_,he⟩|⟨hn2,_⟩
      ·rw[uM.out]at he
       unfold uz at he;simp only at he;subst he;have HB3:=hid hB3;clear hB3 yu;go_wp2
       go_roundw
       case rel=>exact⟨pt,A,h,by go_num,rfl,HN.out,(HP.out.below HB3.out).below ((Below.refl w3.heap.size w3).alloc (Nat.le_refl _) _),(yg.out.trans (HB3.out.mono hsz)).alloc (by have:=HB3.out.size;omega) _⟩
       case measure=>simp[intOf];omega
      ·exact absurd ⟨hl,HB.out⟩ hn2
     ·have hpt:pt=pf+2:=by rw[h13 rfl,if_neg hend]
      subst hpt;have t2:((pf+2:Nat):Int)=(pf:Int)+2:=by omega
      obtain⟨b,hby⟩:∃b,by8 s (pf+1)=b:=⟨_,rfl⟩;have hbl:b<256:=hby▸QE s _;have hix:∀hh:pf+1<s.size,(s[pf+1]'hh).toNat=b:=λhh=>by rw[←hby];unfold by8;rw[yx hh]
      have hne1:¬(pf+2=pf+1):=by omega
      have q5:(pf:Int)+1<(s.size:Int):=by omega
      have q6:(pf:Int)+2≤(s.size:Int):=by omega
      have q7:(pf:Int)+1≤(pf:Int)+2:=by omega
      have q8:(pf:Int)≤(pf:Int)+2:=by omega
      have q9:(0:Int)≤(pf:Int)+1:=by omega
      by_cases b10:b=10
      ·have hpe:yf s ⟨13,pf,pf+2,pu,po⟩ true=some ByteArray.empty:=by unfold yf;dsimp only;rw[if_neg (by decide),if_neg (by decide),if_pos rfl,if_pos (.inr (hby.trans b10))]
       have uA:=hid hpe;subst b10;clear hpe hby hne1 hend;have hnx:=Yh.out ByteArray.empty (by exact uA.out);rw[ByteArray.append_empty]at hnx;have HN:=hid hnx;clear hnx h13 hmo
       go_wp2_with fail
       refine(vS.out).mono ?_;rintro e w3 ⟨hr,hB3⟩;rcases hr with⟨_,_,he⟩|⟨hn2,_⟩
       ·rw[uM.out]at he
        unfold uz at he;simp only at he;subst he;have HB3:=hid hB3;clear hB3 yu;go_wp2
        go_roundw
        case rel=>exact⟨pf+2,A,h,by go_num,rfl,HN.out,(HP.out.below HB3.out).below ((Below.refl w3.heap.size w3).alloc (Nat.le_refl _) _),(yg.out.trans (HB3.out.mono hsz)).alloc (by have:=HB3.out.size;omega) _⟩
        case measure=>simp[intOf];omega
       ·exact absurd ⟨hl,HB.out⟩ hn2
      ·have hor:¬(pf+2=pf+1∨by8 s (pf+1)=10):=by omega
       by_cases bq:b=36∨b=96∨b=34∨b=92
       ·have hpe:yf s ⟨13,pf,pf+2,pu,po⟩ true=some (s.extract (pf+1) (pf+2)):=by
         unfold yf;dsimp only;rw[if_neg (by decide),if_neg (by decide),if_pos rfl,if_neg hor,if_neg (by decide)];simp only[hby];rw[if_pos bq]
        have uA:=hid hpe;clear hpe hby hor b10 hne1 hend;rcases bq with rfl|rfl|rfl|rfl
        ·skip
         have hnx:=Yh.out (s.extract (pf+1) (pf+2)) (by exact uA.out);have vz:=vk (s:=s) (a:=pf+1) (b:=pf+2) (by omega);obtain⟨T,hT⟩:∃T,s.extract (pf+1) (pf+2)=T:=⟨_,rfl⟩;rw[hT]at hnx vz;have hnz:=ByteArray.size_append (a:=h) (b:=T);obtain⟨X,hX⟩:∃X,h++T=X:=⟨_,rfl⟩;rw[hX]at hnx hnz;have HN:=hid hnx;have qY:X.size≤120000:=by omega
         have hsum:h.size+T.size≤120000:=by omega
         clear hnx hnz vz h13 hmo
         go_wp2_with fail
         refine(vS.out).mono ?_;rintro e w3 ⟨hr,hB3⟩;rcases hr with⟨_,_,he⟩|⟨hn2,_⟩
         ·rw[uM.out]at he
          unfold uz at he;simp only at he;subst he;have HB3:=hid hB3;clear hB3 yu;go_wp2
          go_roundw
          case rel=>exact⟨pf+2,A,X,by go_num,rfl,HN.out,(HP.out.below HB3.out).below ((Below.refl w3.heap.size w3).alloc (Nat.le_refl _) _),(yg.out.trans (HB3.out.mono hsz)).alloc (by have:=HB3.out.size;omega) _⟩
          case measure=>simp[intOf];omega
         ·exact absurd ⟨hl,HB.out⟩ hn2
        ·skip
         have hnx:=Yh.out (s.extract (pf+1) (pf+2)) (by exact uA.out);have vz:=vk (s:=s) (a:=pf+1) (b:=pf+2) (by omega);obtain⟨T,hT⟩:∃T,s.extract (pf+1) (pf+2)=T:=⟨_,rfl⟩;rw[hT]at hnx vz;have hnz:=ByteArray.size_append (a:=h) (b:=T);obtain⟨X,hX⟩:∃X,h++T=X:=⟨_,rfl⟩;rw[hX]at hnx hnz;have HN:=hid hnx;have qY:X.size≤120000:=by omega
         have hsum:h.size+T.size≤120000:=by omega
         clear hnx hnz vz h13 hmo
         go_wp2_with fail
         refine(vS.out).mono ?_;rintro e w3 ⟨hr,hB3⟩;rcases hr with⟨_,_,he⟩|⟨hn2,_⟩
         ·rw[uM.out]at he
          unfold uz at he;simp only at he;subst he;have HB3:=hid hB3;clear hB3 yu;go_wp2
          go_roundw
          case rel=>exact⟨pf+2,A,X,by go_num,rfl,HN.out,(HP.out.below HB3.out).below ((Below.refl w3.heap.size w3).alloc (Nat.le_refl _) _),(yg.out.trans (HB3.out.mono hsz)).alloc (by have:=HB3.out.size;omega) _⟩
          case measure=>simp[intOf];omega
         ·exact absurd ⟨hl,HB.out⟩ hn2
        ·skip
         have hnx:=Yh.out (s.extract (pf+1) (pf+2)) (by exact uA.out);have vz:=vk (s:=s) (a:=pf+1) (b:=pf+2) (by omega);obtain⟨T,hT⟩:∃T,s.extract (pf+1) (pf+2)=T:=⟨_,rfl⟩;rw[hT]at hnx vz;have hnz:=ByteArray.size_append (a:=h) (b:=T);obtain⟨X,hX⟩:∃X,h++T=X:=⟨_,rfl⟩;rw[hX]at hnx hnz;have HN:=hid hnx;have qY:X.size≤120000:=by omega
         have hsum:h.size+T.size≤120000:=by omega
         clear hnx hnz vz h13 hmo
         go_wp2_with fail
         refine(vS.out).mono ?_;rintro e w3 ⟨hr,hB3⟩;rcases hr with⟨_,_,he⟩|⟨hn2,_⟩
         ·rw[uM.out]at he
          unfold uz at he;simp only at he;subst he;have HB3:=hid hB3;clear hB3 yu;go_wp2
          go_roundw
          case rel=>exact⟨pf+2,A,X,by go_num,rfl,HN.out,(HP.out.below HB3.out).below ((Below.refl w3.heap.size w3).alloc (Nat.le_refl _) _),(yg.out.trans (HB3.out.mono hsz)).alloc (by have:=HB3.out.size;omega) _⟩
          case measure=>simp[intOf];omega
         ·exact absurd ⟨hl,HB.out⟩ hn2
        ·skip
         have hnx:=Yh.out (s.extract (pf+1) (pf+2)) (by exact uA.out);have vz:=vk (s:=s) (a:=pf+1) (b:=pf+2) (by omega);obtain⟨T,hT⟩:∃T,s.extract (pf+1) (pf+2)=T:=⟨_,rfl⟩;rw[hT]at hnx vz;have hnz:=ByteArray.size_append (a:=h) (b:=T);obtain⟨X,hX⟩:∃X,h++T=X:=⟨_,rfl⟩;rw[hX]at hnx hnz;have HN:=hid hnx;have qY:X.size≤120000:=by omega
         have hsum:h.size+T.size≤120000:=by omega
         clear hnx hnz vz h13 hmo
         go_wp2_with fail
         refine(vS.out).mono ?_;rintro e w3 ⟨hr,hB3⟩;rcases hr with⟨_,_,he⟩|⟨hn2,_⟩
         ·rw[uM.out]at he
          unfold uz at he;simp only at he;subst he;have HB3:=hid hB3;clear hB3 yu;go_wp2
          go_roundw
          case rel=>exact⟨pf+2,A,X,by go_num,rfl,HN.out,(HP.out.below HB3.out).below ((Below.refl w3.heap.size w3).alloc (Nat.le_refl _) _),(yg.out.trans (HB3.out.mono hsz)).alloc (by have:=HB3.out.size;omega) _⟩
          case measure=>simp[intOf];omega
         ·exact absurd ⟨hl,HB.out⟩ hn2
       ·have hpe:yf s ⟨13,pf,pf+2,pu,po⟩ true=some (s.extract pf (pf+2)):=by
         unfold yf;dsimp only;rw[if_neg (by decide),if_neg (by decide),if_pos rfl,if_neg hor,if_neg (by decide)];simp only[hby];rw[if_neg bq]
        have uA:=hid hpe;have b1:((b:Int)==36)=false:=beq_eq_false_iff_ne.2 (by omega);have b2:((b:Int)==96)=false:=beq_eq_false_iff_ne.2 (by omega);have b3:((b:Int)==34)=false:=beq_eq_false_iff_ne.2 (by omega);have b4:((b:Int)==92)=false:=beq_eq_false_iff_ne.2 (by omega);have b5:((b:Int)==10)=false:=beq_eq_false_iff_ne.2 (by omega);clear hpe hby hor b10 hne1 hend bq;have hnx:=Yh.out (s.extract pf (pf+2)) (by exact uA.out);have vz:=vk (s:=s) (a:=pf) (b:=pf+2) (by omega);obtain⟨T,hT⟩:∃T,s.extract (pf) (pf+2)=T:=⟨_,rfl⟩;rw[hT]at hnx vz;have hnz:=ByteArray.size_append (a:=h) (b:=T);obtain⟨X,hX⟩:∃X,h++T=X:=⟨_,rfl⟩;rw[hX]at hnx hnz;have HN:=hid hnx;have qY:X.size≤120000:=by omega
        have hsum:h.size+T.size≤120000:=by omega
        clear hnx hnz vz h13 hmo
        go_wp2_with fail
        refine(vS.out).mono ?_;rintro e w3 ⟨hr,hB3⟩;rcases hr with⟨_,_,he⟩|⟨hn2,_⟩
        ·rw[uM.out]at he
         unfold uz at he;simp only at he;subst he;have HB3:=hid hB3;clear hB3 yu;go_wp2
         go_roundw
         case rel=>exact⟨pf+2,A,X,by go_num,rfl,HN.out,(HP.out.below HB3.out).below ((Below.refl w3.heap.size w3).alloc (Nat.le_refl _) _),(yg.out.trans (HB3.out.mono hsz)).alloc (by have:=HB3.out.size;omega) _⟩
         case measure=>simp[intOf];omega
        ·exact absurd ⟨hl,HB.out⟩ hn2
    ·have zcS:((pm:Int)==13)=false:=beq_eq_false_iff_ne.2 (by omega)
     have hpe:yf s ⟨pm,pf,pt,pu,po⟩ true=none:=by unfold yf;dsimp only;rw[if_neg hmo.2.2,if_neg c12,if_neg c13]
     have uA:=hid hpe;clear hpe;have hnx:=YD.out (by exact uA.out);obtain⟨T,hT⟩:∃T,s.extract pf pt=T:=⟨_,rfl⟩;rw[hT]at hnx;by_cases hh0:h.size=0
     ·have hfl:fl true h false=[]:=by unfold fl;rw[if_pos ⟨hh0,rfl⟩]
      rw[hfl,List.append_nil]at hnx;have HN:=hid hnx;have d1:=D8 hh0;have d2:=sJ hh0;have hza:z≤200000:=by have:=HZ.out;omega
      clear hnx h13 hmo hfl hh0 c12 c13
      go_wp2_with fail
      refine(vS.out).mono ?_;rintro e w3 ⟨hr,hB3⟩;rcases hr with⟨_,_,he⟩|⟨hn2,_⟩
      ·rw[uM.out]at he
       unfold uz at he;simp only at he;subst he;have HB3:=hid hB3;have hB4:=(hB3.trans ((Below.refl w3.heap.size w3).alloc (Nat.le_refl _) (.cells #[.int .i64 (pm:Int),.int .i64 (pf:Int),.int .i64 (pt:Int),.int .i64 pu,.bool po] 142)|>.mono hB3.size));have yU:=(HP.out.below hB4);have yY:=yg.out.trans (hB4.mono hsz);unfold vw at yU;rw[HZ.out]at yU;have xN:=hid yU;have hs4:=yY.size;simp at hs4;have kp:=zh.new w3 #[.int .i64 (pm:Int),.int .i64 (pf:Int),.int .i64 (pt:Int),.int .i64 pu,.bool po] 142;have hs3:=hB3.size;have hne:∀k,(Value.slice xa z xc).ownBlock=some k→k<wr.heap.size:=λk hk=>ji YH.out k hk;clear hB3 yu yU
       go_wp2_with (at_builtin;refine jh rfl _ _ 130 133 3 24 _ rfl Tryz.underlying130 uX rfl (by omega) (by omega) w.heap.size (.slice xa z xc) z (zZ A) rfl (jS xN.out _) _ 1 (vK ⟨true,true,T⟩) rfl (X6 (x:=⟨true,true,T⟩) (VW _ _ _ _)) rfl (kE _) (by omega) (by simp only[World.size_alloc];omega) (z+1) rfl ?_;intro xq c2 w5 hown5 hgr5 hg5;have k5:=(kp.alloc (.cells #[.bool true,.bool true,.string T] 133)).grown hgr5 (λe=>by have:=hne _ e.symm;omega);have sO:=k5.cell 2)
       go_roundw
       case rel=>
        refine⟨pt,_,ByteArray.empty,by go_num,rfl,HN.out,?_,?_⟩
        ·show w5.ownsRow _ _ _ _ _ _
         rw[List.length_append,HZ.out,kD];simpa[zZ]using hown5
        ·exact(yY.alloc yY.size _).grown hgr5 (by simp;omega) (λk hk=>yH xN.out k hk)
       case measure=>simp[intOf];omega
      ·exact absurd ⟨hl,HB.out⟩ hn2
     ·have hfl:fl true h false=[⟨false,true,h⟩]:=by unfold fl;rw[if_neg (λg=>hh0 g.1)]
      rw[hfl]at hnx;have HN:=hid hnx;have d1:=D9 hh0;have d2:=sK hh0;have hza:z≤200000:=by have:=HZ.out;omega
      clear hnx h13 hmo hfl hh0 c12 c13
      go_wp2_with fail
      refine(vS.out).mono ?_;rintro e w3 ⟨hr,hB3⟩;rcases hr with⟨_,_,he⟩|⟨hn2,_⟩
      ·rw[uM.out]at he
       unfold uz at he;simp only at he;subst he;have HB3:=hid hB3;have hB4:=(hB3.trans ((Below.refl w3.heap.size w3).alloc (Nat.le_refl _) (.cells #[.int .i64 (pm:Int),.int .i64 (pf:Int),.int .i64 (pt:Int),.int .i64 pu,.bool po] 142)|>.mono hB3.size));have kp:=zh.new w3 #[.int .i64 (pm:Int),.int .i64 (pf:Int),.int .i64 (pt:Int),.int .i64 pu,.bool po] 142;have yU:=(HP.out.below hB4);have yY:=yg.out.trans (hB4.mono hsz);unfold vw at yU;rw[HZ.out]at yU;have xN:=hid yU;have hs4:=yY.size;have hs3:=hB3.size;simp at hs4;have hne:∀k,(Value.slice xa z xc).ownBlock=some k→k<wr.heap.size:=λk hk=>ji YH.out k hk;clear hB3 yu yU
       go_wp2_with (at_builtin;first
        |(refine jh rfl _ _ 130 133 3 24 _ rfl Tryz.underlying130 uX rfl (by omega) (by omega) w.heap.size (.slice xa z xc) z (zZ A) rfl (jS xN.out _) _ 1 (vK ⟨false,true,h⟩) rfl (X6 (x:=⟨false,true,h⟩) (VW _ _ _ _)) rfl (kE _) (by omega) (by simp only[World.size_alloc];omega) (z+1) rfl ?_;intro xq c2 w5 hown5 hgr5 hg5;have yA:=(yY.alloc yY.size (.cells #[.bool false,.bool true,.string h] 133)).grown hgr5 (by simp;omega) (λk hk=>yH xN.out k hk);have k5:=(kp.alloc (.cells #[.bool false,.bool true,.string h] 133)).grown hgr5 (λe=>by have:=hne _ e.symm;omega);have k50:=k5.cell 0;have k51:=k5.cell 1;have sO:=k5.cell 2;have hs5:=yA.size)
        |(refine jh rfl _ _ 130 133 3 24 _ rfl Tryz.underlying130 uX rfl (by omega) (by omega) w.heap.size (.slice xq (z+1) c2) (z+1) (zZ A++vK ⟨false,true,h⟩) rfl (jS hown5 _) _ 1 (vK ⟨true,true,T⟩) rfl (QQ _ ⟨true,true,T⟩) rfl (kE _) (by omega) (by simp only[World.size_alloc];omega) (z+1+1) rfl ?_;intro oa6 c6 w6 hown6 qi VY;have k6:=(k5.alloc (.cells #[.bool true,.bool true,.string T] 133)).grown qi (λe=>by rcases hg5 with g|g;(have:=hne _ (g.symm.trans e.symm);omega);(rw[←e]at g;simp only[World.size_alloc,Option.some.injEq]at g;omega));have k62:=k6.cell 2))
       go_roundw
       case rel=>
        refine⟨pt,_,ByteArray.empty,by go_num,rfl,HN.out,?_,?_⟩
        ·show w6.ownsRow _ _ _ _ _ _
         rw[List.length_append,List.length_append,HZ.out,kD,kD];simpa[zZ]using hown6
        ·exact(yA.alloc yA.size _).grown qi (by simp;omega) (λk hk=>yH hown5 k hk)
       case measure=>simp[intOf];omega
      ·exact absurd ⟨hl,HB.out⟩ hn2
  ·have hge:¬a<yG (prt s f):=by have:=uZ.out;omega
   have hd:=hI.eq;rw[TG hge]at hd;have hza:z≤200000:=by omega
   by_cases hh0:h.size=0
   ·have d1:=D8 hh0
    have d2:=sJ hh0
    cases A with
    |nil=>
     have hfl:fl true h ([]:List Pc).isEmpty=[⟨false,true,h⟩]:=by unfold fl;rw[if_neg (λg=>by simp at g)]
     rw[hfl]at hd;have HD:=hid hd;have hz0:z=0:=by rw[←hz];rfl
     subst hz0;have yg:=hid hB;unfold vw at hP;have xN:=hid hP;clear hI hd hfl hP hB HP yu hge hh0 hst hz
     go_wp2_with (at_builtin;refine jh rfl _ _ 130 133 3 24 _ rfl Tryz.underlying130 uX rfl (by omega) (by omega) w.heap.size (.slice xa 0 xc) 0 (zZ []) rfl (jS xN.out _) _ 1 (vK ⟨false,true,h⟩) rfl (QQ _ ⟨false,true,h⟩) rfl (kE _) (by omega) (by simp only[World.size_alloc];omega) 1 rfl ?_;intro xq c2 w5 hown5 hgr5 hg5)
     go_ret;refine⟨_,rfl,?_,?_⟩
     ·rw[HD.out]
      show w5.ownsRow _ _ _ _ _ _;simpa[zZ]using hown5
     ·exact(yg.out.alloc hsz _).grown hgr5 (by simp;omega) (λk hk=>yH xN.out k hk)
    |cons x A'=>
     have hfl:fl true h (x::A').isEmpty=[]:=by unfold fl;rw[if_pos ⟨hh0,rfl⟩]
     rw[hfl,List.append_nil]at hd;have HD:=hid hd;have hz0:((z:Int)==0)=false:=beq_eq_false_iff_ne.2 (by rw[←hz];simp;omega);have yg:=hid hB;have HZ:=hid hz;clear hI hd hfl hP hB yu hge hh0 hst hz;go_wp2;go_ret;exact⟨_,rfl,by rw[HD.out];have:=HP.out;unfold vw at this ⊢;rw[HZ.out]at this ⊢;exact this,yg.out⟩
   ·have d1:=D9 hh0
    have d2:=sK hh0;have hfl:fl true h A.isEmpty=[⟨false,true,h⟩]:=by unfold fl;rw[if_neg (λg=>hh0 g.1)]
    rw[hfl]at hd;have HD:=hid hd;have yg:=hid hB;have yU:=HP.out;unfold vw at yU;rw[hz]at yU;have xN:=hid yU;have HZ:=hid hz;clear hI hd hfl hP hB yu hge hh0 hst hz yU
    go_wp2_with (at_builtin;refine jh rfl _ _ 130 133 3 24 _ rfl Tryz.underlying130 uX rfl (by omega) (by omega) w.heap.size (.slice xa z xc) z (zZ A) rfl (jS xN.out _) _ 1 (vK ⟨false,true,h⟩) rfl (QQ _ ⟨false,true,h⟩) rfl (kE _) (by omega) (by simp only[World.size_alloc];omega) (z+1) rfl ?_;intro xq c2 w5 hown5 hgr5 hg5)
    go_ret;refine⟨_,rfl,?_,?_⟩
    ·rw[HD.out]
     show w5.ownsRow _ _ _ _ _ _;rw[List.length_append,HZ.out,kD];simpa[zZ]using hown5
    ·exact(yg.out.alloc hsz _).grown hgr5 (by simp;omega) (λk hk=>yH xN.out k hk)
end
theorem Lh(zk:Bool)(h:ByteArray)(w:Bool):(fl zk h w).length≤1:=by unfold fl;split<;>simp
theorem Lj{s:ByteArray}{zk:Bool}{sub:Nat→List Pc}{e E:Nat}{xQ:Nat→Prop}(he:e≤s.size)(QT:e≤E)(hR1:∀a,xQ a→a<e→born s a=false→xQ (a+1))(hR2:∀a,xQ a→a<e→born s a=true→xQ (prt s a).to∧(prt s a).to≤E)
 (hsub:∀a,xQ a→a<e→born s a=true→(sub a).length+1≤2*((prt s a).to-a)):∀(k a:Nat) (h:ByteArray) (w:Bool),xQ a→a≤E→(rm s zk sub e k a h w).length≤2*(E-a)+1
 |0,a,h,w,_,_=>by unfold rm;have:=Lh zk h w;omega
 |k+1,a,h,w,hr,ha=>by
  unfold rm;by_cases hae:a<e
  ·rw[if_pos hae]
   by_cases hb:born s a=true
   ·rw[if_pos hb]
    have hg:=uV hb (by omega);obtain⟨r1,r2⟩:=hR2 a hr hae hb
    cases hi:yf s (prt s a) zk with
    |some t=>
     have:=Lj (zk:=zk) he QT hR1 hR2 hsub k _ (h++t) w r1 r2;simp only;omega
    |none=>
     have h1:=hsub a hr hae hb;have:=Lj (zk:=zk) he QT hR1 hR2 hsub k _ ByteArray.empty false r1 r2;have h2:=Lh zk h false;simp only;rw[List.length_append,List.length_append];omega
   ·rw[if_neg hb]
    have:=Lj (zk:=zk) he QT hR1 hR2 hsub k _ (h++s.extract a (a+1)) w (hR1 a hr hae (by simpa using hb)) (by omega);omega
  ·rw[if_neg hae];have:=Lh zk h w;omega
theorem FD{s:ByteArray}{f:Nat}(hf:f<s.size)(hb:born s f=true)(hm:(prt s f).mode=5):(DB s (f+1) (yG (prt s f))).length+1≤2*((prt s f).to-f):=by
 obtain⟨h1,h2,h3,hin⟩:=X8 hf hb hm;have hto:=uV hb hf;obtain⟨n1,n2⟩:=Lc hf hb hm;have:=Lj (s:=s) (zk:=true) (sub:=Y4 s) (e:=yG (prt s f)) (E:=(prt s f).to) (xQ:=VX s f) h1 h2 n1 n2 (λa hr hlt hbn=>by
  have:=uV hbn (by omega);unfold Y4;simp;omega) (yG (prt s f)-(f+1)) (f+1) ByteArray.empty true h3 (by omega)
 unfold DB Rm;omega
theorem FH{s:ByteArray}{f:Nat}(hf:f<s.size)(hb:born s f=true):(uw s f).length+1≤2*((prt s f).to-f):=by
 have hto:=uV hb hf;unfold uw;split
 ·rename_i h5;exact FD hf hb h5
 ·split<;>(simp;omega)
theorem zcT{s:ByteArray}{f:Nat}(hb:born s f=true)(hf:f<s.size)(hm:(prt s f).mode≠12)(ho:(prt s f).op=false):f+2≤(prt s f).to:=by
 have he:=Y6 hb hf;have h1:=lZ hb hf;rw[JO hb hf]at hm;rw[if_neg hm]at he;rw[he]at ho ⊢;simp only at ho ⊢;have:¬eK s f s.size=s.size:=of_decide_eq_false ho;rw[if_neg this];omega
theorem FI{m f t:Nat}{u:Int}{op:Bool}(hm:m=4∨m=5)(h1:f<t)(h2:op=false→f+2≤t):yG ⟨m,f,t,u,op⟩=if op=true then t else t-1:=by
 unfold yG;dsimp only;have e1:qJ m=1:=by rcases hm with rfl|rfl<;>rfl
 have e2:YG m=1:=by rcases hm with rfl|rfl<;>rfl
 rw[e1,e2]
 cases op with
 |true=>simp;omega
 |false=>have:=h2 rfl;rw[if_neg (by omega),if_neg (by decide),if_pos (by omega),if_neg (by decide)]
theorem zcU{f t:Nat}{u:Int}{op:Bool}(h1:f<t):yG ⟨13,f,t,u,op⟩=t:=by
 unfold yG;dsimp only;have e1:qJ 13=1:=rfl;have e2:YG 13=0:=rfl;rw[e1,e2]
 repeat' split
 all_goals omega
structure Xb(s:ByteArray)(a:Nat)(pre:List Pc)(h:ByteArray):Prop where
 le:a≤s.size
 eq:jw s=pre++Rm s false (uw s) s.size a h false
 hz:h.size≤a
 az:pre.length+1≤2*a+1
theorem Xb.start(s:ByteArray):Xb s 0 [] ByteArray.empty:=⟨Nat.zero_le _,rfl,Nat.le_refl _,Nat.le_refl _⟩
section
variable{s:ByteArray}{a:Nat}{pre:List Pc}{h:ByteArray}(I:Xb s a pre h)(ha:a<s.size)
include I ha
theorem Xb.plain(hB:born s a=false):Xb s (a+1) pre (h++s.extract a (a+1)):=by
 refine⟨by omega,?_,?_,by have:=I.az;omega⟩
 ·rw[I.eq,Tq (Nat.le_refl _) ha hB]
 ·rw[ByteArray.size_append,vk (by omega)]
  have:=I.hz;omega
theorem Xb.self(hB:born s a=true){t:ByteArray}(ht:yf s (prt s a) false=some t):Xb s (prt s a).to pre (h++t):=by
 have hg:=uV hB ha;refine⟨(Zo ha hB).1,?_,?_,by have:=I.az;omega⟩
 ·rw[I.eq,Tu (Nat.le_refl _) ha hB ht]
 ·rw[ByteArray.size_append]
  have:=sN ht;rw[qH]at this;have:=I.hz;omega
theorem Xb.sub(hB:born s a=true)(ht:yf s (prt s a) false=none):Xb s (prt s a).to (pre++fl false h false++uw s a) ByteArray.empty:=by
 have hg:=uV hB ha;refine⟨(Zo ha hB).1,?_,Nat.zero_le _,?_⟩
 ·rw[I.eq,Tv (Nat.le_refl _) ha hB ht,List.append_assoc,List.append_assoc]
 ·rw[List.length_append,List.length_append]
  have h1:=Lh false h false;have h2:=FH ha hB;have:=I.az;omega
end
def uj(pre:List Pc)(h:ByteArray):List Pc:=pre++fl false h false
theorem uj.empty(pre:List Pc):uj pre ByteArray.empty=pre:=by unfold uj;rw[zcA,List.append_nil]
theorem uj.zero{pre:List Pc}{h:ByteArray}(hz:h.size=0):uj pre h=pre:=by
 unfold uj fl;rw[if_pos ⟨hz,rfl⟩,List.append_nil]
theorem uj.more{pre:List Pc}{h:ByteArray}(hz:h.size≠0):uj pre h=pre++ [⟨false,false,h⟩]:=by
 unfold uj fl;rw[if_neg (λg=>hz g.1)]
theorem uj.len(pre:List Pc)(h:ByteArray):(uj pre h).length≤pre.length+1:=by
 unfold uj;rw[List.length_append];have:=Lh false h false;omega
theorem sQ(w:World)(pre:List Pc)(h t:ByteArray)(fr:Bool)(hfr:fr=decide (h.size=0))(v:Value)(hP:vw w 0 v (uj pre h))(hl:pre.length≤400000)(hh:h.size≤1000000)(ht:t.size≤1000000)(h0:0<t.size):
  Calls Tryz.prog 84 #[v,.string t,.bool fr] w λe w'=>∃v',e=.returned v'∧vw w' w.heap.size v' (uj pre (h++t))∧Below w.heap.size w w':=by
 have hn:(h++t).size≠0:=by rw[ByteArray.size_append];omega
 rw[uj.more hn];by_cases hz:h.size=0
 ·rw[uj.zero hz]at hP
  have he:h=ByteArray.empty:=ByteArray.ext (Array.eq_empty_of_size_eq_zero hz);rw[hfr,decide_eq_true hz];have:=zcM w pre t true v hP (by omega) (.inr rfl);rw[he,ByteArray.empty_append];exact this
 ·rw[uj.more hz]at hP
  rw[hfr,decide_eq_false hz];exact zcN w pre h t v hP hl hh ht
def zcV(s:ByteArray)(w:World)(v4 v5 v6:Value)(wr:World):Prop:=∃(a:Nat) (pre:List Pc) (h:ByteArray) (fr:Bool),v6=.int .i64 (a:Int)∧v5=.bool fr∧fr=decide (h.size=0)∧Xb s a pre h∧vw wr w.heap.size v4 (uj pre h)∧Below w.heap.size w wr
section
variable(w:World)
theorem zcW(s:ByteArray)(hs:s.size≤60000):
  Calls Tryz.prog 74 #[.string s] w λe w'=>∃v,e=.returned v∧vw w' w.heap.size v (jw s)∧Below w.heap.size w w':=by
 go_enter Tryz.func74,Tryz.ntmps74
 go_wp2_with fail
 refine(zcX w s hs).mono ?_;rintro e w1 ⟨⟨v,rfl,FK⟩,hB1⟩;obtain⟨oa,n,oc,rfl,hR⟩:=FK.read;have hn:n≤60000:=by have h1:=hR.len;have h2:=fP s;omega
 have HR:=hid hR;have HB1:=hid hB1;have hsz1:=hB1.size;clear FK hR hB1;go_wp2
 go_loopw [4,5,6] (λv4 v5 v6 wr=>zcV s w1 v4 v5 v6 wr) (λ_ _ v _=>s.size-(intOf v).toNat)
 case atStart=>exact⟨0,[],ByteArray.empty,true,rfl,rfl,rfl,Xb.start s,World.ownsRow_nil _ _ _ _,Below.refl _ _⟩
 case round=>
  obtain⟨a,pre,h,fr,rfl,rfl,hfr,hI,hP,hB⟩:=hrel;have yu:=HR.out.below hB;have hsz:=hB.size;have hhz:=hI.hz;have haz:=hI.az;have zcQ:=hI.le;have hal:=uj.len pre h;obtain⟨xa,xc,rfl⟩:=Zt hP;obtain⟨A,hA⟩:∃A,uj pre h=A:=⟨_,rfl⟩;obtain⟨z,hz⟩:∃z,A.length=z:=⟨_,rfl⟩;have hP0:=hP;rw[hA]at hP hal ⊢;rw[hz]at hP hal ⊢;have Ld:wr.ownsRow w1.heap.size 133 3 (.slice xa z xc) z (zZ A):=by have:=hP;unfold vw at this;rw[hz]at this;exact this
  have YH:=hid Ld;have FM:vw wr w1.heap.size (.slice xa z xc) (uj pre h):=by rw[hA];exact hP
  have HP:=hid FM;have hza:z≤200000:=by omega
  have jT:=hid hfr;have HA:=hid hA;have HZ:=hid hz;have yg:=hid hB;clear Ld hP hP0 FM hfr hA hz hB;by_cases hlt:(a:Int)<(s.size:Int)
  ·have hl:a<s.size:=by omega
   have hfi:=Fq wr s oa n oc a yu hn (by omega);have vS:=hid hfi;have q0:(0:Int)≤(a:Int):=by omega
   have q1:(a:Int)+1≤(s.size:Int):=by omega
   have q2:IntKind.i64.wrap ((a:Int)+1)=(a:Int)+1:=IntWalk.i64_in _ (by omega);have q3:(a:Int)≤(a:Int)+1:=by omega
   have q4:IntKind.i64.wrap ((a:Int)+2)=(a:Int)+2:=IntWalk.i64_in _ (by omega);clear hfi
   cases hBn:born s a with
   |false=>
    have hnx:=hI.plain hl hBn;have vz:=vk (s:=s) (a:=a) (b:=a+1) (by omega);obtain⟨T,hT⟩:∃T,s.extract a (a+1)=T:=⟨_,rfl⟩;rw[hT]at hnx vz;have HN:=hid hnx;have HB:=hid hBn;have Gt:0<T.size:=by omega
    have Ll:=hid (λW (hW:Below wr.heap.size wr W)=>sQ W pre h T fr jT.out (.slice xa z xc) ((HP.out.below hW).lower (Nat.zero_le _)) (by omega) (by omega) (by omega) (by omega));clear hI hnx hBn vz
    go_wp2_with fail
    refine(vS.out).mono ?_;rintro e w3 ⟨hr,hB3⟩;rcases hr with⟨_,hb2,_⟩|⟨_,rfl⟩
    ·rw[HB.out]at hb2;cases hb2
    have hB4:=hB3.alloc hB3.size (.cells #[.int .i64 0,.int .i64 0,.int .i64 0,.int .i64 0,.bool false] 142);have HB4:=hid hB4;clear hB3 yu hB4
    go_wp2_with fail
    refine(Ll.out _ HB4.out).mono ?_;rintro e w5 ⟨v5,rfl,ZX,yA⟩;have Xc:=hid ZX;have qK:=hid yA;clear ZX yA;go_wp2
    go_roundw
    case rel=>
     have e1:Below w1.heap.size w1 w5:=(yg.out.trans (HB4.out.mono hsz)).trans (qK.out.mono (by have:=HB4.out.size;omega));exact⟨a+1,pre,h++T,false,by go_num,rfl,(decide_eq_false (by rw[ByteArray.size_append];omega)).symm,HN.out,Xc.out.lower (by have:=HB4.out.size;omega),e1⟩
    case measure=>simp[intOf];omega
   |true=>
    have hto:=uV hBn hl;have hle:=(Zo hl hBn).1;have hself:=λt=>hI.self hl hBn (t:=t);have hsub:=hI.sub hl hBn;have hsb:uw s a=if(prt s a).mode=5 then DB s (a+1) (yG (prt s a))else if(prt s a).mode=4∨(prt s a).mode=13 then [⟨false,true,s.extract (a+1) (yG (prt s a))⟩]else [⟨true,false,s.extract a (prt s a).to⟩]:=rfl
    have sS:=qH s a;have h13:(prt s a).mode=13→(prt s a).to=if a+1=s.size then s.size else a+2:=λe=>Tt hBn hl e
    have hsh:(prt s a).mode≠12→(prt s a).op=false→a+2≤(prt s a).to:=λe1 e2=>zcT hBn hl e1 e2;have hdl:=fun(e:(prt s a).mode=5)=>FD hl hBn e;have mg:=fun(e:(prt s a).mode=5) W (hW:Below wr.heap.size wr W) f1 e1 (h1:f1=a+1) (h2:e1=yG (prt s a))=>zcP W s hs a hl hBn e oa n oc (yu.below hW) hn f1 e1 h1 h2;obtain⟨p,hp⟩:∃p,prt s a=p:=⟨_,rfl⟩;rw[hp]at hto hle hself hsub sS h13 hsb hsh hdl mg;obtain⟨pm,pf,pt,pu,po⟩:=p;simp only at hto hle hself hsub sS h13 hsb hsh hdl mg;subst sS;have HB:=hid hBn;have uM:=hid hp;have Yh:=hid hself;have YD:=hid hsub;have X9:=hid hsb;have FN:=hid mg;have Lm:=hid hdl;have Va:=hid hsh;clear hI hself hsub hBn hp hsb mg hdl hsh;by_cases c14:pm=14
    ·subst c14
     have hnx:=Yh.out (s.extract pf pt) (by unfold yf;dsimp only;rw[if_pos rfl]);have vz:=vk (s:=s) (a:=pf) (b:=pt) (by omega);obtain⟨T,hT⟩:∃T,s.extract pf pt=T:=⟨_,rfl⟩;rw[hT]at hnx vz;have HN:=hid hnx;have Ll:=hid (λW (hW:Below wr.heap.size wr W)=>sQ W pre h T fr jT.out (.slice xa z xc) ((HP.out.below hW).lower (Nat.zero_le _)) (by omega) (by omega) (by omega) (by omega));have Gt:0<T.size:=by omega
     clear hnx vz h13
     go_wp2_with fail
     refine(vS.out).mono ?_;rintro e w3 ⟨hr,hB3⟩;rcases hr with⟨_,_,he⟩|⟨hn2,_⟩
     ·rw[uM.out]at he
      unfold uz at he;simp only at he;subst he;have hB4:=hB3.alloc hB3.size (.cells #[.int .i64 14,.int .i64 (pf:Int),.int .i64 (pt:Int),.int .i64 pu,.bool po] 142);have HB4:=hid hB4;have kp:=zh.new w3 #[.int .i64 14,.int .i64 (pf:Int),.int .i64 (pt:Int),.int .i64 pu,.bool po] 142;have hs3:=hB3.size;clear hB3 yu hB4
      go_wp2_with fail
      refine(Ll.out _ HB4.out).mono ?_;rintro e w5 ⟨v5,rfl,ZX,yA⟩;have Xc:=hid ZX;have qK:=hid yA;clear ZX yA;go_wp2
      go_roundw
      case rel=>
       have e1:Below w1.heap.size w1 w5:=(yg.out.trans (HB4.out.mono hsz)).trans (qK.out.mono (by have:=HB4.out.size;omega));exact⟨pt,pre,h++T,false,by go_num,rfl,(decide_eq_false (by rw[ByteArray.size_append];omega)).symm,HN.out,Xc.out.lower (by have:=HB4.out.size;omega),e1⟩
      case measure=>simp[intOf];omega
     ·exact absurd ⟨hl,HB.out⟩ hn2
    have zmv:((pm:Int)==14)=false:=beq_eq_false_iff_ne.2 (by omega);by_cases c12:pm=12
    ·subst c12
     by_cases ct:pt=pf+1
     ·subst ct
      have hnx:=Yh.out (s.extract pf (pf+1)) (by unfold yf;dsimp only;rw[if_neg (by decide),if_pos rfl,if_pos rfl]);have vz:=vk (s:=s) (a:=pf) (b:=pf+1) (by omega);obtain⟨T,hT⟩:∃T,s.extract pf (pf+1)=T:=⟨_,rfl⟩;rw[hT]at hnx vz;have HN:=hid hnx;have Ll:=hid (λW (hW:Below wr.heap.size wr W)=>sQ W pre h T fr jT.out (.slice xa z xc) ((HP.out.below hW).lower (Nat.zero_le _)) (by omega) (by omega) (by omega) (by omega));have Gt:0<T.size:=by omega
      have tq:((pf+1:Nat):Int)=(pf:Int)+1:=by omega
      clear hnx vz h13
      go_wp2_with fail
      refine(vS.out).mono ?_;rintro e w3 ⟨hr,hB3⟩;rcases hr with⟨_,_,he⟩|⟨hn2,_⟩
      ·rw[uM.out]at he
       unfold uz at he;simp only at he;subst he;have hB4:=hB3.alloc hB3.size (.cells #[.int .i64 12,.int .i64 (pf:Int),.int .i64 ((pf+1:Nat):Int),.int .i64 pu,.bool po] 142);have HB4:=hid hB4;have kp:=zh.new w3 #[.int .i64 12,.int .i64 (pf:Int),.int .i64 ((pf+1:Nat):Int),.int .i64 pu,.bool po] 142;have hs3:=hB3.size;clear hB3 yu hB4
       go_wp2_with fail
       refine(Ll.out _ HB4.out).mono ?_;rintro e w5 ⟨v5,rfl,ZX,yA⟩;have Xc:=hid ZX;have qK:=hid yA;clear ZX yA;go_wp2
       go_roundw
       case rel=>
        have e1:Below w1.heap.size w1 w5:=(yg.out.trans (HB4.out.mono hsz)).trans (qK.out.mono (by have:=HB4.out.size;omega));exact⟨pf+1,pre,h++T,false,by go_num,rfl,(decide_eq_false (by rw[ByteArray.size_append];omega)).symm,HN.out,Xc.out.lower (by have:=HB4.out.size;omega),e1⟩
       case measure=>simp[intOf];omega
      ·exact absurd ⟨hl,HB.out⟩ hn2
     ·have t1:((pt:Int)==(pf:Int)+1)=false:=beq_eq_false_iff_ne.2 (by omega)
      have hnx:=YD.out (by unfold yf;dsimp only;rw[if_neg (by decide),if_pos rfl,if_neg ct]);have hse:uw s pf=[⟨true,false,s.extract pf pt⟩]:=by rw[X9.out,if_neg (by decide),if_neg (by decide)]
      rw[hse]at hnx;have HN:=hid hnx;obtain⟨T,hT⟩:∃T,s.extract pf pt=T:=⟨_,rfl⟩;rw[hT]at HN;clear hnx hse h13 ct
      go_wp2_with fail
      refine(vS.out).mono ?_;rintro e w3 ⟨hr,hB3⟩;rcases hr with⟨_,_,he⟩|⟨hn2,_⟩
      ·rw[uM.out]at he
       unfold uz at he;simp only at he;subst he;have hB4:=hB3.alloc hB3.size (.cells #[.int .i64 12,.int .i64 (pf:Int),.int .i64 (pt:Int),.int .i64 pu,.bool po] 142);have HB4:=hid hB4;have kp:=zh.new w3 #[.int .i64 12,.int .i64 (pf:Int),.int .i64 (pt:Int),.int .i64 pu,.bool po] 142;have hs3:=hB3.size;have yU:=vM YH.out hB4;have xN:=hid yU;have yY:=yg.out.trans (hB4.mono hsz);have jU:=hid yY;have hs4:=yY.size;simp at hs4;clear hB3 yu hB4 yU yY
       go_wp2_with (at_builtin;refine jh rfl _ _ 130 133 3 24 _ rfl Tryz.underlying130 uX rfl (by omega) (by omega) w1.heap.size (.slice xa z xc) z (zZ A) rfl (jS xN.out _) _ 1 (vK ⟨true,false,T⟩) rfl (X6 (x:=⟨true,false,T⟩) (VW _ _ _ _)) rfl (kE _) (by omega) (by simp only[World.size_alloc];omega) (z+1) rfl ?_;intro xq c2 w6 hown6 qi VY)
       go_roundw
       case rel=>
        refine⟨pt,_,ByteArray.empty,true,by go_num,rfl,rfl,HN.out,?_,?_⟩
        ·rw[uj.empty]
         show w6.ownsRow _ _ _ _ _ _;have e0:pre++fl false h false=A:=HA.out;rw[e0,List.length_append,HZ.out,kD];simpa[zZ]using hown6
        ·exact(jU.out.alloc jU.out.size _).grown qi (by simp;omega) (λk hk=>yH xN.out k hk)
       case measure=>simp[intOf];omega
      ·exact absurd ⟨hl,HB.out⟩ hn2
    have zcR:((pm:Int)==12)=false:=beq_eq_false_iff_ne.2 (by omega);by_cases c13:pm=13
    ·subst c13
     by_cases hend:pf+1=s.size
     ·have hpt:pt=s.size:=by rw[h13 rfl,if_pos hend]
      have t2:((pt:Int)==(pf:Int)+2)=false:=beq_eq_false_iff_ne.2 (by omega);have Le:pt=pf+1:=by omega
      have hpe:yf s ⟨13,pf,pt,pu,po⟩ false=some ByteArray.empty:=by unfold yf;dsimp only;rw[if_neg (by decide),if_neg (by decide),if_pos rfl,if_pos (.inl Le)]
      have uA:=hid hpe;clear hpt Le hpe hend;have hnx:=Yh.out ByteArray.empty (by exact uA.out);rw[ByteArray.append_empty]at hnx;have HN:=hid hnx;clear hnx h13
      go_wp2_with fail
      refine(vS.out).mono ?_;rintro e w3 ⟨hr,hB3⟩;rcases hr with⟨_,_,he⟩|⟨hn2,_⟩
      ·rw[uM.out]at he
       unfold uz at he;simp only at he;subst he;have hB4:=hB3.alloc hB3.size (.cells #[.int .i64 13,.int .i64 (pf:Int),.int .i64 (pt:Int),.int .i64 pu,.bool po] 142);have HB4:=hid hB4;have kp:=zh.new w3 #[.int .i64 13,.int .i64 (pf:Int),.int .i64 (pt:Int),.int .i64 pu,.bool po] 142;have hs3:=hB3.size;clear hB3 yu hB4;go_wp2
       go_roundw
       case rel=>exact⟨pt,pre,h,fr,by go_num,rfl,jT.out,HN.out,HP.out.below HB4.out,yg.out.trans (HB4.out.mono hsz)⟩
       case measure=>simp[intOf];omega
      ·exact absurd ⟨hl,HB.out⟩ hn2
     ·have hpt:pt=pf+2:=by rw[h13 rfl,if_neg hend]
      subst hpt;have t2:((pf+2:Nat):Int)=(pf:Int)+2:=by omega
      obtain⟨b,hby⟩:∃b,by8 s (pf+1)=b:=⟨_,rfl⟩;have hbl:b<256:=hby▸QE s _;have hix:∀hh:pf+1<s.size,(s[pf+1]'hh).toNat=b:=λhh=>by rw[←hby];unfold by8;rw[yx hh]
      have hne1:¬(pf+2=pf+1):=by omega
      have q5:(pf:Int)+1<(s.size:Int):=by omega
      have q6:(pf:Int)+2≤(s.size:Int):=by omega
      have q7:(pf:Int)+1≤(pf:Int)+2:=by omega
      have q9:(0:Int)≤(pf:Int)+1:=by omega
      by_cases b10:b=10
      ·have hpe:yf s ⟨13,pf,pf+2,pu,po⟩ false=some ByteArray.empty:=by unfold yf;dsimp only;rw[if_neg (by decide),if_neg (by decide),if_pos rfl,if_pos (.inr (hby.trans b10))]
       have uA:=hid hpe;subst b10;clear hpe hby hne1 hend;have hnx:=Yh.out ByteArray.empty (by exact uA.out);rw[ByteArray.append_empty]at hnx;have HN:=hid hnx;clear hnx h13
       go_wp2_with fail
       refine(vS.out).mono ?_;rintro e w3 ⟨hr,hB3⟩;rcases hr with⟨_,_,he⟩|⟨hn2,_⟩
       ·rw[uM.out]at he
        unfold uz at he;simp only at he;subst he;have hB4:=hB3.alloc hB3.size (.cells #[.int .i64 13,.int .i64 (pf:Int),.int .i64 ((pf+2:Nat):Int),.int .i64 pu,.bool po] 142);have HB4:=hid hB4;have kp:=zh.new w3 #[.int .i64 13,.int .i64 (pf:Int),.int .i64 ((pf+2:Nat):Int),.int .i64 pu,.bool po] 142;have hs3:=hB3.size;clear hB3 yu hB4;go_wp2
        go_roundw
        case rel=>exact⟨pf+2,pre,h,fr,by go_num,rfl,jT.out,HN.out,HP.out.below HB4.out,yg.out.trans (HB4.out.mono hsz)⟩
        case measure=>simp[intOf];omega
       ·exact absurd ⟨hl,HB.out⟩ hn2
      ·have hor:¬(pf+2=pf+1∨by8 s (pf+1)=10):=by omega
       have hpe:yf s ⟨13,pf,pf+2,pu,po⟩ false=none:=by unfold yf;dsimp only;rw[if_neg (by decide),if_neg (by decide),if_pos rfl,if_neg hor,if_pos rfl]
       have uA:=hid hpe;have b5:((b:Int)==10)=false:=beq_eq_false_iff_ne.2 (by omega);obtain⟨T,hT⟩:∃T,s.extract (pf+1) (pf+2)=T:=⟨_,rfl⟩;clear hpe hby hor b10 hne1 hend;have hnx:=YD.out (by exact uA.out);have hse:uw s pf=[⟨false,true,T⟩]:=by rw[X9.out,if_neg (by decide),if_pos (.inr rfl),zcU (by omega),hT]
       rw[hse]at hnx;have HN:=hid hnx;clear hnx hse h13
       go_wp2_with fail
       refine(vS.out).mono ?_;rintro e w3 ⟨hr,hB3⟩;rcases hr with⟨_,_,he⟩|⟨hn2,_⟩
       ·rw[uM.out]at he
        unfold uz at he;simp only at he;subst he;have hB4:=hB3.alloc hB3.size (.cells #[.int .i64 13,.int .i64 (pf:Int),.int .i64 ((pf+2:Nat):Int),.int .i64 pu,.bool po] 142);have HB4:=hid hB4;have kp:=zh.new w3 #[.int .i64 13,.int .i64 (pf:Int),.int .i64 ((pf+2:Nat):Int),.int .i64 pu,.bool po] 142;have hs3:=hB3.size;have yU:=vM YH.out hB4;have xN:=hid yU;have yY:=yg.out.trans (hB4.mono hsz);have jU:=hid yY;have hs4:=yY.size;simp at hs4;clear hB3 yu hB4 yU yY
        go_wp2_with (at_builtin;refine jh rfl _ _ 130 133 3 24 _ rfl Tryz.underlying130 uX rfl (by omega) (by omega) w1.heap.size (.slice xa z xc) z (zZ A) rfl (jS xN.out _) _ 1 (vK ⟨false,true,T⟩) rfl (X6 (x:=⟨false,true,T⟩) (VW _ _ _ _)) rfl (kE _) (by omega) (by simp only[World.size_alloc];omega) (z+1) rfl ?_;intro xq c2 w6 hown6 qi VY)
        go_roundw
        case rel=>
         refine⟨pf+2,_,ByteArray.empty,true,by go_num,rfl,rfl,HN.out,?_,?_⟩
         ·rw[uj.empty]
          show w6.ownsRow _ _ _ _ _ _;have e0:pre++fl false h false=A:=HA.out;rw[e0,List.length_append,HZ.out,kD];simpa[zZ]using hown6
         ·exact(jU.out.alloc jU.out.size _).grown qi (by simp;omega) (λk hk=>yH xN.out k hk)
        case measure=>simp[intOf];omega
       ·exact absurd ⟨hl,HB.out⟩ hn2
    have zcS:((pm:Int)==13)=false:=beq_eq_false_iff_ne.2 (by omega);by_cases c4:pm=4
    ·subst c4
     have hin:=FI (m:=4) (f:=pf) (t:=pt) (u:=pu) (op:=po) (.inl rfl) hto (λe=>Va.out (by decide) e)
     cases po with
     |true=>
      rw[if_pos rfl]at hin;have r2:IntKind.i64.wrap ((pt:Int)-1)=(pt:Int)-1:=IntWalk.i64_in _ (by omega);have q5:(pf:Int)+1≤(pt:Int):=by omega
      have q9:(0:Int)≤(pf:Int)+1:=by omega
      obtain⟨T,hT⟩:∃T,s.extract (pf+1) pt=T:=⟨_,rfl⟩;have hnx:=YD.out (by unfold yf;dsimp only;rw[if_neg (by decide),if_neg (by decide),if_neg (by decide)]);have hse:uw s pf=[⟨false,true,T⟩]:=by rw[X9.out,if_neg (by decide),if_pos (.inl rfl),hin,hT]
      rw[hse]at hnx;have HN:=hid hnx;clear hnx hse h13 hin
      go_wp2_with fail
      refine(vS.out).mono ?_;rintro e w3 ⟨hr,hB3⟩;rcases hr with⟨_,_,he⟩|⟨hn2,_⟩
      ·rw[uM.out]at he
       unfold uz at he;simp only at he;subst he;have hB4:=hB3.alloc hB3.size (.cells #[.int .i64 4,.int .i64 (pf:Int),.int .i64 (pt:Int),.int .i64 pu,.bool true] 142);have HB4:=hid hB4;have kp:=zh.new w3 #[.int .i64 4,.int .i64 (pf:Int),.int .i64 (pt:Int),.int .i64 pu,.bool true] 142;have hs3:=hB3.size;have yU:=vM YH.out hB4;have xN:=hid yU;have yY:=yg.out.trans (hB4.mono hsz);have jU:=hid yY;have hs4:=yY.size;simp at hs4;clear hB3 yu hB4 yU yY
       go_wp2_with (at_builtin;refine jh rfl _ _ 130 133 3 24 _ rfl Tryz.underlying130 uX rfl (by omega) (by omega) w1.heap.size (.slice xa z xc) z (zZ A) rfl (jS xN.out _) _ 1 (vK ⟨false,true,T⟩) rfl (X6 (x:=⟨false,true,T⟩) (VW _ _ _ _)) rfl (kE _) (by omega) (by simp only[World.size_alloc];omega) (z+1) rfl ?_;intro xq c2 w6 hown6 qi VY)
       go_roundw
       case rel=>
        refine⟨pt,_,ByteArray.empty,true,by go_num,rfl,rfl,HN.out,?_,?_⟩
        ·rw[uj.empty]
         show w6.ownsRow _ _ _ _ _ _;have e0:pre++fl false h false=A:=HA.out;rw[e0,List.length_append,HZ.out,kD];simpa[zZ]using hown6
        ·exact(jU.out.alloc jU.out.size _).grown qi (by simp;omega) (λk hk=>yH xN.out k hk)
       case measure=>simp[intOf];omega
      ·exact absurd ⟨hl,HB.out⟩ hn2
     |false=>
      rw[if_neg (by decide)]at hin;have h2:=Va.out (by decide) rfl;obtain⟨e1,he1⟩:∃e1,pt-1=e1:=⟨_,rfl⟩;rw[he1]at hin;have r2:IntKind.i64.wrap ((pt:Int)-1)=(e1:Int):=by rw[IntWalk.i64_in _ (by omega)];omega
      have q5:(pf:Int)+1≤(e1:Int):=by omega
      have q6:(e1:Int)≤(s.size:Int):=by omega
      have q9:(0:Int)≤(pf:Int)+1:=by omega
      obtain⟨T,hT⟩:∃T,s.extract (pf+1) e1=T:=⟨_,rfl⟩;have hnx:=YD.out (by unfold yf;dsimp only;rw[if_neg (by decide),if_neg (by decide),if_neg (by decide)]);have hse:uw s pf=[⟨false,true,T⟩]:=by rw[X9.out,if_neg (by decide),if_pos (.inl rfl),hin,hT]
      rw[hse]at hnx;have HN:=hid hnx;clear hnx hse h13 hin he1
      go_wp2_with fail
      refine(vS.out).mono ?_;rintro e w3 ⟨hr,hB3⟩;rcases hr with⟨_,_,he⟩|⟨hn2,_⟩
      ·rw[uM.out]at he
       unfold uz at he;simp only at he;subst he;have hB4:=hB3.alloc hB3.size (.cells #[.int .i64 4,.int .i64 (pf:Int),.int .i64 (pt:Int),.int .i64 pu,.bool false] 142);have HB4:=hid hB4;have kp:=zh.new w3 #[.int .i64 4,.int .i64 (pf:Int),.int .i64 (pt:Int),.int .i64 pu,.bool false] 142;have hs3:=hB3.size;have yU:=vM YH.out hB4;have xN:=hid yU;have yY:=yg.out.trans (hB4.mono hsz);have jU:=hid yY;have hs4:=yY.size;simp at hs4;clear hB3 yu hB4 yU yY
       go_wp2_with (at_builtin;refine jh rfl _ _ 130 133 3 24 _ rfl Tryz.underlying130 uX rfl (by omega) (by omega) w1.heap.size (.slice xa z xc) z (zZ A) rfl (jS xN.out _) _ 1 (vK ⟨false,true,T⟩) rfl (X6 (x:=⟨false,true,T⟩) (VW _ _ _ _)) rfl (kE _) (by omega) (by simp only[World.size_alloc];omega) (z+1) rfl ?_;intro xq c2 w6 hown6 qi VY)
       go_roundw
       case rel=>
        refine⟨pt,_,ByteArray.empty,true,by go_num,rfl,rfl,HN.out,?_,?_⟩
        ·rw[uj.empty]
         show w6.ownsRow _ _ _ _ _ _;have e0:pre++fl false h false=A:=HA.out;rw[e0,List.length_append,HZ.out,kD];simpa[zZ]using hown6
        ·exact(jU.out.alloc jU.out.size _).grown qi (by simp;omega) (λk hk=>yH xN.out k hk)
       case measure=>simp[intOf];omega
      ·exact absurd ⟨hl,HB.out⟩ hn2
    have c4':((pm:Int)==4)=false:=beq_eq_false_iff_ne.2 (by omega);by_cases c5:pm=5
    ·subst c5
     have hin:=FI (m:=5) (f:=pf) (t:=pt) (u:=pu) (op:=po) (.inr rfl) hto (λe=>Va.out (by decide) e)
     cases po with
     |true=>
      rw[if_pos rfl]at hin;have r2:IntKind.i64.wrap ((pt:Int)-1)=(pt:Int)-1:=IntWalk.i64_in _ (by omega);have uZ:=hid hin.symm;have hnx:=YD.out (by unfold yf;dsimp only;rw[if_neg (by decide),if_neg (by decide),if_neg (by decide)]);have hse:uw s pf=DB s (pf+1) (yG ⟨5,pf,pt,pu,true⟩):=by rw[X9.out,if_pos rfl]
      rw[hse]at hnx;have HN:=hid hnx;have hdn:=Lm.out rfl;clear hin;obtain⟨f1,hf1⟩:∃f1,pf+1=f1:=⟨_,rfl⟩;have r1:IntKind.i64.wrap ((pf:Int)+1)=(f1:Int):=by rw[IntWalk.i64_in _ (by omega)];omega
      have uY:=hid hf1.symm;obtain⟨D,hD⟩:∃D,DB s (pf+1) (yG ⟨5,pf,pt,pu,true⟩)=D:=⟨_,rfl⟩;rw[hD]at hdn;obtain⟨d,hd⟩:∃d,D.length=d:=⟨_,rfl⟩;rw[hd]at hdn;have HD:=hid hD;have QU:=hid hd;have hdl:d≤200000:=by omega
      have FC:f1≤60000:=by omega
      clear hnx hse h13 hdn hf1 hD hd q2
      go_wp2_with fail
      refine(vS.out).mono ?_;rintro e w3 ⟨hr,hB3⟩;rcases hr with⟨_,_,he⟩|⟨hn2,_⟩
      ·rw[uM.out]at he
       unfold uz at he;simp only at he;subst he;have hB4:=hB3.alloc hB3.size (.cells #[.int .i64 5,.int .i64 (pf:Int),.int .i64 (pt:Int),.int .i64 pu,.bool true] 142);have HB4:=hid hB4;have kp:=zh.new w3 #[.int .i64 5,.int .i64 (pf:Int),.int .i64 (pt:Int),.int .i64 pu,.bool true] 142;have hs3:=hB3.size;have yU:=vM YH.out hB4;have xN:=hid yU;have yY:=yg.out.trans (hB4.mono hsz);have jU:=hid yY;have hs4:=yY.size;have ZY:=hid (FN.out (by first|rfl|trivial) _ hB4 f1 pt uY.out uZ.out);simp at hs4;clear hB3 yu hB4 yU yY
       go_wp2_with fail
       refine(ZY.out).mono ?_;rintro e w5 ⟨v5,rfl,hD5,yA⟩;rw[HD.out]at hD5;obtain⟨ya,yc,rfl⟩:=Zt hD5;unfold vw at hD5;rw[QU.out]at hD5 ⊢;have sU:=hid (Src.uT hD5);have ZX:=vM xN.out yA;have Xc:=hid ZX;have QV:=jU.out.trans (yA.mono jU.out.size);have sV:=hid QV;have hs5:=QV.size;have Lp:(zZ D).length=d*3:=by rw[GL,QU.out]
       have sW:=hid Lp;clear hD5 yA ZX QV Lp
       go_wp2_with (at_builtin;refine jh rfl _ _ 130 133 3 24 _ rfl Tryz.underlying130 uX rfl (by omega) (by omega) w1.heap.size (.slice xa z xc) z (zZ A) rfl Xc.out (.slice ya d yc) d (zZ D) rfl sU.out sW.out (QP D) (by omega) hs5 (z+d) rfl ?_;intro xq c2 w6 hown6 qi VY)
       go_roundw
       case rel=>
        refine⟨pt,_,ByteArray.empty,true,by go_num,rfl,rfl,HN.out,?_,?_⟩
        ·rw[uj.empty,HD.out]
         show w6.ownsRow _ _ _ _ _ _;have e0:pre++fl false h false=A:=HA.out;rw[e0,List.length_append,HZ.out,QU.out,kD];exact hown6
        ·exact sV.out.grown qi (by omega) (λk hk=>yH Xc.out k hk)
       case measure=>simp[intOf];omega
      ·exact absurd ⟨hl,HB.out⟩ hn2
     |false=>
      rw[if_neg (by decide)]at hin;have h2:=Va.out (by decide) rfl;obtain⟨e1,he1⟩:∃e1,pt-1=e1:=⟨_,rfl⟩;rw[he1]at hin;have r2:IntKind.i64.wrap ((pt:Int)-1)=(e1:Int):=by rw[IntWalk.i64_in _ (by omega)];omega
      have uZ:=hid hin.symm;have hnx:=YD.out (by unfold yf;dsimp only;rw[if_neg (by decide),if_neg (by decide),if_neg (by decide)]);have hse:uw s pf=DB s (pf+1) (yG ⟨5,pf,pt,pu,false⟩):=by rw[X9.out,if_pos rfl]
      rw[hse]at hnx;have HN:=hid hnx;have hdn:=Lm.out rfl;clear hin he1;obtain⟨f1,hf1⟩:∃f1,pf+1=f1:=⟨_,rfl⟩;have r1:IntKind.i64.wrap ((pf:Int)+1)=(f1:Int):=by rw[IntWalk.i64_in _ (by omega)];omega
      have uY:=hid hf1.symm;obtain⟨D,hD⟩:∃D,DB s (pf+1) (yG ⟨5,pf,pt,pu,false⟩)=D:=⟨_,rfl⟩;rw[hD]at hdn;obtain⟨d,hd⟩:∃d,D.length=d:=⟨_,rfl⟩;rw[hd]at hdn;have HD:=hid hD;have QU:=hid hd;have hdl:d≤200000:=by omega
      have FC:f1≤60000:=by omega
      clear hnx hse h13 hdn hf1 hD hd q2
      go_wp2_with fail
      refine(vS.out).mono ?_;rintro e w3 ⟨hr,hB3⟩;rcases hr with⟨_,_,he⟩|⟨hn2,_⟩
      ·rw[uM.out]at he
       unfold uz at he;simp only at he;subst he;have hB4:=hB3.alloc hB3.size (.cells #[.int .i64 5,.int .i64 (pf:Int),.int .i64 (pt:Int),.int .i64 pu,.bool false] 142);have HB4:=hid hB4;have kp:=zh.new w3 #[.int .i64 5,.int .i64 (pf:Int),.int .i64 (pt:Int),.int .i64 pu,.bool false] 142;have hs3:=hB3.size;have yU:=vM YH.out hB4;have xN:=hid yU;have yY:=yg.out.trans (hB4.mono hsz);have jU:=hid yY;have hs4:=yY.size;have ZY:=hid (FN.out (by first|rfl|trivial) _ hB4 f1 e1 uY.out uZ.out);simp at hs4;clear hB3 yu hB4 yU yY
       go_wp2_with fail
       refine(ZY.out).mono ?_;rintro e w5 ⟨v5,rfl,hD5,yA⟩;rw[HD.out]at hD5;obtain⟨ya,yc,rfl⟩:=Zt hD5;unfold vw at hD5;rw[QU.out]at hD5 ⊢;have sU:=hid (Src.uT hD5);have ZX:=vM xN.out yA;have Xc:=hid ZX;have QV:=jU.out.trans (yA.mono jU.out.size);have sV:=hid QV;have hs5:=QV.size;have Lp:(zZ D).length=d*3:=by rw[GL,QU.out]
       have sW:=hid Lp;clear hD5 yA ZX QV Lp
       go_wp2_with (at_builtin;refine jh rfl _ _ 130 133 3 24 _ rfl Tryz.underlying130 uX rfl (by omega) (by omega) w1.heap.size (.slice xa z xc) z (zZ A) rfl Xc.out (.slice ya d yc) d (zZ D) rfl sU.out sW.out (QP D) (by omega) hs5 (z+d) rfl ?_;intro xq c2 w6 hown6 qi VY)
       go_roundw
       case rel=>
        refine⟨pt,_,ByteArray.empty,true,by go_num,rfl,rfl,HN.out,?_,?_⟩
        ·rw[uj.empty,HD.out]
         show w6.ownsRow _ _ _ _ _ _;have e0:pre++fl false h false=A:=HA.out;rw[e0,List.length_append,HZ.out,QU.out,kD];exact hown6
        ·exact sV.out.grown qi (by omega) (λk hk=>yH Xc.out k hk)
       case measure=>simp[intOf];omega
      ·exact absurd ⟨hl,HB.out⟩ hn2
    have c5':((pm:Int)==5)=false:=beq_eq_false_iff_ne.2 (by omega);have hpe:yf s ⟨pm,pf,pt,pu,po⟩ false=none:=by unfold yf;dsimp only;rw[if_neg c14,if_neg c12,if_neg c13]
    have uA:=hid hpe;have sZ:uw s pf=[⟨true,false,s.extract pf pt⟩]:=by rw[X9.out,if_neg c5,if_neg (by omega)]
    obtain⟨T,hT⟩:∃T,s.extract pf pt=T:=⟨_,rfl⟩;rw[hT]at sZ;have Si:=hid sZ;clear hpe sZ;have hnx:=YD.out (by exact uA.out);have hse:uw s pf=[⟨true,false,T⟩]:=by exact Si.out
    rw[hse]at hnx;have HN:=hid hnx;clear hnx hse h13 c14 c12 c13 c4 c5
    go_wp2_with fail
    refine(vS.out).mono ?_;rintro e w3 ⟨hr,hB3⟩;rcases hr with⟨_,_,he⟩|⟨hn2,_⟩
    ·rw[uM.out]at he
     unfold uz at he;simp only at he;subst he;have hB4:=hB3.alloc hB3.size (.cells #[.int .i64 (pm:Int),.int .i64 (pf:Int),.int .i64 (pt:Int),.int .i64 pu,.bool po] 142);have HB4:=hid hB4;have kp:=zh.new w3 #[.int .i64 (pm:Int),.int .i64 (pf:Int),.int .i64 (pt:Int),.int .i64 pu,.bool po] 142;have hs3:=hB3.size;have yU:=vM YH.out hB4;have xN:=hid yU;have yY:=yg.out.trans (hB4.mono hsz);have jU:=hid yY;have hs4:=yY.size;simp at hs4;clear hB3 yu hB4 yU yY
     go_wp2_with (at_builtin;refine jh rfl _ _ 130 133 3 24 _ rfl Tryz.underlying130 uX rfl (by omega) (by omega) w1.heap.size (.slice xa z xc) z (zZ A) rfl (jS xN.out _) _ 1 (vK ⟨true,false,T⟩) rfl (X6 (x:=⟨true,false,T⟩) (VW _ _ _ _)) rfl (kE _) (by omega) (by simp only[World.size_alloc];omega) (z+1) rfl ?_;intro xq c2 w6 hown6 qi VY)
     go_roundw
     case rel=>
      refine⟨pt,_,ByteArray.empty,true,by go_num,rfl,rfl,HN.out,?_,?_⟩
      ·rw[uj.empty]
       show w6.ownsRow _ _ _ _ _ _;have e0:pre++fl false h false=A:=HA.out;rw[e0,List.length_append,HZ.out,kD];simpa[zZ]using hown6
      ·exact(jU.out.alloc jU.out.size _).grown qi (by simp;omega) (λk hk=>yH xN.out k hk)
     case measure=>simp[intOf];omega
    ·exact absurd ⟨hl,HB.out⟩ hn2
  ·obtain rfl:a=s.size:=by omega
   have hd:=hI.eq;rw[TG (by omega)]at hd;have HD:=hid hd;clear hI hd yu hlt;go_wp2;go_ret;refine⟨_,rfl,?_,HB1.out.trans (yg.out.mono hsz1)⟩;rw[HD.out];exact HP.out.lower hsz1
end
set_option maxHeartbeats 8000000
theorem zcY{L:List Pc}{i:Nat}{p:Pc}(h:L[i]?=some p):L.take (i+1)=L.take i++ [p]:=by rw[List.take_add_one,h];rfl
theorem zcZ(L:List Pc)(i:Nat):(xJ (L.take i)).size≤(xJ L).size:=by
 have:=GK (L.take i) (L.drop i);rw[List.take_append_drop]at this;rw[this,ByteArray.size_append];omega
theorem FO(p:Pc):xJ [p]=p.t:=by show p.t++ByteArray.empty=_;rw[ByteArray.append_empty]
theorem zc0(s:ByteArray)(hs:s.size≤60000):(jw s).length≤120001:=by
 have:=Lj (s:=s) (zk:=false) (sub:=uw s) (e:=s.size) (E:=s.size) (xQ:=λ_=>True) (Nat.le_refl _) (Nat.le_refl _) (λ_ _ _ _=>trivial) (λa _ hlt hbn=>⟨trivial,(Zo hlt hbn).1⟩) (λa _ hlt hbn=>FH hlt hbn) s.size 0 ByteArray.empty false trivial (Nat.zero_le _);have e:jw s=rm s false (uw s) s.size s.size 0 ByteArray.empty false:=rfl;rw[e];omega
def zc3(L:List Pc)(n:Nat)(w:World)(v4 v5:Value)(wr:World):Prop:=∃i:Nat,i≤n∧v5=.int .i64 (i:Int)∧v4=.string (xJ (L.take i))∧wr=w
section
variable(w:World)
theorem zc4(s:ByteArray)(hs:s.size≤60000):
  Calls Tryz.prog 58 #[.string s] w λe w'=>e=.returned (.string (xJ (jw s)))∧Below w.heap.size w w':=by
 have htot:=FP s;have hcap:=zc0 s hs;have hps:=zcW w s hs;obtain⟨L,hL⟩:∃L,jw s=L:=⟨_,rfl⟩;rw[hL]at hps htot hcap ⊢;have HPS:=Lib.hid hps;clear hps hL;go_enter Tryz.func58,Tryz.ntmps58
 go_wp2_with fail
 refine(HPS.out).mono ?_;rintro e w1 ⟨v,rfl,hP,hB⟩;obtain⟨oa,n,oc,rfl,yu⟩:=hP.read;have FQ:=Lib.hid yu;have hnl:n≤120001:=by have:=yu.len;omega
 clear hP yu;go_wp2
 go_loopw [4,5] (λv4 v5 wr=>zc3 L n w1 v4 v5 wr) (λ_ v _=>n-(intOf v).toNat)
 case atStart=>exact⟨0,Nat.zero_le _,rfl,rfl,rfl⟩
 case round=>
  obtain⟨i,hi,rfl,rfl,rfl⟩:=hrel;by_cases hlt:(i:Int)<(n:Int)
  ·have hlt':i<n:=by omega
   have q0:(0:Int)≤(i:Int):=by omega
   obtain⟨ob,p,rfl,hp,_,a0,a1,a2⟩:=FQ.out.get hlt';have hsu:=zcY hp;have hle:=zcZ L (i+1);rw[hsu,GK,FO]at hle;have hz:=ByteArray.size_append (a:=xJ (L.take i)) (b:=p.t);obtain⟨X,hX⟩:∃X,xJ (L.take i)=X:=⟨_,rfl⟩;have mi:xJ (L.take (i+1))=X++p.t:=by rw[hsu,GK,FO,hX]
   rw[hX]at hle hz ⊢;obtain⟨T,hT⟩:∃T,p.t=T:=⟨_,rfl⟩;rw[hT]at hle hz a2 mi;obtain⟨Y,hY⟩:∃Y,X++T=Y:=⟨_,rfl⟩;rw[hY]at hle hz mi;have HSU:=Lib.hid mi;have hYz:Y.size≤60000:=by omega
   have hsum:X.size+T.size≤60000:=by omega
   clear hsu hle hz mi hX hp hT htot;go_wp2
   go_roundw
   case rel=>exact⟨i+1,by omega,by go_num,by rw[HSU.out],rfl⟩
   case measure=>simp[intOf];omega
  ·obtain rfl:i=n:=by omega
   have hall:L.take i=L:=List.take_of_length_le (by rw[FQ.out.len];exact Nat.le_refl _);rw[hall];clear hall htot;go_wp2;go_ret;exact⟨rfl,hB⟩
end
end Go.Proofs.YtdjcidackkogjaaGreatDoor

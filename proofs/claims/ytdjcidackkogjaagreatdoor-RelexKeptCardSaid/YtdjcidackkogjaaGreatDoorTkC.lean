/- Tokens: plain definitions, by the document's words -/
import Derived.Test.YtdjcidackkogjaaGreatDoorQh
import Derived.Test.YtdjcidackkogjaaGreatDoorTkA
import Derived.Test.YtdjcidackkogjaaGreatDoorQi
namespace Go.Proofs.YtdjcidackkogjaaGreatDoor
set_option linter.unusedSectionVars false
set_option linter.unusedVariables false
open Lib(hid)
set_option maxHeartbeats 8000000
set_option maxRecDepth 100000
open Go.RowKit
structure Tk where
 kind:Nat
 zf:Nat
 en:Nat
 op:Bool
structure Dl where
 word:ByteArray
 tabs:Bool
structure Lx where
 await:Nat
 pend:List Dl
 body:Bool
def Lx.zero:Lx:=⟨0,[],false⟩
def zS(s:ByteArray)(a:Nat):Nat:=if 0<zC s a 1 then zC s a 1 else if a+1<s.size∧by8 s a=92∧by8 s (a+1)=10 then 2 else 0
theorem dX(s:ByteArray){a:Nat}(ha:a≤s.size):a+zS s a≤s.size:=by
 have:=JE s a 1;unfold zS;split
 ·omega
 ·split<;>omega
def XM(s:ByteArray):Nat→Nat→Nat
 |0,a=>a
 |k+1,a=>if zS s a=0 then a else XM s k (a+zS s a)
def vZ(s:ByteArray)(a:Nat):Nat:=XM s (s.size-a) a
theorem zaY(s:ByteArray):∀(k a j:Nat),a≤s.size→s.size-a≤k→k≤j→XM s j a=XM s k a
 |0,a,0,_,_,_=>rfl
 |0,a,j+1,h0,h1,_=>by
  have:=dX s h0;show(if zS s a=0 then a else _)=a;rw[if_pos (by omega)]
 |k+1,a,0,_,_,h=>by omega
 |k+1,a,j+1,h0,h1,h2=>by
  have:=dX s h0;show(if zS s a=0 then a else XM s j (a+zS s a))=(if zS s a=0 then a else XM s k (a+zS s a));by_cases h:zS s a=0
  ·rw[if_pos h,if_pos h]
  ·rw[if_neg h,if_neg h]
   exact zaY s k _ j (by omega) (by omega) (by omega)
theorem Qp{s:ByteArray}{a:Nat}(h:zS s a=0):vZ s a=a:=by
 unfold vZ
 cases s.size-a with
 |zero=>rfl
 |succ k=>show(if zS s a=0 then a else _)=a;rw[if_pos h]
theorem gm{s:ByteArray}{a:Nat}(ha:a≤s.size)(h:zS s a≠0):vZ s a=vZ s (a+zS s a):=by
 have hle:=dX s ha;unfold vZ;obtain⟨k,hk⟩:∃k,s.size-a=k+1:=⟨s.size-a-1,by omega⟩;rw[hk];show(if zS s a=0 then a else XM s k (a+zS s a))=_;rw[if_neg h];exact zaY s _ _ _ (by omega) (Nat.le_refl _) (by omega)
theorem zaZ(s:ByteArray):∀(k a:Nat),a≤s.size→a≤XM s k a∧XM s k a≤s.size
 |0,a,h=>⟨Nat.le_refl _,h⟩
 |k+1,a,h=>by
  have:=dX s h;show a≤(if zS s a=0 then a else XM s k (a+zS s a))∧(if zS s a=0 then a else XM s k (a+zS s a))≤s.size;split
  ·exact⟨Nat.le_refl _,h⟩
  ·have:=zaZ s k (a+zS s a) (by omega)
   omega
theorem WB{s:ByteArray}{a:Nat}(h:a≤s.size):a≤vZ s a∧vZ s a≤s.size:=zaZ s _ a h
theorem NL{s:ByteArray}{a:Nat}(h:a≤s.size)(hb:zS s a≠0):a<vZ s a:=by
 rw[gm h hb];have:=(WB (s:=s) (a:=a+zS s a) (dX s h)).1;omega
def yO(s:ByteArray)(a:Nat):Nat:=a+xB (λi=>decide (by8 s (a+i)≠10)) (s.size-a)
theorem Jz{s:ByteArray}{a:Nat}(h:a≤s.size):a≤yO s a∧yO s a≤s.size:=by
 have:=Yf (λi=>decide (by8 s (a+i)≠10)) (s.size-a);unfold yO;omega
theorem dY{s:ByteArray}{a:Nat}(h:yO s a<s.size):by8 s (yO s a)=10:=by
 unfold yO at h ⊢;have:=YA (λi=>decide (by8 s (a+i)≠10)) (z:=s.size-a) (by omega);simpa using this
theorem N7{s:ByteArray}{a i:Nat}(h1:a≤i)(h2:i<yO s a):by8 s i≠10:=by
 unfold yO at h2;have:=Yz (λi=>decide (by8 s (a+i)≠10)) (z:=s.size-a) (i:=i-a) (by omega);rw[show a+(i-a)=i by omega]at this;simpa using this
theorem gV{s:ByteArray}{a n:Nat}(h1:a≤n)(h2:n≤s.size)(h3:∀i,a≤i→i<n→by8 s i≠10)(h4:n<s.size→by8 s n=10):yO s a=n:=by
 unfold yO;rw[ZT _ (n:=n-a) (by omega) (λi hi=>by simpa using h3 (a+i) (by omega) (by omega)) (λhi=>by
  have:=h4 (by omega);rw[show a+(n-a)=n by omega];simpa using this)]
 omega
def zG(s:ByteArray)(a:Nat):Nat:=if yO s a<s.size then yO s a+1 else s.size
theorem YV{s:ByteArray}{a:Nat}(h:a<s.size):a<zG s a∧zG s a≤s.size:=by
 have:=Jz (Nat.le_of_lt h);unfold zG;split<;>omega
def vP(s:ByteArray)(a:Nat):Nat:=if a+zC s a 6<s.size∧(by8 s (a+zC s a 6)=60∨by8 s (a+zC s a 6)=62)then zC s a 6 else 0
def xe(s:ByteArray)(a:Nat):Nat:=a+xB (λi=>!vC (xZ s a 0 i) (by8 s (a+i))) (s.size-a)
theorem za0{s:ByteArray}{a n:Nat}(h:QZ s a 0 n):n=xe s a:=by
 obtain⟨h1,h2,h3,h4⟩:=h;unfold xe;rw[ZT _ (n:=n-a) (by omega) (λi hi=>by
  have:=h3 (a+i) (by omega) (by omega);rw[show a+i-a=i by omega]at this;rw[this];rfl) (λhi=>by
  have:=h4 (by omega);rw[show a+(n-a)=n by omega,this];rfl)]
 omega
theorem gW{s:ByteArray}{a:Nat}(h:a≤s.size):a≤xe s a∧xe s a≤s.size:=by
 have:=Yf (λi=>!vC (xZ s a 0 i) (by8 s (a+i))) (s.size-a);unfold xe;omega
def xW(s:ByteArray)(a:Nat):Nat:=
 if zS s a≠0 then 1 else if by8 s a=10 then 2 else if by8 s a=35 then 3 else if yC s a≠0 then 4 else if vP s a≠0 then 5 else 6
def yQ(s:ByteArray)(a:Nat):Nat:=
 if zS s a≠0 then vZ s a else if by8 s a=10 then a+1 else if by8 s a=35 then yO s a else if yC s a≠0 then a+(txt (yC s a)).size else if vP s a≠0 then a+vP s a else xe s a
def qE(t:ByteArray):Bool:=!(ql (zL t t.size).st).isEmpty
def dZ(l:ByteArray)(tabs:Bool):ByteArray:=if tabs=true then⟨(Lib.trimLeftB (Lib.trimSuffix l.data.toList [10]) 9).toArray⟩else⟨(Lib.trimSuffix l.data.toList [10]).toArray⟩
def Z9(l:ByteArray)(d:Dl):Bool:=decide (dZ l d.tabs=d.word)
def uD(t:ByteArray):Nat→Nat→List ByteArray
 |0,a=> []
 |k+1,a=>if a<t.size then t.extract a (zG t a)::uD t k (zG t a)else []
def qF(t:ByteArray):List ByteArray:=uD t t.size 0
theorem za3(t:ByteArray):∀(k a j:Nat),t.size-a≤k→k≤j→uD t j a=uD t k a
 |0,a,0,_,_=>rfl
 |0,a,j+1,h,_=>by
  show(if a<t.size then _ else _)=_;rw[if_neg (by omega)];rfl
 |k+1,a,0,_,h=>by omega
 |k+1,a,j+1,h1,h2=>by
  unfold uD;by_cases h:a<t.size
  ·rw[if_pos h,if_pos h]
   have:=YV h;rw[za3 t k (zG t a) j (by omega) (by omega)]
  ·rw[if_neg h,if_neg h]
theorem zkt{t:ByteArray}{a:Nat}(h:a<t.size):uD t (t.size-a) a=t.extract a (zG t a)::uD t (t.size-zG t a) (zG t a):=by
 have hg:=YV h;obtain⟨k,hk⟩:∃k,t.size-a=k+1:=⟨t.size-a-1,by omega⟩;rw[hk]
 conv=>lhs;unfold uD
 rw[if_pos h,za3 t _ _ _ (Nat.le_refl _) (by omega)]
theorem zku{t:ByteArray}{a:Nat}(h:¬a<t.size):uD t (t.size-a) a=[]:=by
 rw[show t.size-a=0 by omega];rfl
def je(d:Dl):List ByteArray→Nat→Nat×Bool
 | [],n=>(n,false)
 |l::r,n=>if Z9 l d=true then(n+l.size,true)else je d r (n+l.size)
def uF(t:ByteArray):List Dl→Nat×Bool
 | []=>(t.size,false)
 |d::_=>je d (qF t) 0
def zo(s:ByteArray)(a:Nat)(x:Lx):Tk:=
 if x.body=true then⟨7,a,a+(uF (s.extract a s.size) x.pend).1,!(uF (s.extract a s.size) x.pend).2⟩
 else⟨xW s a,a,yQ s a,decide (xW s a=6)&& qE (s.extract a (yQ s a))⟩
def xG(x:Lx)(k:Nat)(op:Bool)(text:ByteArray):Lx:=
 if k=7 then(if op=true then x else⟨x.await,x.pend.tail,!x.pend.tail.isEmpty && x.body⟩)
 else if k=1 then x
 else if k=2 then⟨0,x.pend,!x.pend.isEmpty⟩
 else if k=4 then⟨if jl text=4∨jl text=5 then jl text else 0,x.pend,x.body⟩
 else if k=6∧x.await≠0 then⟨0,x.pend++ [⟨xJ (jw text),decide (x.await=5)⟩],x.body⟩
 else⟨0,x.pend,x.body⟩
def zy(s:ByteArray)(a:Nat)(x:Lx):Lx:=xG x (zo s a x).kind (zo s a x).op (s.extract (zo s a x).zf (zo s a x).en)
def vO(s:ByteArray):Nat→Nat→Lx→List (Tk×Lx)
 |0,a,x=> []
 |k+1,a,x=>if a<s.size then(zo s a x,zy s a x)::vO s k (zo s a x).en (zy s a x)else []
def ui(s:ByteArray):List (Tk×Lx):=vO s s.size 0 Lx.zero
theorem gX{s:ByteArray}{i:Nat}(h:i<s.data.toList.length):(s.data.toList[i]).toNat=by8 s i:=by
 have h':i<s.size:=by simpa using h
 unfold by8;rw[yx h'];rfl
theorem zkv(t:ByteArray):Lib.hasPrefix t.data.toList [92,10]=decide (1<t.size∧by8 t 0=92∧by8 t 1=10):=by
 unfold Lib.hasPrefix;have hsz:t.size=t.data.toList.length:=by simp
 have h0:∀h:0<t.data.toList.length,(t.data.toList[0]).toNat=by8 t 0:=λh=>gX h;have h1:∀h:1<t.data.toList.length,(t.data.toList[1]).toNat=by8 t 1:=λh=>gX h;generalize t.data.toList=l at h0 h1 hsz;rw[hsz]
 match l,h0,h1 with
 | [],_,_=>simp
 | [a],_,_=>simp[List.isPrefixOf]
 |a::b::r,h0,h1=>
  have e0:=h0 (by simp);have e1:=h1 (by simp);simp only[List.getElem_cons_zero,List.getElem_cons_succ]at e0 e1;rw[←e0,←e1,Bool.eq_iff_iff,decide_eq_true_iff];simp only[List.isPrefixOf,Bool.and_true,Bool.and_eq_true,beq_iff_eq,List.length_cons];constructor
  ·rintro⟨h1,h2⟩
   exact⟨by omega,by rw[←h1];rfl,by rw[←h2];rfl⟩
  ·rintro⟨_,h1,h2⟩
   exact⟨(UInt8.toNat_inj.1 h1).symm,(UInt8.toNat_inj.1 h2).symm⟩
theorem za4{s:ByteArray}{a:Nat}(ha:a≤s.size)(c:Nat):qp s (a:Int) (λk=>zC s k c)=((zC s a c:Nat):Int):=by
 unfold qp;by_cases h:a<s.size
 ·rw[if_pos ⟨by omega,by omega⟩,Int.toNat_natCast]
 ·rw[if_neg (by omega)]
  have:=JE s a c;omega
theorem za5(c:UInt8):∀l:List UInt8,(Lib.indexByte l c= -1∧∀b∈l,b≠c)∨∃n:Nat,Lib.indexByte l c=(n:Int)∧∃h:n<l.length,l[n]=c∧∀i (hi:i<n),l[i]≠c
 | []=> .inl ⟨rfl,λb h=>by cases h⟩
 |b::l=>by
  unfold Lib.indexByte;by_cases hb:b=c
  ·right
   exact⟨0,by simp[hb],by simp,by simp[hb],λi hi=>by omega⟩
  ·have hb':(b==c)=false:=beq_eq_false_iff_ne.2 hb
   rw[hb'];rcases za5 c l with⟨h1,h2⟩|⟨n,h1,h2,h3,h4⟩
   ·left
    rw[h1];exact⟨rfl,λx hx=>by rcases List.mem_cons.1 hx with e|e;exact e▸hb;exact h2 x e⟩
   ·right
    rw[h1];have hn:((n:Int)== -1)=false:=beq_eq_false_iff_ne.2 (by omega);rw[hn];refine⟨n+1,by simp,by simp;omega,by simpa using h3,λi hi=>?_⟩
    cases i with
    |zero=>simpa using hb
    |succ i=>simpa using h4 i (by omega)
theorem za6(t:ByteArray):Lib.indexByte t.data.toList 10=if yO t 0<t.size then((yO t 0:Nat):Int)else -1:=by
 have hsz:t.size=t.data.toList.length:=by simp
 rcases za5 10 t.data.toList with⟨h1,h2⟩|⟨n,h1,h2,h3,h4⟩
 ·have:yO t 0=t.size:=gV (Nat.zero_le _) (Nat.le_refl _) (λi _ hi e=>by
   have hi':i<t.data.toList.length:=by omega
   refine h2 _ (List.getElem_mem hi') (UInt8.toNat_inj.1 ?_);rw[gX hi',e];rfl) (λh=>by omega)
  rw[this,if_neg (by omega),h1]
 ·have:yO t 0=n:=gV (Nat.zero_le _) (by omega) (λi _ hi e=>by
   have hi':i<t.data.toList.length:=by omega
   refine h4 i hi (UInt8.toNat_inj.1 ?_);rw[gX hi',e];rfl) (λh=>by rw[←gX h2,h3];rfl)
  rw[this,if_pos (by omega),h1]
section
variable(w:World)
theorem zkw(t:ByteArray)(ht:t.size≤1000000):
  Calls Tryz.prog 106 #[.string t,.string ⟨#[10]⟩] w λe w'=>(∃x y b,e=.returned (.tuple #[.string x,.string y,.bool b])∧x.size=yO t 0)∧Below w.heap.size w w':=by
 have hix:=Tryz.stringslite_Index_one t 10;rw[za6 t]at hix;have hle:=Jz (Nat.zero_le t.size);obtain⟨n,hn⟩:∃n,yO t 0=n:=⟨_,rfl⟩;rw[hn]at hix hle ⊢;have hcut:Calls Tryz.prog 122 #[.string t,.string ⟨#[10]⟩] w λe w'=>(∃x y b,e=.returned (.tuple #[.string x,.string y,.bool b])∧x.size=n)∧Below w.heap.size w w':=by
  by_cases h:n<t.size
  ·rw[if_pos h]at hix
   have gY:=hid hix;have hxz:=vk (s:=t) (a:=0) (b:=n) (by omega);obtain⟨X,hX⟩:∃X,t.extract 0 n=X:=⟨_,rfl⟩;have HX:=hid hxz;rw[hX]at HX;have q1:(n:Int)≤(t.size:Int):=by omega
   have q2:(n:Int)+1≤(t.size:Int):=by omega
   have q3:(0:Int)≤(n:Int):=by omega
   have q4:IntKind.i64.wrap ((n:Int)+1)=(n:Int)+1:=IntWalk.i64_in _ (by omega);clear hix hn hxz;go_enter Tryz.func122,Tryz.ntmps122
   go_wp2_with fail
   refine(gY.out _).mono ?_;rintro e w1 ⟨rfl,rfl⟩;go_wp2
   go_quiet (fail)
   go_wp2;refine bodyPost_ret (v:=.tuple #[.string X,.string (t.extract (n+1) t.size),.bool true]) (by simp[results,Tryz.results122,go_sem]) rfl ?_;exact⟨⟨X,_,_,rfl,by have:=HX.out;omega⟩,below_drewN (Below.refl _ _) _⟩
  ·rw[if_neg h]at hix
   have gY:=hid hix;have hnt:n=t.size:=by omega
   have HNT:=hid hnt;clear hix hn hnt;go_enter Tryz.func122,Tryz.ntmps122
   go_wp2_with fail
   refine(gY.out _).mono ?_;rintro e w1 ⟨rfl,rfl⟩;go_wp2;refine bodyPost_ret (v:=.tuple #[.string t,.string ⟨#[]⟩,.bool false]) (by simp[results,Tryz.results122,go_sem]) rfl ?_;exact⟨⟨t,_,_,rfl,HNT.out.symm⟩,Below.refl _ _⟩
 have zkx:=hid hcut;clear hcut hix hn;go_enter Tryz.func106,Tryz.ntmps106
 go_wp2_with fail
 refine(zkx.out).mono ?_;rintro e w1 ⟨⟨x,y,b,rfl,hx⟩,hB⟩;have HXN:=hid hx;clear hx;go_wp2;refine bodyPost_ret (v:=.tuple #[.string x,.string y,.bool b]) (by simp[results,Tryz.results106,go_sem]) rfl ?_;exact⟨⟨x,y,b,rfl,HXN.out⟩,hB⟩
def zky(s:ByteArray)(a E:Nat)(w:World)(v5:Value)(wr:World):Prop:=∃b:Nat,a≤b∧b≤s.size∧v5=.int .i64 (b:Int)∧vZ s b=E∧Below w.heap.size w wr
theorem zkz(s:ByteArray)(a:Nat)(ha:a≤s.size)(hs:s.size≤1000000):
  Calls Tryz.prog 105 #[.string s,.int .i64 (a:Int)] w λe w'=>e=.returned (.int .i64 ((vZ s a-a:Nat):Int))∧Below w.heap.size w w':=by
 obtain⟨E,hE⟩:∃E,vZ s a=E:=⟨_,rfl⟩;have hEl:=WB ha;rw[hE]at hEl;rw[hE];go_enter Tryz.func105,Tryz.ntmps105;go_wp2
 go_loopw [5] (λv5 wr=>zky s a E w v5 wr) (λv _=>s.size-(intOf v).toNat)
 case atStart=>exact⟨a,Nat.le_refl _,ha,rfl,hE,Below.refl _ _⟩
 case round=>
  obtain⟨b,hab,hbs,rfl,hbe,hB⟩:=hrel;have jF:=hid hbe;have hbl:=λW=>zke s (b:Int) W hs;rw[za4 hbs 1]at hbl;have Cf:=JE s b 1;have hst:zS s b=if 0<zC s b 1 then zC s b 1 else if b+1<s.size∧by8 s b=92∧by8 s (b+1)=10 then 2 else 0:=rfl
  obtain⟨r,hr⟩:∃r,zC s b 1=r:=⟨_,rfl⟩;rw[hr]at hbl Cf hst;have vN:=hid hbl;have q0:(0:Int)≤(b:Int):=by omega
  have q1:(b:Int)≤(s.size:Int):=by omega
  have hsz:=hB.size;by_cases h0:0<r
  ·rw[if_pos h0]at hst
   have hnx:=gm hbs (by omega);rw[hst,hbe]at hnx;have jD:=hid hnx.symm;have t0:((r:Int)==0)=false:=beq_eq_false_iff_ne.2 (by omega);clear hbl hst hr hbe hnx hE
   go_wp2_with fail
   refine(vN.out _).mono ?_;rintro e w1 ⟨rfl,hB1⟩;go_wp2
   go_roundw
   case rel=>exact⟨b+r,by omega,by omega,by go_num,jD.out,hB.trans (hB1.mono hsz)⟩
   case measure=>simp[intOf];omega
  ·obtain rfl:r=0:=by omega
   rw[if_neg h0]at hst;have gZ:=λW=>Tryz.strings_HasPrefix (s.extract b s.size) ⟨#[92,10]⟩ W;have hpe:Lib.hasPrefix (s.extract b s.size).data.toList ((⟨#[92,10]⟩:ByteArray)).data.toList=decide (b+1<s.size∧by8 s b=92∧by8 s (b+1)=10):=by
    have hz:=vk (s:=s) (a:=b) (b:=s.size) (Nat.le_refl _);show Lib.hasPrefix (s.extract b s.size).data.toList [92,10]=_;rw[zkv,hz];by_cases hb1:b+1<s.size
    ·rw[X5 (Nat.le_refl _) (by omega),X5 (Nat.le_refl _) (by omega),Nat.add_zero]
     congr 1;exact propext ⟨λh=>⟨hb1,h.2⟩,λh=>⟨by omega,h.2⟩⟩
    ·rw[decide_eq_false (λh=>by omega),decide_eq_false (λh=>hb1 h.1)]
   rw[hpe]at gZ;by_cases hc:b+1<s.size∧by8 s b=92∧by8 s (b+1)=10
   ·rw[if_pos hc]at hst
    have hnx:=gm hbs (by omega);rw[hst,hbe]at hnx;have jD:=hid hnx.symm;rw[decide_eq_true hc]at gZ;have Dc:=hid gZ;have hb1:=hc.1;clear hbl hst hr hbe hnx hE gZ hpe hc h0
    go_wp2_with fail
    refine(vN.out _).mono ?_;rintro e w1 ⟨rfl,hB1⟩
    go_wp2_with fail
    refine(Dc.out _).mono ?_;rintro e w2 ⟨rfl,rfl⟩;go_wp2
    go_roundw
    case rel=>exact⟨b+2,by omega,by omega,by go_num,jD.out,hB.trans (hB1.mono hsz)⟩
    case measure=>simp[intOf];omega
   ·rw[if_neg hc]at hst
    have Ci:=Qp hst;rw[hbe]at Ci;have HEZ:=hid Ci;rw[decide_eq_false hc]at gZ;have Dc:=hid gZ;clear hbl hst hr hbe Ci hE gZ hpe hc h0
    go_wp2_with fail
    refine(vN.out _).mono ?_;rintro e w1 ⟨rfl,hB1⟩
    go_wp2_with fail
    refine(Dc.out _).mono ?_;rintro e w2 ⟨rfl,rfl⟩;go_wp2;go_ret;refine⟨?_,hB.trans (hB1.mono hsz)⟩;have:=HEZ.out;refine uf ?_;omega
theorem zkA(s:ByteArray)(a:Nat)(ha:a<s.size)(hs:s.size≤1000000):
  Calls Tryz.prog 108 #[.string s,.int .i64 (a:Int)] w λe w'=>e=.returned (.int .i64 ((vP s a:Nat):Int))∧Below w.heap.size w w':=by
 have hdg:=λW=>zkd s (a:Int) W hs;rw[za4 (Nat.le_of_lt ha) 6]at hdg;have Cf:=JE s a 6;have hn:vP s a=if a+zC s a 6<s.size∧(by8 s (a+zC s a 6)=60∨by8 s (a+zC s a 6)=62)then zC s a 6 else 0:=rfl
 obtain⟨r,hr⟩:∃r,zC s a 6=r:=⟨_,rfl⟩;rw[hr]at hdg Cf hn;have N8:=hid hdg;obtain⟨N,hN⟩:∃N,vP s a=N:=⟨_,rfl⟩;rw[hN]at hn ⊢;have q0:(0:Int)≤(a:Int):=by omega
 have q1:IntKind.i64.wrap ((a:Int)+(r:Int))=((a+r:Nat):Int):=by rw[IntWalk.i64_in _ (by omega)];omega
 have q2:(0:Int)≤((a+r:Nat):Int):=by omega
 clear hdg hr hN;by_cases hlt:a+r<s.size
 ·obtain⟨b,hb⟩:∃b,by8 s (a+r)=b:=⟨_,rfl⟩
  rw[hb]at hn;have hix:∀hh:a+r<s.size,(s[a+r]'hh).toNat=b:=λhh=>by rw[←hb];unfold by8;rw[yx hh]
  obtain⟨c,hc⟩:∃c,a+r=c:=⟨_,rfl⟩;rw[hc]at q1 q2 hlt hix hn;have q3:(c:Int)<(s.size:Int):=by omega
  by_cases h60:b=60
  ·have hn2:N=r:=by rw[hn,if_pos ⟨hlt,.inl h60⟩]
   subst h60;have HN:=hid hn2;clear hn hb hc hn2;go_enter Tryz.func108,Tryz.ntmps108
   go_wp2_with fail
   refine(N8.out _).mono ?_;rintro e w1 ⟨rfl,hB1⟩;go_wp2;go_ret;exact⟨by rw[HN.out];rfl,hB1⟩
  ·by_cases Cj:b=62
   ·have hn2:N=r:=by rw[hn,if_pos ⟨hlt,.inr Cj⟩]
    subst Cj;have HN:=hid hn2;clear hn hb hc hn2 h60;go_enter Tryz.func108,Tryz.ntmps108
    go_wp2_with fail
    refine(N8.out _).mono ?_;rintro e w1 ⟨rfl,hB1⟩;go_wp2;go_ret;exact⟨by rw[HN.out];rfl,hB1⟩
   ·have hn2:N=0:=by rw[hn,if_neg (λh=>by omega)]
    have t1:((b:Int)==60)=false:=beq_eq_false_iff_ne.2 (by omega);have t2:((b:Int)==62)=false:=beq_eq_false_iff_ne.2 (by omega);have HN:=hid hn2;clear hn hb hc hn2 h60 Cj;go_enter Tryz.func108,Tryz.ntmps108
    go_wp2_with fail
    refine(N8.out _).mono ?_;rintro e w1 ⟨rfl,hB1⟩;go_wp2;go_ret;exact⟨by rw[HN.out];rfl,hB1⟩
 ·have hn2:N=0:=by rw[hn,if_neg (λh=>hlt h.1)]
  have HN:=hid hn2;have q3:¬((a+r:Nat):Int)<(s.size:Int):=by omega
  obtain⟨c,hc⟩:∃c,a+r=c:=⟨_,rfl⟩;rw[hc]at q1 q2 q3;clear hn hn2 hc;go_enter Tryz.func108,Tryz.ntmps108
  go_wp2_with fail
  refine(N8.out _).mono ?_;rintro e w1 ⟨rfl,hB1⟩;go_wp2;go_ret;exact⟨by rw[HN.out];rfl,hB1⟩
theorem za7{s:ByteArray}{a:Nat}(ha:a≤s.size):yO (s.extract a s.size) 0=yO s a-a:=by
 have hz:=vk (s:=s) (a:=a) (b:=s.size) (Nat.le_refl _);have hle:=Jz ha;refine gV (Nat.zero_le _) (by omega) (λi _ hi=>?_) (λhi=>?_)
 ·rw[X5 (Nat.le_refl _) (by omega)]
  exact N7 (a:=a) (by omega) (by omega)
 ·rw[X5 (Nat.le_refl _) (by omega),show a+(yO s a-a)=yO s a by omega]
  exact dY (by omega)
theorem zkB{s:ByteArray}{a:Nat}(ha:a≤s.size):0<vZ s a-a↔zS s a≠0:=by
 constructor
 ·intro h e
  rw[Qp e]at h;omega
 ·intro h
  have:=NL ha h;omega
theorem za8(s:ByteArray)(a:Nat)(ha:a<s.size)(hs:s.size≤80000)(hT:Tx w):
  Calls Tryz.prog 97 #[.string s,.int .i64 (a:Int)] w λe w'=>e=.returned (.tuple #[.int .i64 ((xW s a:Nat):Int),.int .i64 ((yQ s a-a:Nat):Int)])∧Below w.heap.size w w':=by
 have QA:=hid (λW=>zkz W s a (Nat.le_of_lt ha) (by omega));have hbi:=zkB (s:=s) (Nat.le_of_lt ha);have hk:xW s a=if zS s a≠0 then 1 else if by8 s a=10 then 2 else if by8 s a=35 then 3 else if yC s a≠0 then 4 else if vP s a≠0 then 5 else 6:=rfl
 have he:yQ s a=if zS s a≠0 then vZ s a else if by8 s a=10 then a+1 else if by8 s a=35 then yO s a else if yC s a≠0 then a+(txt (yC s a)).size else if vP s a≠0 then a+vP s a else xe s a:=rfl
 have hbz:zS s a=0→vZ s a-a=0:=λh=>by rw[Qp h];omega
 have q0:(0:Int)≤(a:Int):=by omega
 by_cases h1:zS s a≠0
 ·rw[if_pos h1]at hk he
  have hp:=hbi.2 h1;rw[hk,he];obtain⟨n,hn⟩:∃n,vZ s a-a=n:=⟨_,rfl⟩;rw[hn]at hp ⊢;rw[hn]at QA;have t1:(0:Int)<(n:Int):=by omega
  clear hk he hbi hn h1 hbz;go_enter Tryz.func97,Tryz.ntmps97
  go_wp2_with fail
  refine(QA.out _).mono ?_;rintro e w1 ⟨rfl,hB1⟩;go_wp2;go_ret2;exact⟨rfl,hB1⟩
 ·rw[if_neg h1]at hk he
  rw[hbz (by omega)]at QA;have hix:∀hh:a<s.size,(s[a]'hh).toNat=by8 s a:=λhh=>by unfold by8;rw[yx hh]
  obtain⟨b,hb⟩:∃b,by8 s a=b:=⟨_,rfl⟩;rw[hb]at hk he hix;have q1:(a:Int)<(s.size:Int):=by omega
  have q2:(a:Int)≤(s.size:Int):=by omega
  clear hbz hbi h1 hb;by_cases h2:b=10
  ·rw[if_pos h2]at hk he
   rw[hk,he,show a+1-a=1 by omega];subst h2;clear hk he;go_enter Tryz.func97,Tryz.ntmps97
   go_wp2_with fail
   refine(QA.out _).mono ?_;rintro e w1 ⟨rfl,hB1⟩;go_wp2;go_ret2;exact⟨rfl,hB1⟩
  rw[if_neg h2]at hk he;have t2:((b:Int)==10)=false:=beq_eq_false_iff_ne.2 (by omega);by_cases h3:b=35
  ·rw[if_pos h3]at hk he
   rw[hk,he];have Cm:=λW=>zkw W (s.extract a s.size) (by rw[vk (Nat.le_refl _)];omega);rw[za7 (Nat.le_of_lt ha)]at Cm;have HCU:=hid Cm;subst h3;clear hk he Cm h2 t2;go_enter Tryz.func97,Tryz.ntmps97
   go_wp2_with fail
   refine(QA.out _).mono ?_;rintro e w1 ⟨rfl,hB1⟩
   go_wp2_with fail
   refine(HCU.out _).mono ?_;rintro e w2 ⟨⟨x,y,c,rfl,hx⟩,hB2⟩;have HX:=hid hx;clear hx;go_wp2;go_ret2;refine⟨?_,hB1.trans (hB2.mono hB1.size)⟩;rw[HX.out];rfl
  rw[if_neg h3]at hk he;have t3:((b:Int)==35)=false:=beq_eq_false_iff_ne.2 (by omega);have hop:=λW (hW:Tx W)=>zaU s (a:Int) W (by omega) hW;rw[Ce ha]at hop;have hole:=wo (yC s a);clear h2 h3;by_cases h4:yC s a≠0
  ·rw[if_pos h4]at hk he
   have Gf:=G9 (mZ h4);rw[hk,he,Nat.add_sub_cancel_left];obtain⟨o,ho⟩:∃o,yC s a=o:=⟨_,rfl⟩;rw[ho]at hop Gf ⊢;obtain⟨n,hn⟩:∃n,(txt o).size=n:=⟨_,rfl⟩;rw[hn]at hop Gf ⊢;have N9:=hid hop;have t4:(0:Int)<(n:Int):=by omega
   clear hk he hop hole h4 ho hn;go_enter Tryz.func97,Tryz.ntmps97
   go_wp2_with fail
   refine(QA.out _).mono ?_;rintro e w1 ⟨rfl,hB1⟩
   go_wp2_with fail
   refine(N9.out _ (hT.b hB1)).mono ?_;rintro e w2 ⟨rfl,hB2⟩;go_wp2;go_ret2;exact⟨rfl,hB1.trans (hB2.below)⟩
  rw[if_neg h4]at hk he;have yV:yC s a=0:=by omega
  rw[yV]at hop;have N9:=hid hop;have tu:=hid (λW=>zkA W s a ha (by omega));clear h4 yV hop hole;by_cases h5:vP s a≠0
  ·rw[if_pos h5]at hk he
   rw[hk,he,Nat.add_sub_cancel_left];obtain⟨n,hn⟩:∃n,vP s a=n:=⟨_,rfl⟩;rw[hn]at tu h5 ⊢;have t4:(0:Int)<(n:Int):=by omega
   clear hk he hn h5;go_enter Tryz.func97,Tryz.ntmps97
   go_wp2_with fail
   refine(QA.out _).mono ?_;rintro e w1 ⟨rfl,hB1⟩
   go_wp2_with fail
   refine(N9.out _ (hT.b hB1)).mono ?_;rintro e w2 ⟨rfl,hB2⟩
   go_wp2_with fail
   refine(tu.out _).mono ?_;rintro e w3 ⟨rfl,hB3⟩;have e2:Below w.heap.size w w2:=hB1.trans (hB2.below);go_wp2;go_ret2;exact⟨rfl,e2.trans (hB3.mono e2.size)⟩
  rw[if_neg h5]at hk he;have h50:vP s a=0:=by omega
  rw[h50]at tu;have HWE:=hid (λW=>zdX W s a (Nat.le_of_lt ha) hs);have hwl:=gW (Nat.le_of_lt ha);rw[hk,he];obtain⟨E,hE⟩:∃E,xe s a=E:=⟨_,rfl⟩;rw[hE]at hwl ⊢;have HE:=hid hE;clear hk he h5 h50 hE;go_enter Tryz.func97,Tryz.ntmps97
  go_wp2_with fail
  refine(QA.out _).mono ?_;rintro e w1 ⟨rfl,hB1⟩
  go_wp2_with fail
  refine(N9.out _ (hT.b hB1)).mono ?_;rintro e w2 ⟨rfl,hB2⟩
  go_wp2_with fail
  refine(tu.out _).mono ?_;rintro e w3 ⟨rfl,hB3⟩;have e2:Below w.heap.size w w2:=hB1.trans (hB2.below)
  go_wp2_with fail
  refine(HWE.out _).mono ?_;rintro e w4 ⟨⟨n,rfl,hn⟩,hB4⟩;have hnE:n=E:=(za0 hn).trans HE.out;subst hnE;have e3:=e2.trans (hB3.mono e2.size);have r1:IntKind.i64.wrap ((n:Int)-(a:Int))=((n-a:Nat):Int):=by rw[IntWalk.i64_in _ (by omega)];omega
  clear hn;go_wp2;go_ret2;exact⟨rfl,e3.trans (hB4.mono e3.size)⟩
end
end Go.Proofs.YtdjcidackkogjaaGreatDoor

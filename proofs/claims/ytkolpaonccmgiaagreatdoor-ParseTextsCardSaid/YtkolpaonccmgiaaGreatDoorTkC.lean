/- Tokens: plain definitions, by the document's words -/
import Derived.Test.YtkolpaonccmgiaaGreatDoorQh
import Derived.Test.YtkolpaonccmgiaaGreatDoorTkA
import Derived.Test.YtkolpaonccmgiaaGreatDoorQi
namespace Go.Proofs.YtkolpaonccmgiaaGreatDoor
set_option linter.unusedSectionVars false
set_option linter.unusedVariables false
open Go.Proofs.Tryz
open _root_.Nat renaming le_refl->waa,zero_le->wab
open Lib(hid)
set_option maxHeartbeats 8000000
set_option maxRecDepth 100000
open Go.RowKit
structure Tk where
 kind:Nat
 zh:Nat
 en:Nat
 op:Bool
structure Dl where
 word:ByteArray
 tabs:Bool
structure Lx where
 await:Nat
 pend:List Dl
 body:Bool
def Lx.zero:Lx:=⟨0,[],false⟩
def xM(s:ByteArray)(a:Nat):Nat:=if 0<yP s a 1 then yP s a 1 else if a+1<s.size/\by8 s a=92/\by8 s (a+1)=10 then 2 else 0
theorem TM(s:ByteArray){a:Nat}(ha:a<=s.size):a+xM s a<=s.size:=by
 have:=WX s a 1;unfold xM;split
 ·omega
 ·split<;>omega
def Qw(s:ByteArray):Nat->Nat->Nat
 |0,a=>a
 |k+1,a=>if xM s a=0 then a else Qw s k (a+xM s a)
def qL(s:ByteArray)(a:Nat):Nat:=Qw s (s.size-a) a
theorem zcJ(s:ByteArray):∀(k a j:Nat),a<=s.size->s.size-a<=k->k<=j->Qw s j a=Qw s k a
 |0,a,0,_,_,_=>rfl
 |0,a,j+1,h0,h1,_=>by
  have:=TM s h0;show(if xM s a=0 then a else _)=a;rw[if_pos (by omega)]
 |k+1,a,0,_,_,h=>by omega
 |k+1,a,j+1,h0,h1,h2=>by
  have:=TM s h0;show(if xM s a=0 then a else Qw s j (a+xM s a))=(if xM s a=0 then a else Qw s k (a+xM s a));by_cases h:xM s a=0
  ·rw[if_pos h,if_pos h]
  ·rw[if_neg h,if_neg h]
   exact zcJ s k _ j (by omega) (by omega) (by omega)
theorem TN{s:ByteArray}{a:Nat}(h:xM s a=0):qL s a=a:=by
 unfold qL
 cases s.size-a with
 |zero=>rfl
 |succ k=>show(if xM s a=0 then a else _)=a;rw[if_pos h]
theorem TP{s:ByteArray}{a:Nat}(ha:a<=s.size)(h:xM s a≠0):qL s a=qL s (a+xM s a):=by
 have hle:=TM s ha;unfold qL;obtain⟨k,hk⟩:∃k,s.size-a=k+1:=⟨s.size-a-1,by omega⟩;rw[hk];show(if xM s a=0 then a else Qw s k (a+xM s a))=_;rw[if_neg h];exact zcJ s _ _ _ (by omega) (waa _) (by omega)
theorem zcK(s:ByteArray):∀(k a:Nat),a<=s.size->a<=Qw s k a/\Qw s k a<=s.size
 |0,a,h=>⟨waa _,h⟩
 |k+1,a,h=>by
  have:=TM s h;show a<=(if xM s a=0 then a else Qw s k (a+xM s a))/\(if xM s a=0 then a else Qw s k (a+xM s a))<=s.size;split
  ·exact⟨waa _,h⟩
  ·have:=zcK s k (a+xM s a) (by omega)
   omega
theorem o8{s:ByteArray}{a:Nat}(h:a<=s.size):a<=qL s a/\qL s a<=s.size:=zcK s _ a h
theorem iH{s:ByteArray}{a:Nat}(h:a<=s.size)(hb:xM s a≠0):a<qL s a:=by
 rw[TP h hb];have:=(o8 (s:=s) (a:=a+xM s a) (TM s h)).1;omega
def vk(s:ByteArray)(a:Nat):Nat:=a+vU (λi=>decide (by8 s (a+i)≠10)) (s.size-a)
theorem rX{s:ByteArray}{a:Nat}(h:a<=s.size):a<=vk s a/\vk s a<=s.size:=by
 have:=V5 (λi=>decide (by8 s (a+i)≠10)) (s.size-a);unfold vk;omega
theorem o9{s:ByteArray}{a:Nat}(h:vk s a<s.size):by8 s (vk s a)=10:=by
 unfold vk at h ⊢;have:=QG (λi=>decide (by8 s (a+i)≠10)) (z:=s.size-a) (by omega);simpa using this
theorem iI{s:ByteArray}{a i:Nat}(h1:a<=i)(h2:i<vk s a):by8 s i≠10:=by
 unfold vk at h2;have:=Jn (λi=>decide (by8 s (a+i)≠10)) (z:=s.size-a) (i:=i-a) (by omega);rw[show a+(i-a)=i by omega]at this;simpa using this
theorem DU{s:ByteArray}{a n:Nat}(h1:a<=n)(h2:n<=s.size)(h3:∀i,a<=i->i<n->by8 s i≠10)(h4:n<s.size->by8 s n=10):vk s a=n:=by
 unfold vk;rw[Xq _ (n:=n-a) (by omega) (λi hi=>by simpa using h3 (a+i) (by omega) (by omega)) (λhi=>by
  have:=h4 (by omega);rw[show a+(n-a)=n by omega];simpa using this)]
 omega
def zY(s:ByteArray)(a:Nat):Nat:=if vk s a<s.size then vk s a+1 else s.size
theorem KL{s:ByteArray}{a:Nat}(h:a<s.size):a<zY s a/\zY s a<=s.size:=by
 have:=rX (Nat.le_of_lt h);unfold zY;split<;>omega
def Zo(s:ByteArray)(a:Nat):Nat:=if a+yP s a 6<s.size/\(by8 s (a+yP s a 6)=60\/by8 s (a+yP s a 6)=62)then yP s a 6 else 0
def jb(s:ByteArray)(a:Nat):Nat:=a+vU (λi=>!je (jJ s a 0 i) (by8 s (a+i))) (s.size-a)
theorem zmn{s:ByteArray}{a n:Nat}(h:JD s a 0 n):n=jb s a:=by
 obtain⟨h1,h2,h3,h4⟩:=h;unfold jb;rw[Xq _ (n:=n-a) (by omega) (λi hi=>by
  have:=h3 (a+i) (by omega) (by omega);rw[show a+i-a=i by omega]at this;rw[this];rfl) (λhi=>by
  have:=h4 (by omega);rw[show a+(n-a)=n by omega,this];rfl)]
 omega
theorem TQ{s:ByteArray}{a:Nat}(h:a<=s.size):a<=jb s a/\jb s a<=s.size:=by
 have:=V5 (λi=>!je (jJ s a 0 i) (by8 s (a+i))) (s.size-a);unfold jb;omega
def jZ(s:ByteArray)(a:Nat):Nat:=
 if xM s a≠0 then 1 else if by8 s a=10 then 2 else if by8 s a=35 then 3 else if yS s a≠0 then 4 else if Zo s a≠0 then 5 else 6
def uD(s:ByteArray)(a:Nat):Nat:=
 if xM s a≠0 then qL s a else if by8 s a=10 then a+1 else if by8 s a=35 then vk s a else if yS s a≠0 then a+(txt (yS s a)).size else if Zo s a≠0 then a+Zo s a else jb s a
def Z7(t:ByteArray):Bool:=!(ZN (zU t t.size).st).isEmpty
def TR(l:ByteArray)(tabs:Bool):ByteArray:=if tabs=true then⟨(Lib.trimLeftB (Lib.trimSuffix l.data.toList [10]) 9).toArray⟩else⟨(Lib.trimSuffix l.data.toList [10]).toArray⟩
def Vw(l:ByteArray)(d:Dl):Bool:=decide (TR l d.tabs=d.word)
def qX(t:ByteArray):Nat->Nat->List ByteArray
 |0,a=> []
 |k+1,a=>if a<t.size then t.extract a (zY t a)::qX t k (zY t a)else []
def Z8(t:ByteArray):List ByteArray:=qX t t.size 0
theorem zcL(t:ByteArray):∀(k a j:Nat),t.size-a<=k->k<=j->qX t j a=qX t k a
 |0,a,0,_,_=>rfl
 |0,a,j+1,h,_=>by
  show(if a<t.size then _ else _)=_;rw[if_neg (by omega)];rfl
 |k+1,a,0,_,h=>by omega
 |k+1,a,j+1,h1,h2=>by
  unfold qX;by_cases h:a<t.size
  ·rw[if_pos h,if_pos h]
   have:=KL h;rw[zcL t k (zY t a) j (by omega) (by omega)]
  ·rw[if_neg h,if_neg h]
theorem zmo{t:ByteArray}{a:Nat}(h:a<t.size):qX t (t.size-a) a=t.extract a (zY t a)::qX t (t.size-zY t a) (zY t a):=by
 have hg:=KL h;obtain⟨k,hk⟩:∃k,t.size-a=k+1:=⟨t.size-a-1,by omega⟩;rw[hk]
 conv=>lhs;unfold qX
 rw[if_pos h,zcL t _ _ _ (waa _) (by omega)]
theorem zmp{t:ByteArray}{a:Nat}(h:¬a<t.size):qX t (t.size-a) a=[]:=by
 rw[show t.size-a=0 by omega];rfl
def Zp(d:Dl):List ByteArray->Nat->Nat×Bool
 | [],n=>(n,false)
 |l::r,n=>if Vw l d=true then(n+l.size,true)else Zp d r (n+l.size)
def Z9(t:ByteArray):List Dl->Nat×Bool
 | []=>(t.size,false)
 |d::_=>Zp d (Z8 t) 0
def xB(s:ByteArray)(a:Nat)(x:Lx):Tk:=
 if x.body=true then⟨7,a,a+(Z9 (s.extract a s.size) x.pend).1,!(Z9 (s.extract a s.size) x.pend).2⟩
 else⟨jZ s a,a,uD s a,decide (jZ s a=6)&& Z7 (s.extract a (uD s a))⟩
def jw(x:Lx)(k:Nat)(op:Bool)(text:ByteArray):Lx:=
 if k=7 then(if op=true then x else⟨x.await,x.pend.tail,!x.pend.tail.isEmpty && x.body⟩)
 else if k=1 then x
 else if k=2 then⟨0,x.pend,!x.pend.isEmpty⟩
 else if k=4 then⟨if vI text=4\/vI text=5 then vI text else 0,x.pend,x.body⟩
 else if k=6/\x.await≠0 then⟨0,x.pend++ [⟨vW (kS text),decide (x.await=5)⟩],x.body⟩
 else⟨0,x.pend,x.body⟩
def qY(s:ByteArray)(a:Nat)(x:Lx):Lx:=jw x (xB s a x).kind (xB s a x).op (s.extract (xB s a x).zh (xB s a x).en)
def Yj(s:ByteArray):Nat->Nat->Lx->List (Tk×Lx)
 |0,a,x=> []
 |k+1,a,x=>if a<s.size then(xB s a x,qY s a x)::Yj s k (xB s a x).en (qY s a x)else []
def vY(s:ByteArray):List (Tk×Lx):=Yj s s.size 0 Lx.zero
theorem rY{s:ByteArray}{i:Nat}(h:i<s.data.toList.length):(s.data.toList[i]).toNat=by8 s i:=by
 have h':i<s.size:=by simpa using h
 unfold by8;rw[zT h'];rfl
theorem zmq(t:ByteArray):Lib.hasPrefix t.data.toList [92,10]=decide (1<t.size/\by8 t 0=92/\by8 t 1=10):=by
 unfold Lib.hasPrefix;have hsz:t.size=t.data.toList.length:=by simp
 have h0:∀h:0<t.data.toList.length,(t.data.toList[0]).toNat=by8 t 0:=λh=>rY h;have h1:∀h:1<t.data.toList.length,(t.data.toList[1]).toNat=by8 t 1:=λh=>rY h;generalize t.data.toList=l at h0 h1 hsz;rw[hsz]
 match l,h0,h1 with
 | [],_,_=>simp
 | [a],_,_=>simp[List.isPrefixOf]
 |a::b::r,h0,h1=>
  have e0:=h0 (by simp);have e1:=h1 (by simp);simp only[List.getElem_cons_zero,List.getElem_cons_succ]at e0 e1;rw[←e0,←e1,Bool.eq_iff_iff,decide_eq_true_iff];simp only[List.isPrefixOf,Bool.and_true,Bool.and_eq_true,beq_iff_eq,List.length_cons];constructor
  ·rintro⟨h1,h2⟩
   exact⟨by omega,by rw[←h1];rfl,by rw[←h2];rfl⟩
  ·rintro⟨_,h1,h2⟩
   exact⟨(UInt8.toNat_inj.1 h1).symm,(UInt8.toNat_inj.1 h2).symm⟩
theorem zcM{s:ByteArray}{a:Nat}(ha:a<=s.size)(c:Nat):ql s (a:Int) (λk=>yP s k c)=((yP s a c:Nat):Int):=by
 unfold ql;by_cases h:a<s.size
 ·rw[if_pos ⟨by omega,by omega⟩,Int.toNat_natCast]
 ·rw[if_neg (by omega)]
  have:=WX s a c;omega
theorem zcN(c:UInt8):∀l:List UInt8,(Lib.indexByte l c= -1/\∀b∈l,b≠c)\/∃n:Nat,Lib.indexByte l c=(n:Int)/\∃h:n<l.length,l[n]=c/\∀i (hi:i<n),l[i]≠c
 | []=> .inl ⟨rfl,λb h=>by cases h⟩
 |b::l=>by
  unfold Lib.indexByte;by_cases hb:b=c
  ·right
   exact⟨0,by simp[hb],by simp,by simp[hb],λi hi=>by omega⟩
  ·have hb':(b==c)=false:=beq_eq_false_iff_ne.2 hb
   rw[hb'];rcases zcN c l with⟨h1,h2⟩|⟨n,h1,h2,h3,h4⟩
   ·left
    rw[h1];exact⟨rfl,λx hx=>by rcases List.mem_cons.1 hx with e|e;exact e▸hb;exact h2 x e⟩
   ·right
    rw[h1];have hn:((n:Int)== -1)=false:=beq_eq_false_iff_ne.2 (by omega);rw[hn];refine⟨n+1,by simp,by simp;omega,by simpa using h3,λi hi=>?_⟩
    cases i with
    |zero=>simpa using hb
    |succ i=>simpa using h4 i (by omega)
theorem zcO(t:ByteArray):Lib.indexByte t.data.toList 10=if vk t 0<t.size then((vk t 0:Nat):Int)else -1:=by
 have hsz:t.size=t.data.toList.length:=by simp
 rcases zcN 10 t.data.toList with⟨h1,h2⟩|⟨n,h1,h2,h3,h4⟩
 ·have:vk t 0=t.size:=DU (wab _) (waa _) (λi _ hi e=>by
   have hi':i<t.data.toList.length:=by omega
   refine h2 _ (List.getElem_mem hi') (UInt8.toNat_inj.1 ?_);rw[rY hi',e];rfl) (λh=>by omega)
  rw[this,if_neg (by omega),h1]
 ·have:vk t 0=n:=DU (wab _) (by omega) (λi _ hi e=>by
   have hi':i<t.data.toList.length:=by omega
   refine h4 i hi (UInt8.toNat_inj.1 ?_);rw[rY hi',e];rfl) (λh=>by rw[←rY h2,h3];rfl)
  rw[this,if_pos (by omega),h1]
section
variable(w:World)
theorem zmr(t:ByteArray)(ht:t.size<=1000000):
  Calls prog 160 #[.string t,.string ⟨#[10]⟩] w λe w'=>(∃x y b,e=.returned (.tuple #[.string x,.string y,.bool b])/\x.size=vk t 0)/\Below w.heap.size w w':=by
 have hix:=Tryz.stringslite_Index_one t 10;rw[zcO t]at hix;have hle:=rX (wab t.size);obtain⟨n,hn⟩:∃n,vk t 0=n:=⟨_,rfl⟩;rw[hn]at hix hle ⊢;have hcut:Calls prog 189 #[.string t,.string ⟨#[10]⟩] w λe w'=>(∃x y b,e=.returned (.tuple #[.string x,.string y,.bool b])/\x.size=n)/\Below w.heap.size w w':=by
  by_cases h:n<t.size
  ·rw[if_pos h]at hix
   have rZ:=hid hix;have hxz:=uX (s:=t) (a:=0) (b:=n) (by omega);obtain⟨X,hX⟩:∃X,t.extract 0 n=X:=⟨_,rfl⟩;have HX:=hid hxz;rw[hX]at HX;have q1:(n:Int)<=(t.size:Int):=by omega
   have q2:(n:Int)+1<=(t.size:Int):=by omega
   have q3:(0:Int)<=(n:Int):=by omega
   have q4:IntKind.i64.wrap ((n:Int)+1)=(n:Int)+1:=IntWalk.i64_in _ (by omega);clear hix hn hxz;go_enter func189,ntmps189
   go_wp2_with fail
   refine(rZ.out _).mono ?_;rintro e w1 ⟨rfl,rfl⟩;go_wp2
   go_quiet (fail)
   go_wp2;refine bodyPost_ret (v:=.tuple #[.string X,.string (t.extract (n+1) t.size),.bool true]) (by simp[results,results189,go_sem]) rfl ?_;exact⟨⟨X,_,_,rfl,by have:=HX.out;omega⟩,below_drewN (Below.refl _ _) _⟩
  ·rw[if_neg h]at hix
   have rZ:=hid hix;have hnt:n=t.size:=by omega
   have HNT:=hid hnt;clear hix hn hnt;go_enter func189,ntmps189
   go_wp2_with fail
   refine(rZ.out _).mono ?_;rintro e w1 ⟨rfl,rfl⟩;go_wp2;refine bodyPost_ret (v:=.tuple #[.string t,.string ⟨#[]⟩,.bool false]) (by simp[results,results189,go_sem]) rfl ?_;exact⟨⟨t,_,_,rfl,HNT.out.symm⟩,Below.refl _ _⟩
 have zms:=hid hcut;clear hcut hix hn;go_enter func160,ntmps160
 go_wp2_with fail
 refine(zms.out).mono ?_;rintro e w1 ⟨⟨x,y,b,rfl,hx⟩,hB⟩;have HXN:=hid hx;clear hx;go_wp2;refine bodyPost_ret (v:=.tuple #[.string x,.string y,.bool b]) (by simp[results,results160,go_sem]) rfl ?_;exact⟨⟨x,y,b,rfl,HXN.out⟩,hB⟩
def zmt(s:ByteArray)(a E:Nat)(w:World)(v5:Value)(wr:World):Prop:=∃b:Nat,a<=b/\b<=s.size/\v5=.int .i64 (b:Int)/\qL s b=E/\Below w.heap.size w wr
theorem zmu(s:ByteArray)(a:Nat)(ha:a<=s.size)(hs:s.size<=1000000):
  Calls prog 159 #[.string s,.int .i64 (a:Int)] w λe w'=>e=.returned (.int .i64 ((qL s a-a:Nat):Int))/\Below w.heap.size w w':=by
 obtain⟨E,hE⟩:∃E,qL s a=E:=⟨_,rfl⟩;have hEl:=o8 ha;rw[hE]at hEl;rw[hE];go_enter func159,ntmps159;go_wp2
 go_loopw [5] (λv5 wr=>zmt s a E w v5 wr) (λv _=>s.size-(intOf v).toNat)
 case atStart=>exact⟨a,waa _,ha,rfl,hE,Below.refl _ _⟩
 case round=>
  obtain⟨b,hab,hbs,rfl,hbe,hB⟩:=hrel;have Zl:=hid hbe;have hbl:=λW=>zmh s (b:Int) W hs;rw[zcM hbs 1]at hbl;have iJ:=WX s b 1;have hst:xM s b=if 0<yP s b 1 then yP s b 1 else if b+1<s.size/\by8 s b=92/\by8 s (b+1)=10 then 2 else 0:=rfl
  obtain⟨r,hr⟩:∃r,yP s b 1=r:=⟨_,rfl⟩;rw[hr]at hbl iJ hst;have qG:=hid hbl;have q0:(0:Int)<=(b:Int):=by omega
  have q1:(b:Int)<=(s.size:Int):=by omega
  have hsz:=hB.size;by_cases h0:0<r
  ·rw[if_pos h0]at hst
   have hnx:=TP hbs (by omega);rw[hst,hbe]at hnx;have ZF:=hid hnx.symm;have t0:((r:Int)==0)=false:=beq_eq_false_iff_ne.2 (by omega);clear hbl hst hr hbe hnx hE
   go_wp2_with fail
   refine(qG.out _).mono ?_;rintro e w1 ⟨rfl,hB1⟩;go_wp2
   go_roundw
   case rel=>exact⟨b+r,by omega,by omega,by go_num,ZF.out,hB.trans (hB1.mono hsz)⟩
   case measure=>simp[intOf];omega
  ·obtain rfl:r=0:=by omega
   rw[if_neg h0]at hst;have KJ:=λW=>Tryz.strings_HasPrefix (s.extract b s.size) ⟨#[92,10]⟩ W;have hpe:Lib.hasPrefix (s.extract b s.size).data.toList ((⟨#[92,10]⟩:ByteArray)).data.toList=decide (b+1<s.size/\by8 s b=92/\by8 s (b+1)=10):=by
    have hz:=uX (s:=s) (a:=b) (b:=s.size) (waa _);show Lib.hasPrefix (s.extract b s.size).data.toList [92,10]=_;rw[zmq,hz];by_cases hb1:b+1<s.size
    ·rw[QM (waa _) (by omega),QM (waa _) (by omega),Nat.add_zero]
     congr 1;exact propext ⟨λh=>⟨hb1,h.2⟩,λh=>⟨by omega,h.2⟩⟩
    ·rw[decide_eq_false (λh=>by omega),decide_eq_false (λh=>hb1 h.1)]
   rw[hpe]at KJ;by_cases hc:b+1<s.size/\by8 s b=92/\by8 s (b+1)=10
   ·rw[if_pos hc]at hst
    have hnx:=TP hbs (by omega);rw[hst,hbe]at hnx;have ZF:=hid hnx.symm;rw[decide_eq_true hc]at KJ;have TS:=hid KJ;have hb1:=hc.1;clear hbl hst hr hbe hnx hE KJ hpe hc h0
    go_wp2_with fail
    refine(qG.out _).mono ?_;rintro e w1 ⟨rfl,hB1⟩
    go_wp2_with fail
    refine(TS.out _).mono ?_;rintro e w2 ⟨rfl,rfl⟩;go_wp2
    go_roundw
    case rel=>exact⟨b+2,by omega,by omega,by go_num,ZF.out,hB.trans (hB1.mono hsz)⟩
    case measure=>simp[intOf];omega
   ·rw[if_neg hc]at hst
    have iK:=TN hst;rw[hbe]at iK;have HEZ:=hid iK;rw[decide_eq_false hc]at KJ;have TS:=hid KJ;clear hbl hst hr hbe iK hE KJ hpe hc h0
    go_wp2_with fail
    refine(qG.out _).mono ?_;rintro e w1 ⟨rfl,hB1⟩
    go_wp2_with fail
    refine(TS.out _).mono ?_;rintro e w2 ⟨rfl,rfl⟩;go_wp2;go_ret;refine⟨?_,hB.trans (hB1.mono hsz)⟩;have:=HEZ.out;refine qc ?_;omega
theorem zmv(s:ByteArray)(a:Nat)(ha:a<s.size)(hs:s.size<=1000000):
  Calls prog 161 #[.string s,.int .i64 (a:Int)] w λe w'=>e=.returned (.int .i64 ((Zo s a:Nat):Int))/\Below w.heap.size w w':=by
 have hdg:=λW=>zmg s (a:Int) W hs;rw[zcM (Nat.le_of_lt ha) 6]at hdg;have iJ:=WX s a 6;have hn:Zo s a=if a+yP s a 6<s.size/\(by8 s (a+yP s a 6)=60\/by8 s (a+yP s a 6)=62)then yP s a 6 else 0:=rfl
 obtain⟨r,hr⟩:∃r,yP s a 6=r:=⟨_,rfl⟩;rw[hr]at hdg iJ hn;have Oa:=hid hdg;obtain⟨N,hN⟩:∃N,Zo s a=N:=⟨_,rfl⟩;rw[hN]at hn ⊢;have q0:(0:Int)<=(a:Int):=by omega
 have q1:IntKind.i64.wrap ((a:Int)+(r:Int))=((a+r:Nat):Int):=by rw[IntWalk.i64_in _ (by omega)];omega
 have q2:(0:Int)<=((a+r:Nat):Int):=by omega
 clear hdg hr hN;by_cases hlt:a+r<s.size
 ·obtain⟨b,hb⟩:∃b,by8 s (a+r)=b:=⟨_,rfl⟩
  rw[hb]at hn;have hix:∀hh:a+r<s.size,(s[a+r]'hh).toNat=b:=λhh=>by rw[←hb];unfold by8;rw[zT hh]
  obtain⟨c,hc⟩:∃c,a+r=c:=⟨_,rfl⟩;rw[hc]at q1 q2 hlt hix hn;have q3:(c:Int)<(s.size:Int):=by omega
  by_cases h60:b=60
  ·have hn2:N=r:=by rw[hn,if_pos ⟨hlt,.inl h60⟩]
   subst h60;have HN:=hid hn2;clear hn hb hc hn2;go_enter func161,ntmps161
   go_wp2_with fail
   refine(Oa.out _).mono ?_;rintro e w1 ⟨rfl,hB1⟩;go_wp2;go_ret;exact⟨by rw[HN.out];rfl,hB1⟩
  ·by_cases iL:b=62
   ·have hn2:N=r:=by rw[hn,if_pos ⟨hlt,.inr iL⟩]
    subst iL;have HN:=hid hn2;clear hn hb hc hn2 h60;go_enter func161,ntmps161
    go_wp2_with fail
    refine(Oa.out _).mono ?_;rintro e w1 ⟨rfl,hB1⟩;go_wp2;go_ret;exact⟨by rw[HN.out];rfl,hB1⟩
   ·have hn2:N=0:=by rw[hn,if_neg (λh=>by omega)]
    have t1:((b:Int)==60)=false:=beq_eq_false_iff_ne.2 (by omega);have t2:((b:Int)==62)=false:=beq_eq_false_iff_ne.2 (by omega);have HN:=hid hn2;clear hn hb hc hn2 h60 iL;go_enter func161,ntmps161
    go_wp2_with fail
    refine(Oa.out _).mono ?_;rintro e w1 ⟨rfl,hB1⟩;go_wp2;go_ret;exact⟨by rw[HN.out];rfl,hB1⟩
 ·have hn2:N=0:=by rw[hn,if_neg (λh=>hlt h.1)]
  have HN:=hid hn2;have q3:¬((a+r:Nat):Int)<(s.size:Int):=by omega
  obtain⟨c,hc⟩:∃c,a+r=c:=⟨_,rfl⟩;rw[hc]at q1 q2 q3;clear hn hn2 hc;go_enter func161,ntmps161
  go_wp2_with fail
  refine(Oa.out _).mono ?_;rintro e w1 ⟨rfl,hB1⟩;go_wp2;go_ret;exact⟨by rw[HN.out];rfl,hB1⟩
theorem zcP{s:ByteArray}{a:Nat}(ha:a<=s.size):vk (s.extract a s.size) 0=vk s a-a:=by
 have hz:=uX (s:=s) (a:=a) (b:=s.size) (waa _);have hle:=rX ha;refine DU (wab _) (by omega) (λi _ hi=>?_) (λhi=>?_)
 ·rw[QM (waa _) (by omega)]
  exact iI (a:=a) (by omega) (by omega)
 ·rw[QM (waa _) (by omega),show a+(vk s a-a)=vk s a by omega]
  exact o9 (by omega)
theorem zmw{s:ByteArray}{a:Nat}(ha:a<=s.size):0<qL s a-a↔xM s a≠0:=by
 constructor
 ·intro h e
  rw[TN e]at h;omega
 ·intro h
  have:=iH ha h;omega
theorem zcQ(s:ByteArray)(a:Nat)(ha:a<s.size)(hs:s.size<=80000)(hT:Tx w):
  Calls prog 131 #[.string s,.int .i64 (a:Int)] w λe w'=>e=.returned (.tuple #[.int .i64 ((jZ s a:Nat):Int),.int .i64 ((uD s a-a:Nat):Int)])/\Below w.heap.size w w':=by
 have Qo:=hid (λW=>zmu W s a (Nat.le_of_lt ha) (by omega));have hbi:=zmw (s:=s) (Nat.le_of_lt ha);have hk:jZ s a=if xM s a≠0 then 1 else if by8 s a=10 then 2 else if by8 s a=35 then 3 else if yS s a≠0 then 4 else if Zo s a≠0 then 5 else 6:=rfl
 have he:uD s a=if xM s a≠0 then qL s a else if by8 s a=10 then a+1 else if by8 s a=35 then vk s a else if yS s a≠0 then a+(txt (yS s a)).size else if Zo s a≠0 then a+Zo s a else jb s a:=rfl
 have hbz:xM s a=0->qL s a-a=0:=λh=>by rw[TN h];omega
 have q0:(0:Int)<=(a:Int):=by omega
 by_cases h1:xM s a≠0
 ·rw[if_pos h1]at hk he
  have hp:=hbi.2 h1;rw[hk,he];obtain⟨n,hn⟩:∃n,qL s a-a=n:=⟨_,rfl⟩;rw[hn]at hp ⊢;rw[hn]at Qo;have t1:(0:Int)<(n:Int):=by omega
  clear hk he hbi hn h1 hbz;go_enter func131,ntmps131
  go_wp2_with fail
  refine(Qo.out _).mono ?_;rintro e w1 ⟨rfl,hB1⟩;go_wp2;go_ret2;exact⟨rfl,hB1⟩
 ·rw[if_neg h1]at hk he
  rw[hbz (by omega)]at Qo;have hix:∀hh:a<s.size,(s[a]'hh).toNat=by8 s a:=λhh=>by unfold by8;rw[zT hh]
  obtain⟨b,hb⟩:∃b,by8 s a=b:=⟨_,rfl⟩;rw[hb]at hk he hix;have q1:(a:Int)<(s.size:Int):=by omega
  have q2:(a:Int)<=(s.size:Int):=by omega
  clear hbz hbi h1 hb;by_cases h2:b=10
  ·rw[if_pos h2]at hk he
   rw[hk,he,show a+1-a=1 by omega];subst h2;clear hk he;go_enter func131,ntmps131
   go_wp2_with fail
   refine(Qo.out _).mono ?_;rintro e w1 ⟨rfl,hB1⟩;go_wp2;go_ret2;exact⟨rfl,hB1⟩
  rw[if_neg h2]at hk he;have t2:((b:Int)==10)=false:=beq_eq_false_iff_ne.2 (by omega);by_cases h3:b=35
  ·rw[if_pos h3]at hk he
   rw[hk,he];have Ll:=λW=>zmr W (s.extract a s.size) (by rw[uX (waa _)];omega);rw[zcP (Nat.le_of_lt ha)]at Ll;have HCU:=hid Ll;subst h3;clear hk he Ll h2 t2;go_enter func131,ntmps131
   go_wp2_with fail
   refine(Qo.out _).mono ?_;rintro e w1 ⟨rfl,hB1⟩
   go_wp2_with fail
   refine(HCU.out _).mono ?_;rintro e w2 ⟨⟨x,y,c,rfl,hx⟩,hB2⟩;have HX:=hid hx;clear hx;go_wp2;go_ret2;refine⟨?_,hB1.trans (hB2.mono hB1.size)⟩;rw[HX.out];rfl
  rw[if_neg h3]at hk he;have t3:((b:Int)==35)=false:=beq_eq_false_iff_ne.2 (by omega);have hop:=λW (hW:Tx W)=>zcI s (a:Int) W (by omega) hW;rw[DR ha]at hop;have hole:=Lc (yS s a);clear h2 h3;by_cases h4:yS s a≠0
  ·rw[if_pos h4]at hk he
   have Rf:=dI (nS h4);rw[hk,he,Nat.add_sub_cancel_left];obtain⟨o,ho⟩:∃o,yS s a=o:=⟨_,rfl⟩;rw[ho]at hop Rf ⊢;obtain⟨n,hn⟩:∃n,(txt o).size=n:=⟨_,rfl⟩;rw[hn]at hop Rf ⊢;have DT:=hid hop;have t4:(0:Int)<(n:Int):=by omega
   clear hk he hop hole h4 ho hn;go_enter func131,ntmps131
   go_wp2_with fail
   refine(Qo.out _).mono ?_;rintro e w1 ⟨rfl,hB1⟩
   go_wp2_with fail
   refine(DT.out _ (hT.b hB1)).mono ?_;rintro e w2 ⟨rfl,hB2⟩;go_wp2;go_ret2;exact⟨rfl,hB1.trans (hB2.below)⟩
  rw[if_neg h4]at hk he;have yZ:yS s a=0:=by omega
  rw[yZ]at hop;have DT:=hid hop;have Ob:=hid (λW=>zmv W s a ha (by omega));clear h4 yZ hop hole;by_cases h5:Zo s a≠0
  ·rw[if_pos h5]at hk he
   rw[hk,he,Nat.add_sub_cancel_left];obtain⟨n,hn⟩:∃n,Zo s a=n:=⟨_,rfl⟩;rw[hn]at Ob h5 ⊢;have t4:(0:Int)<(n:Int):=by omega
   clear hk he hn h5;go_enter func131,ntmps131
   go_wp2_with fail
   refine(Qo.out _).mono ?_;rintro e w1 ⟨rfl,hB1⟩
   go_wp2_with fail
   refine(DT.out _ (hT.b hB1)).mono ?_;rintro e w2 ⟨rfl,hB2⟩
   go_wp2_with fail
   refine(Ob.out _).mono ?_;rintro e w3 ⟨rfl,hB3⟩;have e2:Below w.heap.size w w2:=hB1.trans (hB2.below);go_wp2;go_ret2;exact⟨rfl,e2.trans (hB3.mono e2.size)⟩
  rw[if_neg h5]at hk he;have h50:Zo s a=0:=by omega
  rw[h50]at Ob;have HWE:=hid (λW=>zfM W s a (Nat.le_of_lt ha) hs);have hwl:=TQ (Nat.le_of_lt ha);rw[hk,he];obtain⟨E,hE⟩:∃E,jb s a=E:=⟨_,rfl⟩;rw[hE]at hwl ⊢;have HE:=hid hE;clear hk he h5 h50 hE;go_enter func131,ntmps131
  go_wp2_with fail
  refine(Qo.out _).mono ?_;rintro e w1 ⟨rfl,hB1⟩
  go_wp2_with fail
  refine(DT.out _ (hT.b hB1)).mono ?_;rintro e w2 ⟨rfl,hB2⟩
  go_wp2_with fail
  refine(Ob.out _).mono ?_;rintro e w3 ⟨rfl,hB3⟩;have e2:Below w.heap.size w w2:=hB1.trans (hB2.below)
  go_wp2_with fail
  refine(HWE.out _).mono ?_;rintro e w4 ⟨⟨n,rfl,hn⟩,hB4⟩;have hnE:n=E:=(zmn hn).trans HE.out;subst hnE;have e3:=e2.trans (hB3.mono e2.size);have r1:IntKind.i64.wrap ((n:Int)-(a:Int))=((n-a:Nat):Int):=by rw[IntWalk.i64_in _ (by omega)];omega
  clear hn;go_wp2;go_ret2;exact⟨rfl,e3.trans (hB4.mono e3.size)⟩
end
end Go.Proofs.YtkolpaonccmgiaaGreatDoor

/- Tokens: plain definitions, by the document's words -/
import Derived.Test.YtkolpaonccmgiaaGreatDoorQh
import Derived.Test.YtkolpaonccmgiaaGreatDoorTkA
import Derived.Test.YtkolpaonccmgiaaGreatDoorQi
set_option linter.unusedVariables false
namespace Go.Proofs.YtkolpaonccmgiaaGreatDoor
set_option linter.unusedSectionVars false
set_option linter.unusedVariables false
open Go.RowKit
structure Tk where
 kind:Nat
 frm:Nat
 en:Nat
 op:Bool
structure Dl where
 word:ByteArray
 tabs:Bool
structure Lx where
 await:Nat
 pend:List Dl
 body:Bool
def Lx.zero:Lx:=⟨0,[],false⟩
def bstep (s:ByteArray) (a:Nat):Nat:=if 0<rowN s a 1 then rowN s a 1 else if a+1<s.size∧by8 s a=92∧by8 s (a+1)=10 then 2 else 0
theorem bstep_le (s:ByteArray) {a:Nat} (ha:a≤s.size):a+bstep s a≤s.size:=by
 have:=rowN_le s a 1
 unfold bstep
 split
 ·omega
 ·split<;>omega
def blF (s:ByteArray):Nat→Nat→Nat
 |0,a=>a
 |k+1,a=>if bstep s a=0 then a else blF s k (a+bstep s a)
def blE (s:ByteArray) (a:Nat):Nat:=blF s (s.size - a) a
theorem blF_more (s:ByteArray):∀(k a j:Nat),a≤s.size→s.size - a≤k→k≤j→blF s j a=blF s k a
 |0,a,0,_,_,_=>rfl
 |0,a,j+1,h0,h1,_=>by
  have:=bstep_le s h0
  show(if bstep s a=0 then a else _)=a
  rw [if_pos (by omega)]
 |k+1,a,0,_,_,h=>by omega
 |k+1,a,j+1,h0,h1,h2=>by
  have:=bstep_le s h0
  show(if bstep s a=0 then a else blF s j (a+bstep s a))=(if bstep s a=0 then a else blF s k (a+bstep s a))
  by_cases h:bstep s a=0
  ·rw [if_pos h,if_pos h]
  ·rw [if_neg h,if_neg h]
   exact blF_more s k _ j (by omega) (by omega) (by omega)
theorem blE_zero {s:ByteArray} {a:Nat} (h:bstep s a=0):blE s a=a:=by
 unfold blE
 cases s.size - a with
 |zero=>rfl
 |succ k=>show(if bstep s a=0 then a else _)=a;rw [if_pos h]
theorem blE_next {s:ByteArray} {a:Nat} (ha:a≤s.size) (h:bstep s a≠0):blE s a=blE s (a+bstep s a):=by
 have hle:=bstep_le s ha
 unfold blE
 obtain⟨k,hk⟩:∃k,s.size - a=k+1:=⟨s.size - a - 1,by omega⟩
 rw [hk]
 show(if bstep s a=0 then a else blF s k (a+bstep s a))=_
 rw [if_neg h]
 exact blF_more s _ _ _ (by omega) (Nat.le_refl _) (by omega)
theorem blF_le (s:ByteArray):∀(k a:Nat),a≤s.size→a≤blF s k a∧blF s k a≤s.size
 |0,a,h=>⟨Nat.le_refl _,h⟩
 |k+1,a,h=>by
  have:=bstep_le s h
  show a≤(if bstep s a=0 then a else blF s k (a+bstep s a))∧(if bstep s a=0 then a else blF s k (a+bstep s a))≤s.size
  split
  ·exact⟨Nat.le_refl _,h⟩
  ·have:=blF_le s k (a+bstep s a) (by omega)
   omega
theorem blE_le {s:ByteArray} {a:Nat} (h:a≤s.size):a≤blE s a∧blE s a≤s.size:=blF_le s _ a h
theorem blE_gt {s:ByteArray} {a:Nat} (h:a≤s.size) (hb:bstep s a≠0):a<blE s a:=by
 rw [blE_next h hb]
 have:=(blE_le (s:=s) (a:=a+bstep s a) (bstep_le s h)).1
 omega
def nlE (s:ByteArray) (a:Nat):Nat:=a+lead (fun i=>decide (by8 s (a+i)≠10)) (s.size - a)
theorem nlE_le {s:ByteArray} {a:Nat} (h:a≤s.size):a≤nlE s a∧nlE s a≤s.size:=by
 have:=lead_le (fun i=>decide (by8 s (a+i)≠10)) (s.size - a)
 unfold nlE;omega
theorem nlE_at {s:ByteArray} {a:Nat} (h:nlE s a<s.size):by8 s (nlE s a)=10:=by
 unfold nlE at h ⊢
 have:=lead_stop (fun i=>decide (by8 s (a+i)≠10)) (z:=s.size - a) (by omega)
 simpa using this
theorem nlE_in {s:ByteArray} {a i:Nat} (h1:a≤i) (h2:i<nlE s a):by8 s i≠10:=by
 unfold nlE at h2
 have:=lead_all (fun i=>decide (by8 s (a+i)≠10)) (z:=s.size - a) (i:=i - a) (by omega)
 rw [show a+(i - a)=i by omega]at this
 simpa using this
theorem nlE_eq {s:ByteArray} {a n:Nat} (h1:a≤n) (h2:n≤s.size) (h3:∀i,a≤i→i<n→by8 s i≠10) (h4:n<s.size→by8 s n=10):nlE s a=n:=by
 unfold nlE
 rw [lead_eq _ (n:=n - a) (by omega) (fun i hi=>by simpa using h3 (a+i) (by omega) (by omega)) (fun hi=>by
  have:=h4 (by omega)
  rw [show a+(n - a)=n by omega]
  simpa using this)]
 omega
def lnE (s:ByteArray) (a:Nat):Nat:=if nlE s a<s.size then nlE s a+1 else s.size
theorem lnE_gt {s:ByteArray} {a:Nat} (h:a<s.size):a<lnE s a∧lnE s a≤s.size:=by
 have:=nlE_le (Nat.le_of_lt h)
 unfold lnE
 split<;>omega
def numN (s:ByteArray) (a:Nat):Nat:=if a+rowN s a 6<s.size∧(by8 s (a+rowN s a 6)=60∨by8 s (a+rowN s a 6)=62)then rowN s a 6 else 0
def wdE (s:ByteArray) (a:Nat):Nat:=a+lead (fun i=>!stops (fromK s a 0 i) (by8 s (a+i))) (s.size - a)
theorem wdE_of {s:ByteArray} {a n:Nat} (h:IsEnd s a 0 n):n=wdE s a:=by
 obtain⟨h1,h2,h3,h4⟩:=h
 unfold wdE
 rw [lead_eq _ (n:=n - a) (by omega) (fun i hi=>by
  have:=h3 (a+i) (by omega) (by omega)
  rw [show a+i - a=i by omega]at this
  rw [this];rfl) (fun hi=>by
  have:=h4 (by omega)
  rw [show a+(n - a)=n by omega,this];rfl)]
 omega
theorem wdE_le {s:ByteArray} {a:Nat} (h:a≤s.size):a≤wdE s a∧wdE s a≤s.size:=by
 have:=lead_le (fun i=>!stops (fromK s a 0 i) (by8 s (a+i))) (s.size - a)
 unfold wdE;omega
def meK (s:ByteArray) (a:Nat):Nat:=
 if bstep s a≠0 then 1 else if by8 s a=10 then 2 else if by8 s a=35 then 3 else if opN s a≠0 then 4 else if numN s a≠0 then 5 else 6
def meE (s:ByteArray) (a:Nat):Nat:=
 if bstep s a≠0 then blE s a else if by8 s a=10 then a+1 else if by8 s a=35 then nlE s a else if opN s a≠0 then a+(txt (opN s a)).size else if numN s a≠0 then a+numN s a else wdE s a
def opnW (t:ByteArray):Bool:=!(closeL (runK t t.size).st).isEmpty
def delT (l:ByteArray) (tabs:Bool):ByteArray:=if tabs=true then⟨(Lib.trimLeftB (Lib.trimSuffix l.data.toList [10]) 9).toArray⟩else⟨(Lib.trimSuffix l.data.toList [10]).toArray⟩
def delL (l:ByteArray) (d:Dl):Bool:=decide (delT l d.tabs=d.word)
def lnF (t:ByteArray):Nat→Nat→List ByteArray
 |0,a=> []
 |k+1,a=>if a<t.size then t.extract a (lnE t a)::lnF t k (lnE t a)else []
def LNs (t:ByteArray):List ByteArray:=lnF t t.size 0
theorem lnF_more (t:ByteArray):∀(k a j:Nat),t.size - a≤k→k≤j→lnF t j a=lnF t k a
 |0,a,0,_,_=>rfl
 |0,a,j+1,h,_=>by
  show(if a<t.size then _ else _)=_
  rw [if_neg (by omega)];rfl
 |k+1,a,0,_,h=>by omega
 |k+1,a,j+1,h1,h2=>by
  unfold lnF
  by_cases h:a<t.size
  ·rw [if_pos h,if_pos h]
   have:=lnE_gt h
   rw [lnF_more t k (lnE t a) j (by omega) (by omega)]
  ·rw [if_neg h,if_neg h]
theorem lnF_next {t:ByteArray} {a:Nat} (h:a<t.size):lnF t (t.size - a) a=t.extract a (lnE t a)::lnF t (t.size - lnE t a) (lnE t a):=by
 have hg:=lnE_gt h
 obtain⟨k,hk⟩:∃k,t.size - a=k+1:=⟨t.size - a - 1,by omega⟩
 rw [hk]
 conv=>lhs;unfold lnF
 rw [if_pos h,lnF_more t _ _ _ (Nat.le_refl _) (by omega)]
theorem lnF_end {t:ByteArray} {a:Nat} (h:¬a<t.size):lnF t (t.size - a) a=[]:=by
 rw [show t.size - a=0 by omega];rfl
def docL (d:Dl):List ByteArray→Nat→Nat×Bool
 | [],n=>(n,false)
 |l::r,n=>if delL l d=true then(n+l.size,true)else docL d r (n+l.size)
def docN (t:ByteArray):List Dl→Nat×Bool
 | []=>(t.size,false)
 |d::_=>docL d (LNs t) 0
def tkN (s:ByteArray) (a:Nat) (x:Lx):Tk:=
 if x.body=true then⟨7,a,a+(docN (s.extract a s.size) x.pend).1,!(docN (s.extract a s.size) x.pend).2⟩
 else⟨meK s a,a,meE s a,decide (meK s a=6)&& opnW (s.extract a (meE s a))⟩
def lxN (x:Lx) (k:Nat) (op:Bool) (text:ByteArray):Lx:=
 if k=7 then(if op=true then x else⟨x.await,x.pend.tail,!x.pend.tail.isEmpty && x.body⟩)
 else if k=1 then x
 else if k=2 then⟨0,x.pend,!x.pend.isEmpty⟩
 else if k=4 then⟨if ofN text=4∨ofN text=5 then ofN text else 0,x.pend,x.body⟩
 else if k=6∧x.await≠0 then⟨0,x.pend++ [⟨bareL (PCs text),decide (x.await=5)⟩],x.body⟩
 else⟨0,x.pend,x.body⟩
def nxN (s:ByteArray) (a:Nat) (x:Lx):Lx:=lxN x (tkN s a x).kind (tkN s a x).op (s.extract (tkN s a x).frm (tkN s a x).en)
def tksF (s:ByteArray):Nat→Nat→Lx→List (Tk×Lx)
 |0,a,x=> []
 |k+1,a,x=>if a<s.size then(tkN s a x,nxN s a x)::tksF s k (tkN s a x).en (nxN s a x)else []
def TKs (s:ByteArray):List (Tk×Lx):=tksF s s.size 0 Lx.zero
theorem list_at {s:ByteArray} {i:Nat} (h:i<s.data.toList.length):(s.data.toList[i]).toNat=by8 s i:=by
 have h':i<s.size:=by simpa using h
 unfold by8
 rw [bt_eq h']
 rfl
theorem hp_esc (t:ByteArray):Lib.hasPrefix t.data.toList [92,10]=decide (1<t.size∧by8 t 0=92∧by8 t 1=10):=by
 unfold Lib.hasPrefix
 have hsz:t.size=t.data.toList.length:=by simp
 have h0:∀h:0<t.data.toList.length,(t.data.toList[0]).toNat=by8 t 0:=fun h=>list_at h
 have h1:∀h:1<t.data.toList.length,(t.data.toList[1]).toNat=by8 t 1:=fun h=>list_at h
 generalize t.data.toList=l at h0 h1 hsz
 rw [hsz]
 match l,h0,h1 with
 | [],_,_=>simp
 | [a],_,_=>simp [List.isPrefixOf]
 |a::b::r,h0,h1=>
  have e0:=h0 (by simp)
  have e1:=h1 (by simp)
  simp only [List.getElem_cons_zero,List.getElem_cons_succ]at e0 e1
  rw [←e0,←e1,Bool.eq_iff_iff,decide_eq_true_iff]
  simp only [List.isPrefixOf,Bool.and_true,Bool.and_eq_true,beq_iff_eq,List.length_cons]
  constructor
  ·rintro⟨h1,h2⟩
   exact⟨by omega,by rw [←h1];rfl,by rw [←h2];rfl⟩
  ·rintro⟨_,h1,h2⟩
   exact⟨(UInt8.toNat_inj.1 h1).symm,(UInt8.toNat_inj.1 h2).symm⟩
theorem atV_row {s:ByteArray} {a:Nat} (ha:a≤s.size) (c:Nat):atV s (a:Int) (fun k=>rowN s k c)=((rowN s a c:Nat):Int):=by
 unfold atV
 by_cases h:a<s.size
 ·rw [if_pos ⟨by omega,by omega⟩,Int.toNat_natCast]
 ·rw [if_neg (by omega)]
  have:=rowN_le s a c
  omega
theorem idx_list (c:UInt8):∀l:List UInt8,(Lib.indexByte l c= -1∧∀b∈l,b≠c)∨∃n:Nat,Lib.indexByte l c=(n:Int)∧∃h:n<l.length,l[n]=c∧∀i (hi:i<n),l[i]≠c
 | []=> .inl ⟨rfl,fun b h=>by cases h⟩
 |b::l=>by
  unfold Lib.indexByte
  by_cases hb:b=c
  ·right
   exact⟨0,by simp [hb],by simp,by simp [hb],fun i hi=>by omega⟩
  ·have hb':(b==c)=false:=beq_eq_false_iff_ne.2 hb
   rw [hb']
   rcases idx_list c l with⟨h1,h2⟩|⟨n,h1,h2,h3,h4⟩
   ·left
    rw [h1]
    exact⟨rfl,fun x hx=>by rcases List.mem_cons.1 hx with e|e;exact e▸hb;exact h2 x e⟩
   ·right
    rw [h1]
    have hn:((n:Int)== -1)=false:=beq_eq_false_iff_ne.2 (by omega)
    rw [hn]
    refine⟨n+1,by simp,by simp;omega,by simpa using h3,fun i hi=>?_⟩
    cases i with
    |zero=>simpa using hb
    |succ i=>simpa using h4 i (by omega)
theorem idx_nl (t:ByteArray):Lib.indexByte t.data.toList 10=if nlE t 0<t.size then((nlE t 0:Nat):Int)else -1:=by
 have hsz:t.size=t.data.toList.length:=by simp
 rcases idx_list 10 t.data.toList with⟨h1,h2⟩|⟨n,h1,h2,h3,h4⟩
 ·have:nlE t 0=t.size:=nlE_eq (Nat.zero_le _) (Nat.le_refl _) (fun i _ hi e=>by
   have hi':i<t.data.toList.length:=by omega
   refine h2 _ (List.getElem_mem hi') (UInt8.toNat_inj.1 ?_)
   rw [list_at hi',e];rfl) (fun h=>by omega)
  rw [this,if_neg (by omega),h1]
 ·have:nlE t 0=n:=nlE_eq (Nat.zero_le _) (by omega) (fun i _ hi e=>by
   have hi':i<t.data.toList.length:=by omega
   refine h4 i hi (UInt8.toNat_inj.1 ?_)
   rw [list_at hi',e];rfl) (fun h=>by rw [←list_at h2,h3];rfl)
  rw [this,if_pos (by omega),h1]
section
variable (w:World)
set_option maxRecDepth 100000 in
set_option maxHeartbeats 2000000 in
theorem cut_any (t:ByteArray) (ht:t.size≤1000000):
  Calls Tryz.prog 160 #[.string t,.string ⟨#[10]⟩] w fun e w'=>(∃x y b,e=.returned (.tuple #[.string x,.string y,.bool b])∧x.size=nlE t 0)∧Below w.heap.size w w':=by
 have hix:=Tryz.stringslite_Index_one t 10
 rw [idx_nl t]at hix
 have hle:=nlE_le (Nat.zero_le t.size)
 obtain⟨n,hn⟩:∃n,nlE t 0=n:=⟨_,rfl⟩
 rw [hn]at hix hle ⊢
 have hcut:Calls Tryz.prog 189 #[.string t,.string ⟨#[10]⟩] w fun e w'=>(∃x y b,e=.returned (.tuple #[.string x,.string y,.bool b])∧x.size=n)∧Below w.heap.size w w':=by
  by_cases h:n<t.size
  ·rw [if_pos h]at hix
   have HIX:=Lib.hid hix
   have hxz:=ext_size (s:=t) (a:=0) (b:=n) (by omega)
   obtain⟨X,hX⟩:∃X,t.extract 0 n=X:=⟨_,rfl⟩
   have HX:=Lib.hid hxz
   rw [hX]at HX
   have q1:(n:Int)≤(t.size:Int):=by omega
   have q2:(n:Int)+1≤(t.size:Int):=by omega
   have q3:(0:Int)≤(n:Int):=by omega
   have q4:IntKind.i64.wrap ((n:Int)+1)=(n:Int)+1:=IntWalk.i64_in _ (by omega)
   clear hix hn hxz
   go_enter Tryz.func189,Tryz.ntmps189
   go_wp2_with fail
   refine(HIX.out _).mono ?_
   rintro e w1 ⟨rfl,rfl⟩
   go_wp2
   go_quiet (fail)
   go_wp2
   refine bodyPost_ret (v:=.tuple #[.string X,.string (t.extract (n+1) t.size),.bool true]) (by simp [results,Tryz.results189,go_sem]) rfl ?_
   exact⟨⟨X,_,_,rfl,by have:=HX.out;omega⟩,below_drewN (Below.refl _ _) _⟩
  ·rw [if_neg h]at hix
   have HIX:=Lib.hid hix
   have hnt:n=t.size:=by omega
   have HNT:=Lib.hid hnt
   clear hix hn hnt
   go_enter Tryz.func189,Tryz.ntmps189
   go_wp2_with fail
   refine(HIX.out _).mono ?_
   rintro e w1 ⟨rfl,rfl⟩
   go_wp2
   refine bodyPost_ret (v:=.tuple #[.string t,.string ⟨#[]⟩,.bool false]) (by simp [results,Tryz.results189,go_sem]) rfl ?_
   exact⟨⟨t,_,_,rfl,HNT.out.symm⟩,Below.refl _ _⟩
 have HCUT:=Lib.hid hcut
 clear hcut hix hn
 go_enter Tryz.func160,Tryz.ntmps160
 go_wp2_with fail
 refine(HCUT.out).mono ?_
 rintro e w1 ⟨⟨x,y,b,rfl,hx⟩,hB⟩
 have HXN:=Lib.hid hx
 clear hx
 go_wp2
 refine bodyPost_ret (v:=.tuple #[.string x,.string y,.bool b]) (by simp [results,Tryz.results160,go_sem]) rfl ?_
 exact⟨⟨x,y,b,rfl,HXN.out⟩,hB⟩
def TbRl (s:ByteArray) (a E:Nat) (w:World) (v5:Value) (wr:World):Prop:=∃b:Nat,a≤b∧b≤s.size∧v5=.int .i64 (b:Int)∧blE s b=E∧Below w.heap.size w wr
set_option maxRecDepth 100000 in
set_option maxHeartbeats 4000000 in
theorem tblanks_any (s:ByteArray) (a:Nat) (ha:a≤s.size) (hs:s.size≤1000000):
  Calls Tryz.prog 159 #[.string s,.int .i64 (a:Int)] w fun e w'=>e=.returned (.int .i64 ((blE s a - a:Nat):Int))∧Below w.heap.size w w':=by
 obtain⟨E,hE⟩:∃E,blE s a=E:=⟨_,rfl⟩
 have hEl:=blE_le ha
 rw [hE]at hEl
 rw [hE]
 go_enter Tryz.func159,Tryz.ntmps159
 go_wp2
 go_loopw [5] (fun v5 wr=>TbRl s a E w v5 wr) (fun v _=>s.size - (intOf v).toNat)
 case atStart=>exact⟨a,Nat.le_refl _,ha,rfl,hE,Below.refl _ _⟩
 case round=>
  obtain⟨b,hab,hbs,rfl,hbe,hB⟩:=hrel
  have HBE:=Lib.hid hbe
  have hbl:=fun W=>blanks_any s (b:Int) W hs
  rw [atV_row hbs 1]at hbl
  have hrle:=rowN_le s b 1
  have hst:bstep s b=if 0<rowN s b 1 then rowN s b 1 else if b+1<s.size∧by8 s b=92∧by8 s (b+1)=10 then 2 else 0:=rfl
  obtain⟨r,hr⟩:∃r,rowN s b 1=r:=⟨_,rfl⟩
  rw [hr]at hbl hrle hst
  have HBL:=Lib.hid hbl
  have q0:(0:Int)≤(b:Int):=by omega
  have q1:(b:Int)≤(s.size:Int):=by omega
  have hsz:=hB.size
  by_cases h0:0<r
  ·rw [if_pos h0]at hst
   have hnx:=blE_next hbs (by omega)
   rw [hst,hbe]at hnx
   have HNX:=Lib.hid hnx.symm
   have t0:((r:Int)==0)=false:=beq_eq_false_iff_ne.2 (by omega)
   clear hbl hst hr hbe hnx hE
   go_wp2_with fail
   refine(HBL.out _).mono ?_
   rintro e w1 ⟨rfl,hB1⟩
   go_wp2
   go_roundw
   case rel=>exact⟨b+r,by omega,by omega,by go_num,HNX.out,hB.trans (hB1.mono hsz)⟩
   case measure=>simp [intOf];omega
  ·obtain rfl:r=0:=by omega
   rw [if_neg h0]at hst
   have hhp:=fun W=>Tryz.strings_HasPrefix (s.extract b s.size) ⟨#[92,10]⟩ W
   have hpe:Lib.hasPrefix (s.extract b s.size).data.toList ((⟨#[92,10]⟩:ByteArray)).data.toList=decide (b+1<s.size∧by8 s b=92∧by8 s (b+1)=10):=by
    have hz:=ext_size (s:=s) (a:=b) (b:=s.size) (Nat.le_refl _)
    show Lib.hasPrefix (s.extract b s.size).data.toList [92,10]=_
    rw [hp_esc,hz]
    by_cases hb1:b+1<s.size
    ·rw [by8_ext (Nat.le_refl _) (by omega),by8_ext (Nat.le_refl _) (by omega),Nat.add_zero]
     congr 1
     exact propext ⟨fun h=>⟨hb1,h.2⟩,fun h=>⟨by omega,h.2⟩⟩
    ·rw [decide_eq_false (fun h=>by omega),decide_eq_false (fun h=>hb1 h.1)]
   rw [hpe]at hhp
   by_cases hc:b+1<s.size∧by8 s b=92∧by8 s (b+1)=10
   ·rw [if_pos hc]at hst
    have hnx:=blE_next hbs (by omega)
    rw [hst,hbe]at hnx
    have HNX:=Lib.hid hnx.symm
    rw [decide_eq_true hc]at hhp
    have HHP:=Lib.hid hhp
    have hb1:=hc.1
    clear hbl hst hr hbe hnx hE hhp hpe hc h0
    go_wp2_with fail
    refine(HBL.out _).mono ?_
    rintro e w1 ⟨rfl,hB1⟩
    go_wp2_with fail
    refine(HHP.out _).mono ?_
    rintro e w2 ⟨rfl,rfl⟩
    go_wp2
    go_roundw
    case rel=>exact⟨b+2,by omega,by omega,by go_num,HNX.out,hB.trans (hB1.mono hsz)⟩
    case measure=>simp [intOf];omega
   ·rw [if_neg hc]at hst
    have hez:=blE_zero hst
    rw [hbe]at hez
    have HEZ:=Lib.hid hez
    rw [decide_eq_false hc]at hhp
    have HHP:=Lib.hid hhp
    clear hbl hst hr hbe hez hE hhp hpe hc h0
    go_wp2_with fail
    refine(HBL.out _).mono ?_
    rintro e w1 ⟨rfl,hB1⟩
    go_wp2_with fail
    refine(HHP.out _).mono ?_
    rintro e w2 ⟨rfl,rfl⟩
    go_wp2
    go_ret
    refine⟨?_,hB.trans (hB1.mono hsz)⟩
    have:=HEZ.out
    refine ret_int ?_
    omega
set_option maxRecDepth 100000 in
set_option maxHeartbeats 2000000 in
theorem tnumber_any (s:ByteArray) (a:Nat) (ha:a<s.size) (hs:s.size≤1000000):
  Calls Tryz.prog 161 #[.string s,.int .i64 (a:Int)] w fun e w'=>e=.returned (.int .i64 ((numN s a:Nat):Int))∧Below w.heap.size w w':=by
 have hdg:=fun W=>digits_any s (a:Int) W hs
 rw [atV_row (Nat.le_of_lt ha) 6]at hdg
 have hrle:=rowN_le s a 6
 have hn:numN s a=if a+rowN s a 6<s.size∧(by8 s (a+rowN s a 6)=60∨by8 s (a+rowN s a 6)=62)then rowN s a 6 else 0:=rfl
 obtain⟨r,hr⟩:∃r,rowN s a 6=r:=⟨_,rfl⟩
 rw [hr]at hdg hrle hn
 have HDG:=Lib.hid hdg
 obtain⟨N,hN⟩:∃N,numN s a=N:=⟨_,rfl⟩
 rw [hN]at hn ⊢
 have q0:(0:Int)≤(a:Int):=by omega
 have q1:IntKind.i64.wrap ((a:Int)+(r:Int))=((a+r:Nat):Int):=by rw [IntWalk.i64_in _ (by omega)];omega
 have q2:(0:Int)≤((a+r:Nat):Int):=by omega
 clear hdg hr hN
 by_cases hlt:a+r<s.size
 ·obtain⟨b,hb⟩:∃b,by8 s (a+r)=b:=⟨_,rfl⟩
  rw [hb]at hn
  have hix:∀hh:a+r<s.size,(s[a+r]'hh).toNat=b:=fun hh=>by rw [←hb];unfold by8;rw [bt_eq hh]
  obtain⟨c,hc⟩:∃c,a+r=c:=⟨_,rfl⟩
  rw [hc]at q1 q2 hlt hix hn
  have q3:(c:Int)<(s.size:Int):=by omega
  by_cases h60:b=60
  ·have hn2:N=r:=by rw [hn,if_pos ⟨hlt,.inl h60⟩]
   subst h60
   have HN:=Lib.hid hn2
   clear hn hb hc hn2
   go_enter Tryz.func161,Tryz.ntmps161
   go_wp2_with fail
   refine(HDG.out _).mono ?_
   rintro e w1 ⟨rfl,hB1⟩
   go_wp2
   go_ret
   exact⟨by rw [HN.out];rfl,hB1⟩
  ·by_cases h62:b=62
   ·have hn2:N=r:=by rw [hn,if_pos ⟨hlt,.inr h62⟩]
    subst h62
    have HN:=Lib.hid hn2
    clear hn hb hc hn2 h60
    go_enter Tryz.func161,Tryz.ntmps161
    go_wp2_with fail
    refine(HDG.out _).mono ?_
    rintro e w1 ⟨rfl,hB1⟩
    go_wp2
    go_ret
    exact⟨by rw [HN.out];rfl,hB1⟩
   ·have hn2:N=0:=by rw [hn,if_neg (fun h=>by omega)]
    have t1:((b:Int)==60)=false:=beq_eq_false_iff_ne.2 (by omega)
    have t2:((b:Int)==62)=false:=beq_eq_false_iff_ne.2 (by omega)
    have HN:=Lib.hid hn2
    clear hn hb hc hn2 h60 h62
    go_enter Tryz.func161,Tryz.ntmps161
    go_wp2_with fail
    refine(HDG.out _).mono ?_
    rintro e w1 ⟨rfl,hB1⟩
    go_wp2
    go_ret
    exact⟨by rw [HN.out];rfl,hB1⟩
 ·have hn2:N=0:=by rw [hn,if_neg (fun h=>hlt h.1)]
  have HN:=Lib.hid hn2
  have q3:¬((a+r:Nat):Int)<(s.size:Int):=by omega
  obtain⟨c,hc⟩:∃c,a+r=c:=⟨_,rfl⟩
  rw [hc]at q1 q2 q3
  clear hn hn2 hc
  go_enter Tryz.func161,Tryz.ntmps161
  go_wp2_with fail
  refine(HDG.out _).mono ?_
  rintro e w1 ⟨rfl,hB1⟩
  go_wp2
  go_ret
  exact⟨by rw [HN.out];rfl,hB1⟩
theorem nlE_ext {s:ByteArray} {a:Nat} (ha:a≤s.size):nlE (s.extract a s.size) 0=nlE s a - a:=by
 have hz:=ext_size (s:=s) (a:=a) (b:=s.size) (Nat.le_refl _)
 have hle:=nlE_le ha
 refine nlE_eq (Nat.zero_le _) (by omega) (fun i _ hi=>?_) (fun hi=>?_)
 ·rw [by8_ext (Nat.le_refl _) (by omega)]
  exact nlE_in (a:=a) (by omega) (by omega)
 ·rw [by8_ext (Nat.le_refl _) (by omega),show a+(nlE s a - a)=nlE s a by omega]
  exact nlE_at (by omega)
theorem bl_iff {s:ByteArray} {a:Nat} (ha:a≤s.size):0<blE s a - a↔bstep s a≠0:=by
 constructor
 ·intro h e
  rw [blE_zero e]at h
  omega
 ·intro h
  have:=blE_gt ha h
  omega
set_option maxRecDepth 100000 in
set_option maxHeartbeats 4000000 in
theorem measure_any (s:ByteArray) (a:Nat) (ha:a<s.size) (hs:s.size≤80000) (hT:Tx w):
  Calls Tryz.prog 131 #[.string s,.int .i64 (a:Int)] w fun e w'=>e=.returned (.tuple #[.int .i64 ((meK s a:Nat):Int),.int .i64 ((meE s a - a:Nat):Int)])∧Below w.heap.size w w':=by
 have HTB:=Lib.hid (fun W=>tblanks_any W s a (Nat.le_of_lt ha) (by omega))
 have hbi:=bl_iff (s:=s) (Nat.le_of_lt ha)
 have hk:meK s a=if bstep s a≠0 then 1 else if by8 s a=10 then 2 else if by8 s a=35 then 3 else if opN s a≠0 then 4 else if numN s a≠0 then 5 else 6:=rfl
 have he:meE s a=if bstep s a≠0 then blE s a else if by8 s a=10 then a+1 else if by8 s a=35 then nlE s a else if opN s a≠0 then a+(txt (opN s a)).size else if numN s a≠0 then a+numN s a else wdE s a:=rfl
 have hbz:bstep s a=0→blE s a - a=0:=fun h=>by rw [blE_zero h];omega
 have q0:(0:Int)≤(a:Int):=by omega
 by_cases h1:bstep s a≠0
 ·rw [if_pos h1]at hk he
  have hp:=hbi.2 h1
  rw [hk,he]
  obtain⟨n,hn⟩:∃n,blE s a - a=n:=⟨_,rfl⟩
  rw [hn]at hp ⊢
  rw [hn]at HTB
  have t1:(0:Int)<(n:Int):=by omega
  clear hk he hbi hn h1 hbz
  go_enter Tryz.func131,Tryz.ntmps131
  go_wp2_with fail
  refine(HTB.out _).mono ?_
  rintro e w1 ⟨rfl,hB1⟩
  go_wp2
  go_ret2
  exact⟨rfl,hB1⟩
 ·rw [if_neg h1]at hk he
  rw [hbz (by omega)]at HTB
  have hix:∀hh:a<s.size,(s[a]'hh).toNat=by8 s a:=fun hh=>by unfold by8;rw [bt_eq hh]
  obtain⟨b,hb⟩:∃b,by8 s a=b:=⟨_,rfl⟩
  rw [hb]at hk he hix
  have q1:(a:Int)<(s.size:Int):=by omega
  have q2:(a:Int)≤(s.size:Int):=by omega
  clear hbz hbi h1 hb
  by_cases h2:b=10
  ·rw [if_pos h2]at hk he
   rw [hk,he,show a+1 - a=1 by omega]
   subst h2
   clear hk he
   go_enter Tryz.func131,Tryz.ntmps131
   go_wp2_with fail
   refine(HTB.out _).mono ?_
   rintro e w1 ⟨rfl,hB1⟩
   go_wp2
   go_ret2
   exact⟨rfl,hB1⟩
  rw [if_neg h2]at hk he
  have t2:((b:Int)==10)=false:=beq_eq_false_iff_ne.2 (by omega)
  by_cases h3:b=35
  ·rw [if_pos h3]at hk he
   rw [hk,he]
   have hcu:=fun W=>cut_any W (s.extract a s.size) (by rw [ext_size (Nat.le_refl _)];omega)
   rw [nlE_ext (Nat.le_of_lt ha)]at hcu
   have HCU:=Lib.hid hcu
   subst h3
   clear hk he hcu h2 t2
   go_enter Tryz.func131,Tryz.ntmps131
   go_wp2_with fail
   refine(HTB.out _).mono ?_
   rintro e w1 ⟨rfl,hB1⟩
   go_wp2_with fail
   refine(HCU.out _).mono ?_
   rintro e w2 ⟨⟨x,y,c,rfl,hx⟩,hB2⟩
   have HX:=Lib.hid hx
   clear hx
   go_wp2
   go_ret2
   refine⟨?_,hB1.trans (hB2.mono hB1.size)⟩
   rw [HX.out]
   rfl
  rw [if_neg h3]at hk he
  have t3:((b:Int)==35)=false:=beq_eq_false_iff_ne.2 (by omega)
  have hop:=fun W (hW:Tx W)=>opat_any s (a:Int) W (by omega) hW
  rw [atO_in ha]at hop
  have hole:=txt_le (opN s a)
  clear h2 h3
  by_cases h4:opN s a≠0
  ·rw [if_pos h4]at hk he
   have hoz:=txt_size_in (opN_mem h4)
   rw [hk,he,Nat.add_sub_cancel_left]
   obtain⟨o,ho⟩:∃o,opN s a=o:=⟨_,rfl⟩
   rw [ho]at hop hoz ⊢
   obtain⟨n,hn⟩:∃n,(txt o).size=n:=⟨_,rfl⟩
   rw [hn]at hop hoz ⊢
   have HOP:=Lib.hid hop
   have t4:(0:Int)<(n:Int):=by omega
   clear hk he hop hole h4 ho hn
   go_enter Tryz.func131,Tryz.ntmps131
   go_wp2_with fail
   refine(HTB.out _).mono ?_
   rintro e w1 ⟨rfl,hB1⟩
   go_wp2_with fail
   refine(HOP.out _ (hT.b hB1)).mono ?_
   rintro e w2 ⟨rfl,hB2⟩
   go_wp2
   go_ret2
   exact⟨rfl,hB1.trans (hB2.below)⟩
  rw [if_neg h4]at hk he
  have h40:opN s a=0:=by omega
  rw [h40]at hop
  have HOP:=Lib.hid hop
  have HNU:=Lib.hid (fun W=>tnumber_any W s a ha (by omega))
  clear h4 h40 hop hole
  by_cases h5:numN s a≠0
  ·rw [if_pos h5]at hk he
   rw [hk,he,Nat.add_sub_cancel_left]
   obtain⟨n,hn⟩:∃n,numN s a=n:=⟨_,rfl⟩
   rw [hn]at HNU h5 ⊢
   have t4:(0:Int)<(n:Int):=by omega
   clear hk he hn h5
   go_enter Tryz.func131,Tryz.ntmps131
   go_wp2_with fail
   refine(HTB.out _).mono ?_
   rintro e w1 ⟨rfl,hB1⟩
   go_wp2_with fail
   refine(HOP.out _ (hT.b hB1)).mono ?_
   rintro e w2 ⟨rfl,hB2⟩
   go_wp2_with fail
   refine(HNU.out _).mono ?_
   rintro e w3 ⟨rfl,hB3⟩
   have e2:Below w.heap.size w w2:=hB1.trans (hB2.below)
   go_wp2
   go_ret2
   exact⟨rfl,e2.trans (hB3.mono e2.size)⟩
  rw [if_neg h5]at hk he
  have h50:numN s a=0:=by omega
  rw [h50]at HNU
  have HWE:=Lib.hid (fun W=>mend_any W s a (Nat.le_of_lt ha) hs)
  have hwl:=wdE_le (Nat.le_of_lt ha)
  rw [hk,he]
  obtain⟨E,hE⟩:∃E,wdE s a=E:=⟨_,rfl⟩
  rw [hE]at hwl ⊢
  have HE:=Lib.hid hE
  clear hk he h5 h50 hE
  go_enter Tryz.func131,Tryz.ntmps131
  go_wp2_with fail
  refine(HTB.out _).mono ?_
  rintro e w1 ⟨rfl,hB1⟩
  go_wp2_with fail
  refine(HOP.out _ (hT.b hB1)).mono ?_
  rintro e w2 ⟨rfl,hB2⟩
  go_wp2_with fail
  refine(HNU.out _).mono ?_
  rintro e w3 ⟨rfl,hB3⟩
  have e2:Below w.heap.size w w2:=hB1.trans (hB2.below)
  go_wp2_with fail
  refine(HWE.out _).mono ?_
  rintro e w4 ⟨⟨n,rfl,hn⟩,hB4⟩
  have hnE:n=E:=(wdE_of hn).trans HE.out
  subst hnE
  have e3:=e2.trans (hB3.mono e2.size)
  have r1:IntKind.i64.wrap ((n:Int) - (a:Int))=((n - a:Nat):Int):=by rw [IntWalk.i64_in _ (by omega)];omega
  clear hn
  go_wp2
  go_ret2
  exact⟨rfl,e3.trans (hB4.mono e3.size)⟩
end
end Go.Proofs.YtkolpaonccmgiaaGreatDoor

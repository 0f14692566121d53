/- The plain facts on byte strings that the walks of  -/
import Derived.Test.YtkolpaonccmgiaaGreatDoorRows
import Derived.RangeFuncRecord
import Derived.BigQuiet
import Derived.Deep.RegionHeld3
import Derived.Lib.Hide
import Derived.WalkSmall
set_option linter.unusedVariables false
namespace Go.Proofs.YtkolpaonccmgiaaGreatDoor
set_option linter.unusedSectionVars false
set_option linter.unusedVariables false
open Go.RowKit
theorem bs_eqb (s t:ByteArray):(s.toList==t.toList)=decide (s=t):=by
 rw [Bool.eq_iff_iff,beq_iff_eq,Go.ByteArray.toList_eq,Go.ByteArray.toList_eq,decide_eq_true_iff]
 constructor
 ·intro h
  apply ByteArray.ext
  exact Array.toList_inj.1 h
 ·intro h
  rw [h]
def fits (s:ByteArray) (k:Nat) (d:ByteArray):Prop:=k+d.size≤s.size∧s.extract k (k+d.size)=d
instance (s:ByteArray) (k:Nat) (d:ByteArray):Decidable (fits s k d):=by unfold fits;infer_instance
def hpB (s t:ByteArray):Bool:=decide (t.size≤s.size∧s.extract 0 t.size=t)
theorem fits_hp (s d:ByteArray) (k:Nat) (h:k≤s.size):hpB (s.extract k s.size) d=decide (fits s k d):=by
 unfold hpB fits
 congr 1
 have e1:(s.extract k s.size).size=s.size - k:=by simp
 have e2:d.size≤s.size - k→(s.extract k s.size).extract 0 d.size=s.extract k (k+d.size):=by
  intro hd
  rw [ByteArray.extract_extract]
  congr 1
  omega
 rw [e1]
 apply propext
 constructor
 ·rintro⟨a,b⟩
  rw [e2 a]at b
  exact⟨by omega,b⟩
 ·rintro⟨a,b⟩
  have a':d.size≤s.size - k:=by omega
  exact⟨a',by rw [e2 a'];exact b⟩
theorem fits_le {s d:ByteArray} {k:Nat} (h:fits s k d):k+d.size≤s.size:=h.1
def bt (s:ByteArray) (i:Nat):UInt8:=if h:i<s.size then s[i]else 0
theorem bt_eq {s:ByteArray} {i:Nat} (h:i<s.size):bt s i=s[i]:=by unfold bt;rw [dif_pos h]
def AlInv (a b:ByteArray) (h t:Nat):Prop:=
 h+t≤a.size∧h+t≤b.size∧(∀i,i<h→bt a i=bt b i)∧(∀j,j<t→bt a (a.size - 1 - j)=bt b (b.size - 1 - j))∧(0<t→bt a h≠bt b h)
def IsDiff (a b:ByteArray) (h t:Nat):Prop:=
 h+t≤a.size∧h+t≤b.size∧(∀i,i<h→bt a i=bt b i)∧(∀j,j<t→bt a (a.size - 1 - j)=bt b (b.size - 1 - j))∧
  (h<a.size→h<b.size→bt a h≠bt b h)∧(h+t<a.size→h+t<b.size→bt a (a.size - 1 - t)≠bt b (b.size - 1 - t))
theorem IsDiff.one {a b:ByteArray} {h t h' t':Nat} (x:IsDiff a b h t) (y:IsDiff a b h' t'):h=h'∧t=t':=by
 obtain⟨x1,x2,x3,x4,x5,x6⟩:=x
 obtain⟨y1,y2,y3,y4,y5,y6⟩:=y
 have e:h=h':=by
  rcases Nat.lt_trichotomy h h' with g|g|g
  ·exact absurd (y3 h g) (x5 (by omega) (by omega))
  ·exact g
  ·exact absurd (x3 h' g) (y5 (by omega) (by omega))
 subst e
 refine⟨rfl,?_⟩
 rcases Nat.lt_trichotomy t t' with g|g|g
 ·exact absurd (y4 t g) (x6 (by omega) (by omega))
 ·exact g
 ·exact absurd (x4 t' g) (y6 (by omega) (by omega))
theorem AlInv.zero (a b:ByteArray):AlInv a b 0 0:=⟨by omega,by omega,fun i h=>by omega,fun i h=>by omega,fun h=>by omega⟩
def HdInv (a b:ByteArray) (h:Nat):Prop:=h≤a.size∧h≤b.size∧∀i,i<h→bt a i=bt b i
def TlInv (a b:ByteArray) (h t:Nat):Prop:=h+t≤a.size∧h+t≤b.size∧∀j,j<t→bt a (a.size - 1 - j)=bt b (b.size - 1 - j)
theorem HdInv.zero (a b:ByteArray):HdInv a b 0:=⟨by omega,by omega,fun i h=>by omega⟩
theorem HdInv.step {a b:ByteArray} {h:Nat} (v:HdInv a b h) (ha:h<a.size) (hb:h<b.size) (e:bt a h=bt b h):HdInv a b (h+1):=by
 obtain⟨v1,v2,v3⟩:=v
 refine⟨by omega,by omega,fun i hi=>?_⟩
 rcases Nat.lt_or_ge i h with g|g
 ·exact v3 i g
 ·have:i=h:=by omega
  rw [this];exact e
theorem TlInv.zero {a b:ByteArray} {h:Nat} (v:HdInv a b h):TlInv a b h 0:=⟨v.1,v.2.1,fun i h=>by omega⟩
theorem TlInv.step {a b:ByteArray} {h t:Nat} (v:TlInv a b h t) (ha:h+t<a.size) (hb:h+t<b.size) (e:bt a (a.size - 1 - t)=bt b (b.size - 1 - t)):TlInv a b h (t+1):=by
 obtain⟨v1,v2,v3⟩:=v
 refine⟨by omega,by omega,fun j hj=>?_⟩
 rcases Nat.lt_or_ge j t with g|g
 ·exact v3 j g
 ·have:j=t:=by omega
  rw [this];exact e
theorem bt_getElem (s:ByteArray) (i:Nat) (h:i<s.data.size):s.data[i]=bt s i:=by
 rw [bt_eq (by simpa using h)];rfl
structure Frm (p:Nat→Prop) (w w':World):Prop where
 os:w'.os=w.os
 tape:w'.tape=w.tape
 output:w'.output=w.output
 size:w.heap.size≤w'.heap.size
 block:∀k,k<w.heap.size→¬p k→w'.heap[k]?=w.heap[k]?
theorem Frm.refl (p:Nat→Prop) (w:World):Frm p w w:=⟨rfl,rfl,rfl,Nat.le_refl _,fun _ _ _=>rfl⟩
theorem Frm.trans {p q:Nat→Prop} {a b c:World} (h:Frm p a b) (k:Frm q b c) (hq:∀i,i<a.heap.size→q i→p i):Frm p a c:=
 ⟨k.os.trans h.os,k.tape.trans h.tape,k.output.trans h.output,Nat.le_trans h.size k.size,fun i hi hp=>(k.block i (Nat.lt_of_lt_of_le hi h.size) (fun hh=>hp (hq i hi hh))).trans (h.block i hi hp)⟩
theorem Frm.mono {p q:Nat→Prop} {a b:World} (h:Frm p a b) (hq:∀i,i<a.heap.size→p i→q i):Frm q a b:=
 ⟨h.os,h.tape,h.output,h.size,fun i hi hp=>h.block i hi (fun hh=>hp (hq i hi hh))⟩
theorem Frm.of_below {p:Nat→Prop} {a b:World} (h:Below a.heap.size a b):Frm p a b:=⟨h.os,h.tape,h.output,h.size,fun i hi _=>h.block i hi⟩
theorem Frm.below {p:Nat→Prop} {n:Nat} {a b:World} (h:Frm p a b) (hn:n≤a.heap.size) (hp:∀k,p k→n≤k):Below n a b:=
 ⟨h.os,h.tape,h.output,h.size,fun i hi=>h.block i (by omega) (fun hh=>by have:=hp i hh;omega)⟩
theorem Frm.alloc {p:Nat→Prop} {a w:World} (h:Frm p a w) (o:Obj):Frm p a (w.alloc o):=
 h.trans (Frm.of_below (p:=p) ((Below.refl _ _).alloc (Nat.le_refl _) o)) (fun _ _ hh=>hh)
theorem Frm.drew {p:Nat→Prop} {a w:World} (h:Frm p a w):Frm p a w.drew:=⟨h.os,h.tape,h.output,h.size,h.block⟩
theorem Frm.drewN {p:Nat→Prop} {a w:World} (h:Frm p a w) (n:Nat):Frm p a (w.drewN n):=⟨h.os,h.tape,h.output,h.size,h.block⟩
theorem Frm.setCell {p:Nat→Prop} {a w:World} (h:Frm p a w) {b:Nat} (o:Nat) (hb:p b∨a.heap.size≤b) (u:Value):Frm p a (w.setCell ⟨b,o,none⟩ u):=
 ⟨h.os,h.tape,h.output,Nat.le_trans h.size (by simp [World.setCell]),fun i hi hp=>(Below.heap_setCell w ⟨b,o,none⟩ u i (fun e=>by
  have e':i=b:=e
  subst e'
  rcases hb with hb|hb
  ·exact hp hb
  ·omega)).trans (h.block i hi hp)⟩
theorem Frm.put {a w:World} {b:Nat} (h:Frm (fun k=>k=b) a w) (o:Nat) (u:Value):Frm (fun k=>k=b) a (w.setCell ⟨b,o,none⟩ u):=h.setCell o (.inl rfl) u
theorem Frm.grown {p:Nat→Prop} {a w w':World} {row:Option Nat} (h:Frm p a w) (hg:w.grownBy w' row) (hr:∀k,row=some k→p k∨a.heap.size≤k):Frm p a w':=
 ⟨hg.os.trans h.os,hg.tape.trans h.tape,hg.output.trans h.output,Nat.le_trans h.size hg.size,fun i hi hp=>(hg.block i (Nat.lt_of_lt_of_le hi h.size) (fun e=>by
  rcases hr i e.symm with hh|hh
  ·exact hp hh
  ·omega)).trans (h.block i hi hp)⟩
theorem Frm.cell {p:Nat→Prop} {w w':World} (h:Frm p w w') {a:Addr} (hl:a.block<w.heap.size) (hp:¬p a.block):w'.cell? a=w.cell? a:=World.cell?_of_block (h.block _ hl hp)
def Blk (w:World) (b:Nat) (cs:Array Value) (t:TypeId):Prop:=w.heap[b]?=some (.cells cs t (0,0))
section
variable {w:World} {b:Nat} {cs:Array Value} {t:TypeId}
theorem Blk.lt (h:Blk w b cs t):b<w.heap.size:=(Array.getElem?_eq_some_iff.1 h).1
theorem Blk.new (w:World) (cs:Array Value) (t:TypeId):Blk (w.alloc (.cells cs t)) w.heap.size cs t:=World.alloc_heap_new w _
theorem Blk.alloc (h:Blk w b cs t) (o:Obj):Blk (w.alloc o) b cs t:=(Below.heap_alloc w o b h.lt).trans h
theorem Blk.drew (h:Blk w b cs t):Blk w.drew b cs t:=h
theorem Blk.drewN (h:Blk w b cs t) (n:Nat):Blk (w.drewN n) b cs t:=h
theorem Blk.set (h:Blk w b cs t) (o:Nat) (v:Value):Blk (w.setCell ⟨b,o,none⟩ v) b (cs.setIfInBounds o v) t:=by
 obtain⟨hlt,hk⟩:=Array.getElem?_eq_some_iff.1 h
 show(w.heap.modify b _)[b]?=_
 rw [Array.getElem?_eq_getElem (by rw [Array.size_modify];exact hlt),Array.getElem_modify_self,hk]
 rfl
theorem Blk.other (h:Blk w b cs t) {b':Nat} (o:Nat) (v:Value) (hne:b≠b'):Blk (w.setCell ⟨b',o,none⟩ v) b cs t:=(Below.heap_setCell w _ v b hne).trans h
theorem Blk.grown (h:Blk w b cs t) {w':World} {row:Option Nat} (hg:w.grownBy w' row) (hne:some b≠row):Blk w' b cs t:=(hg.block b h.lt hne).trans h
theorem Blk.frm (h:Blk w b cs t) {w':World} {p:Nat→Prop} (hf:Frm p w w') (hp:¬p b):Blk w' b cs t:=(hf.block b h.lt hp).trans h
theorem Blk.below (h:Blk w b cs t) {w':World} (hf:Below w.heap.size w w'):Blk w' b cs t:=(hf.block b h.lt).trans h
theorem Blk.cell (h:Blk w b cs t) (o:Nat):w.cell? ⟨b,o,none⟩=cs[o]?:=cell_of_row w b o cs t (0,0) h
theorem Blk.frozen (h:Blk w b cs t) (o:Nat):w.frozen? ⟨b,o,none⟩=false:=by simp [World.frozen?,show w.heap[b]?=_ from h]
end
theorem own_ge {w:World} {base:Nat} {e:TypeId} {size n:Nat} {v:Value} {xs:List Value} (h:w.ownsRow base e size v n xs):∀k,v.ownBlock=some k→base≤k:=by
 intro k hk
 rcases h.2 with⟨rfl,_⟩|⟨g,cap,cur,rfl,hb,_⟩
 ·simp [Value.ownBlock]at hk
 ·simp [Value.ownBlock]at hk
  omega
theorem own_lt {w:World} {base:Nat} {e:TypeId} {size n:Nat} {v:Value} {xs:List Value} (h:w.ownsRow base e size v n xs):∀k,v.ownBlock=some k→k<w.heap.size:=by
 intro k hk
 rcases h.2 with⟨rfl,_⟩|⟨g,cap,cur,rfl,hb,hg,_⟩
 ·simp [Value.ownBlock]at hk
 ·simp [Value.ownBlock]at hk
  subst hk
  exact(Array.getElem?_eq_some_iff.1 hg).1
theorem own_frm {p:Nat→Prop} {w w':World} (hf:Frm p w w') {base:Nat} {e:TypeId} {size n:Nat} {v:Value} {xs:List Value} (h:w.ownsRow base e size v n xs) (hp:∀k,v.ownBlock=some k→¬p k):w'.ownsRow base e size v n xs:=by
 refine⟨h.1,?_⟩
 rcases h.2 with h0|⟨g,cap,cur,hv,hb,hg,h5⟩
 ·exact .inl h0
 ·refine .inr ⟨g,cap,cur,hv,hb,?_,h5⟩
  rw [hf.block g (Array.getElem?_eq_some_iff.1 hg).1 (hp g (by rw [hv];rfl))]
  exact hg
theorem own_below {w w':World} {base:Nat} {e:TypeId} {size n:Nat} {v:Value} {xs:List Value} (h:w.ownsRow base e size v n xs) (hb:Below w.heap.size w w'):w'.ownsRow base e size v n xs:=
 own_frm (Frm.of_below (p:=fun _=>False) hb) h (fun _ _ h=>h)
def cls (n:Nat):Nat:=
 if n=32∨n=9 then 1 else if n=10 then 2
 else if n=124∨n=38∨n=59∨n=60∨n=62∨n=40∨n=41 then 3
 else if n=92∨n=39∨n=34∨n=96∨n=36 then 4
 else if(65≤n∧n≤90)∨(97≤n∧n≤122)∨n=95 then 5
 else if 48≤n∧n≤57 then 6 else 0
def endsB (n:Nat):Bool:=decide (cls n=1∨cls n=2∨cls n=3)
def specB (n:Nat):Bool:=decide (n=64∨n=42∨n=35∨n=63∨n=45∨n=36∨n=33)
def inB (n:Nat) (s:ByteArray):Bool:=s.data.toList.any fun c=>n==c.toNat
theorem inB_meta (n:Nat):inB n ⟨#[124,38,59,60,62,40,41]⟩=decide (n=124∨n=38∨n=59∨n=60∨n=62∨n=40∨n=41):=by
 rw [Bool.eq_iff_iff,decide_eq_true_iff];simp [inB]
theorem inB_quote (n:Nat):inB n ⟨#[92,39,34,96,36]⟩=decide (n=92∨n=39∨n=34∨n=96∨n=36):=by
 rw [Bool.eq_iff_iff,decide_eq_true_iff];simp [inB]
theorem inB_digit (n:Nat):inB n ⟨#[48,49,50,51,52,53,54,55,56,57]⟩=decide (48≤n∧n≤57):=by
 rw [Bool.eq_iff_iff,decide_eq_true_iff];simp [inB];omega
theorem inB_spec (n:Nat):inB n ⟨#[64,42,35,63,45,36,33]⟩=specB n:=by
 rw [Bool.eq_iff_iff];unfold specB;rw [decide_eq_true_iff];simp [inB]
theorem inB_letter (n:Nat):inB n ⟨#[65,66,67,68,69,70,71,72,73,74,75,76,77,78,79,80,81,82,83,84,85,86,87,88,89,90,97,98,99,100,101,102,103,104,105,106,107,108,109,110,111,112,113,114,115,116,117,118,119,120,121,122,95]⟩=decide ((65≤n∧n≤90)∨(97≤n∧n≤122)∨n=95):=by
 rw [Bool.eq_iff_iff,decide_eq_true_iff];simp [inB];omega
def cl (s:ByteArray) (i:Nat):Nat:=cls (bt s i).toNat
def lead (q:Nat→Bool):Nat→Nat
 |0=>0
 |z+1=>if lead q z=z∧q z=true then z+1 else lead q z
section
variable (q:Nat→Bool)
theorem lead_le (z:Nat):lead q z≤z:=by
 induction z with
 |zero=>exact Nat.le_refl _
 |succ z ih=>unfold lead;split<;>omega
theorem lead_all {z i:Nat} (h:i<lead q z):q i=true:=by
 induction z with
 |zero=>simp [lead]at h
 |succ z ih=>
  unfold lead at h
  split at h
  ·rename_i g
   by_cases e:i=z
   ·rw [e];exact g.2
   ·exact ih (by omega)
  ·exact ih h
theorem lead_stop {z:Nat} (h:lead q z<z):q (lead q z)=false:=by
 induction z with
 |zero=>simp [lead]at h
 |succ z ih=>
  unfold lead at h ⊢
  split at h
  ·omega
  ·rename_i g
   rw [if_neg g]
   by_cases e:lead q z=z
   ·rw [e]at g ⊢
    simpa using g
   ·have:=lead_le q z
    exact ih (by omega)
theorem lead_eq {z n:Nat} (hn:n≤z) (ha:∀i,i<n→q i=true) (hs:n<z→q n=false):lead q z=n:=by
 have h1:=lead_le q z
 rcases Nat.lt_trichotomy (lead q z) n with g|g|g
 ·have:=lead_stop q (z:=z) (by omega)
  rw [ha _ g]at this;cases this
 ·exact g
 ·have:=lead_all q (z:=z) g
  rw [hs (by omega)]at this;cases this
theorem lead_whole {z:Nat}:lead q z=z↔∀i,i<z→q i=true:=
 ⟨fun h i hi=>lead_all q (z:=z) (by omega),fun h=>lead_eq q (Nat.le_refl _) h (fun g=>by omega)⟩
end
def mayN (c i:Nat):Bool:=decide (c=5∨(c=6∧0<i))
def nameN (s:ByteArray) (a:Nat):Nat:=lead (fun i=>mayN (cl s (a+i)) i) (s.size - a)
def rowN (s:ByteArray) (a c:Nat):Nat:=lead (fun i=>decide (cl s (a+i)=c)) (s.size - a)
def paramN (s:ByteArray) (a:Nat):Nat:=
 if 0<nameN s a then nameN s a else if a<s.size∧(cl s a=6∨specB (bt s a).toNat=true)then 1 else 0
def isNm (s:ByteArray):Bool:=decide (s.size≠0∧∀i,i<s.size→mayN (cl s i) i=true)
def assignN (s:ByteArray):Nat:=if nameN s 0≠0∧nameN s 0<s.size∧(bt s (nameN s 0)).toNat=61 then nameN s 0 else 0
theorem bt_extract (s:ByteArray) (a b i:Nat) (hb:b≤s.size) (hi:i<b - a):bt (s.extract a b) i=bt s (a+i):=by
 have h1:i<(s.extract a b).size:=by simp;omega
 rw [bt_eq h1,bt_eq (s:=s) (i:=a+i) (by omega)]
 simp [ByteArray.getElem_eq_getElem_data]
theorem cl_extract (s:ByteArray) (a b i:Nat) (hb:b≤s.size) (hi:i<b - a):cl (s.extract a b) i=cl s (a+i):=by
 unfold cl;rw [bt_extract s a b i hb hi]
theorem nameN_le (s:ByteArray) (a:Nat):nameN s a≤s.size - a:=lead_le _ _
theorem rowN_le (s:ByteArray) (a c:Nat):rowN s a c≤s.size - a:=lead_le _ _
theorem isNm_extract (s:ByteArray) (a k:Nat) (h:a+(k+1)≤s.size):
  isNm (s.extract a (a+(k+1)))=true↔∀i,i<k+1→mayN (cl s (a+i)) i=true:=by
 have hz:(s.extract a (a+(k+1))).size=k+1:=by simp;omega
 unfold isNm
 rw [decide_eq_true_iff,hz]
 constructor
 ·rintro⟨_,h2⟩ i hi
  have:=h2 i hi
  rwa [cl_extract s _ _ _ h (by omega)]at this
 ·intro h2
  refine⟨by omega,fun i hi=>?_⟩
  rw [cl_extract s _ _ _ h (by omega)]
  exact h2 i hi
theorem isNm_name (s:ByteArray):isNm s=decide (s.size≠0∧nameN s 0=s.size):=by
 unfold isNm nameN
 congr 1
 apply propext
 simp only [Nat.zero_add,Nat.sub_zero]
 rw [lead_whole]
theorem mayN_61 (i:Nat):mayN (cls 61) i=false:=by
 have:cls 61=0:=rfl
 rw [this];simp [mayN]
theorem assign_at {s:ByteArray} {k:Nat} (h0:0<k) (hk:k<s.size) (hb:(bt s k).toNat=61) (hn:isNm (s.extract 0 k)=true):assignN s=k:=by
 obtain⟨j,rfl⟩:∃j,k=j+1:=⟨k - 1,by omega⟩
 have h1:=(isNm_extract s 0 j (by omega)).1 (by simpa using hn)
 have hN:nameN s 0=j+1:=by
  unfold nameN
  refine lead_eq _ (by omega) (fun i hi=>by simpa using h1 i hi) (fun _=>?_)
  show mayN (cl s (0+(j+1))) (j+1)=false
  unfold cl
  rw [Nat.zero_add,hb];exact mayN_61 _
 unfold assignN
 rw [hN,if_pos ⟨by omega,hk,hb⟩]
theorem assign_none {s:ByteArray} (h:∀k,0<k→k<s.size→(bt s k).toNat=61→isNm (s.extract 0 k)=false):assignN s=0:=by
 unfold assignN
 split
 ·rename_i g
  have h1:=h _ (by omega) g.2.1 g.2.2
  obtain⟨j,hj⟩:∃j,nameN s 0=j+1:=⟨nameN s 0 - 1,by omega⟩
  have h2:isNm (s.extract 0 (0+(j+1)))=true:=(isNm_extract s 0 j (by omega)).2 (fun i hi=>lead_all (fun i=>mayN (cl s (0+i)) i) (z:=s.size - 0) (by
   have:lead (fun i=>mayN (cl s (0+i)) i) (s.size - 0)=j+1:=hj
   omega))
  rw [Nat.zero_add,←hj,h1]at h2;cases h2
 ·rfl
abbrev Fr:=Nat×Nat
structure Ms where
 st:List Fr
 fresh:Bool
def Ms.start:Ms:=⟨[(0,0)],true⟩
inductive Mv
 |keep
 |push (m:Nat)
 |pop
 |turn (m:Nat)
def Mv.run (v:Mv) (st:List Fr) (p:Nat):List Fr:=
 match v with
 | .keep=>st
 | .push m=>(m,p)::st
 | .pop=>st.tail
 | .turn m=>match st with
  | []=> []
  |(_,f)::r=>(m,f)::r
def opn (b:Nat):Nat:=if b=92 then 13 else if b=36 then 12 else if b=96 then 6 else 15
theorem opn_cases (b:Nat):opn b=13∨opn b=12∨opn b=6∨opn b=15:=by
 unfold opn
 repeat' split
 all_goals omega
def isProg (m:Nat):Bool:=decide (m=0∨m=1∨m=2)
def mv (m b:Nat) (fresh:Bool):Mv×Bool:=
 if isProg m then
  if b=92 then(.push 13,fresh)else if b=39 then(.push 4,false)else if b=34 then(.push 5,false)
  else if b=96∨b=36 then(.push (opn b),false)
  else if b=35∧fresh=true then(.push 14,fresh)
  else if b=40 then(if m=0 then(.keep,true)else(.push 2,true))
  else if b=41 then(if m=0 then(.keep,true)else(.pop,decide (m=2)))
  else(.keep,endsB b)
 else if m=13 then(.pop,if b=10 then fresh else false)
 else if m=4 then(if b=39 then(.pop,fresh)else(.keep,fresh))
 else if m=14 then(if b=10 then(.pop,true)else(.keep,fresh))
 else if m=6 then(if b=96 then(.pop,fresh)else if b=92 then(.push 13,fresh)else(.keep,fresh))
 else if opn b≠15 then(.push (opn b),fresh)
 else if m=9∨m=10 then
  if b=40 then(.push 10,fresh)else if b=41∧m=10 then(.pop,fresh)else if b=41 then(.turn 11,fresh)else(.keep,fresh)
 else if m=5 then(if b=34 then(.pop,fresh)else(.keep,fresh))
 else if b=34 then(.push 5,fresh)
 else if b=125 then(.pop,fresh)
 else if b=39∧m=7 then(.push 4,fresh)
 else(.keep,fresh)
def fin (v:Mv×Bool) (st:List Fr) (p:Nat):Ms:=⟨v.1.run st p,v.2⟩
def plainF (st:List Fr) (fresh:Bool) (b p:Nat):Ms:=
 match st with
 | []=>⟨[],fresh⟩
 |(m,f)::r=>fin (mv m b fresh) ((m,f)::r) p
def top (st:List Fr):Nat:=match st with
 | []=>0
 |(m,_)::_=>m
def brace (m:Nat):Nat:=if m=5∨m=8 then 8 else 7
def feed (x:Ms) (b p:Nat):Ms:=
 match x.st with
 | []=>x
 |(m,f)::r=>
  if m=12 then
   if b=40 then⟨(3,f)::r,true⟩
   else if b=123 then⟨(brace (top r),f)::r,x.fresh⟩
   else if b=36 then⟨r,x.fresh⟩
   else plainF r x.fresh b p
  else if m=3 then
   if b=40 then⟨(9,f)::r,false⟩else plainF ((1,f)::r) x.fresh b p
  else if m=11 then
   if b=41 then⟨r,x.fresh⟩else plainF ((9,f)::r) x.fresh b p
  else plainF ((m,f)::r) x.fresh b p
def base (m:Nat):Bool:=decide (m≠3∧m≠4∧m≠11∧m≠12∧m≠13∧m≠14∧m≤14)
def over (m2 m:Nat):Bool:=base m2 && decide (m≠0∧m≤14)&&(decide (m≠2)||decide (m2=1∨m2=2))&&(decide (m≠14)||isProg m2)
def good:List Fr→Prop
 | []=>False
 | [(m,_)]=>m=0
 |(m,_)::(m2,f2)::r=>over m2 m=true∧good ((m2,f2)::r)
def frOK (st:List Fr) (fresh:Bool):Prop:=
 (top st=14→fresh=true)∧(fresh=true→isProg (top st)=true∨top st=3∨top st=14∨(top st=13∧isProg (top st.tail)=true))
structure Inv (x:Ms):Prop where
 good:good x.st
 fr:frOK x.st x.fresh
theorem Inv.start:Inv Ms.start:=⟨rfl,by unfold frOK Ms.start;decide⟩
theorem good_le {m f:Nat} {r:List Fr} (h:good ((m,f)::r)):m≤14:=by
 cases r with
 |nil=>simp [good]at h;omega
 |cons a r=>simp [good,over]at h;omega
theorem good_two {m f m2 f2:Nat} {r:List Fr} (h:good ((m,f)::(m2,f2)::r)):over m2 m=true∧good ((m2,f2)::r):=h
theorem good_more {m f:Nat} {r:List Fr} (h:good ((m,f)::r)) (hm:m≠0):∃m2 f2 r2,r=(m2,f2)::r2∧over m2 m=true∧good ((m2,f2)::r2):=by
 cases r with
 |nil=>exact absurd h hm
 |cons a r=>exact⟨a.1,a.2,r,rfl,h⟩
theorem good_zero {f:Nat} {r:List Fr} (h:good ((0,f)::r)):r=[]:=by
 cases r with
 |nil=>rfl
 |cons a r=>simp [good,over]at h
theorem over_base {a b:Nat} (h:over a b=true):base a=true:=by
 unfold over at h;simp only [Bool.and_eq_true]at h;exact h.1.1.1
theorem good_turn {m f:Nat} {r:List Fr} (h:good ((m,f)::r)) (hm:m≠0) (n:Nat) (hn:n≠0∧n≤14∧n≠2∧n≠14) (g:Nat):good ((n,g)::r):=by
 obtain⟨m2,f2,r2,rfl,h1,h2⟩:=good_more h hm
 refine⟨?_,h2⟩
 have:=over_base h1
 unfold over
 simp [this,hn]
theorem plain_inv {m f:Nat} {r:List Fr} {fresh:Bool} {b p:Nat} (hg:good ((m,f)::r)) (hf:frOK ((m,f)::r) fresh) (h3:m≠3) (h11:m≠11) (h12:m≠12):Inv (plainF ((m,f)::r) fresh b p):=by
 have hle:=good_le hg
 have htop:top ((m,f)::r)=m:=rfl
 unfold frOK at hf
 rw [htop]at hf
 obtain⟨hf1,hf2⟩:=hf
 have htl:top ((m,f)::r).tail=top r:=rfl
 rw [htl]at hf2
 clear htl
 have hb:base m=true∨m=13∨m=4∨m=14:=by
  unfold base;rw [decide_eq_true_iff];omega
 have push:∀n fr,over m n=true→frOK ((n,p)::(m,f)::r) fr→Inv ⟨(n,p)::(m,f)::r,fr⟩:=fun n fr ho hk=>⟨⟨ho,hg⟩,hk⟩
 have keep:∀fr,frOK ((m,f)::r) fr→Inv ⟨(m,f)::r,fr⟩:=fun fr hk=>⟨hg,hk⟩
 have pop:∀fr,m≠0→(∀m2,over m2 m=true→top r=m2→(fr=true→isProg m2=true))→Inv ⟨r,fr⟩:=by
  intro fr hm hk
  obtain⟨m2,f2,r2,rfl,h1,h2⟩:=good_more hg hm
  refine⟨h2,?_,?_⟩
  ·intro e
   have e':m2=14:=e
   subst e'
   have:=over_base h1
   simp [base]at this
  ·intro e
   exact .inl (hk m2 h1 rfl e)
 show Inv (fin (mv m b fresh) ((m,f)::r) p)
 unfold mv
 by_cases hP:isProg m=true
 ·have hP':m=0∨m=1∨m=2:=by unfold isProg at hP;simpa using hP
  have hB:base m=true:=by unfold base;rw [decide_eq_true_iff];omega
  rw [if_pos hP]
  have ov:∀n,n≠0→n≤14→n≠2→over m n=true:=by
   intro n h1 h2 h3
   unfold over
   simp [hB,hP,h1,h2,h3]
  split
  ·exact push 13 _ (ov _ (by omega) (by omega) (by omega)) ⟨fun e=>by simp [top]at e,fun e=> .inr (.inr (.inr ⟨rfl,hP⟩))⟩
  split
  ·exact push 4 _ (ov _ (by omega) (by omega) (by omega)) ⟨fun e=>by simp [top]at e,fun e=>by simp at e⟩
  split
  ·exact push 5 _ (ov _ (by omega) (by omega) (by omega)) ⟨fun e=>by simp [top]at e,fun e=>by simp at e⟩
  split
  ·rename_i h
   have ho:opn b=12∨opn b=6:=by unfold opn;rcases h with rfl|rfl<;>simp
   exact push (opn b) _ (ov _ (by omega) (by omega) (by omega)) ⟨fun e=>by simp [top]at e;omega,fun e=>by simp at e⟩
  split
  ·rename_i h
   exact push 14 _ (ov _ (by omega) (by omega) (by omega)) ⟨fun e=>h.2,fun e=> .inr (.inr (.inl rfl))⟩
  split
  ·split
   ·exact keep _ ⟨fun e=>rfl,fun e=> .inl hP⟩
   ·rename_i hm
    exact push 2 _ (by unfold over;simp [hB];omega) ⟨fun e=>rfl,fun e=> .inl rfl⟩
  split
  ·split
   ·exact keep _ ⟨fun e=>rfl,fun e=> .inl hP⟩
   ·rename_i hm
    refine pop _ hm fun m2 ho _ e=>?_
    have e2:m=2:=by simpa using e
    subst e2
    unfold over at ho
    unfold isProg
    simp at ho ⊢
    omega
  ·exact keep _ ⟨fun e=>by have e':m=14:=e;omega,fun e=> .inl hP⟩
 ·rw [if_neg hP]
  have hP':¬(m=0∨m=1∨m=2):=by unfold isProg at hP;simpa using hP
  by_cases h13:m=13
  ·rw [if_pos h13]
   refine pop _ (by omega) fun m2 ho ht e=>?_
   have hfr:fresh=true:=by
    split at e
    ·exact e
    ·simp at e
   rcases hf2 hfr with h|h|h|h
   ·exact absurd h hP
   ·omega
   ·omega
   ·rw [←ht];exact h.2
  rw [if_neg h13]
  by_cases h4:m=4
  ·rw [if_pos h4]
   have hfr:fresh=false:=by
    rw [Bool.eq_false_iff]
    intro e
    rcases hf2 e with h|h|h|h
    ·exact absurd h hP
    ·omega
    ·omega
    ·omega
   split
   ·exact pop _ (by omega) fun m2 ho _ e=>by rw [hfr]at e;simp at e
   ·exact keep _ ⟨hf1,hf2⟩
  rw [if_neg h4]
  by_cases h14:m=14
  ·rw [if_pos h14]
   split
   ·refine pop _ (by omega) fun m2 ho _ e=>?_
    unfold over at ho
    simp [h14]at ho
    exact ho.2
   ·exact keep _ ⟨hf1,hf2⟩
  rw [if_neg h14]
  have hB:base m=true:=by unfold base;rw [decide_eq_true_iff];omega
  have hfr:fresh=false:=by
   rw [Bool.eq_false_iff]
   intro e
   rcases hf2 e with h|h|h|h
   ·exact absurd h hP
   ·omega
   ·omega
   ·omega
  subst hfr
  have ov:∀n,n≠0→n≤14→n≠2→n≠14→over m n=true:=by
   intro n h1 h2 h3 h4
   unfold over
   simp [hB,h1,h2,h3,h4]
  have PUSH:∀n,n≠0→n≤14→n≠2→n≠14→Inv ⟨(n,p)::(m,f)::r,false⟩:=fun n h1 h2 h3 h4=>push n false (ov n h1 h2 h3 h4) ⟨fun e=>absurd e h4,fun e=>by simp at e⟩
  have KEEP:Inv ⟨(m,f)::r,false⟩:=keep false ⟨hf1,hf2⟩
  have POP:Inv ⟨r,false⟩:=pop false (by omega) fun m2 _ _ e=>by simp at e
  have TURN:Inv ⟨(11,f)::r,false⟩:=⟨good_turn hg (by omega) 11 (by decide) f,fun e=>by simp [top]at e,fun e=>by simp at e⟩
  have ho:opn b≠15→opn b≠0∧opn b≤14∧opn b≠2∧opn b≠14:=by
   intro _
   rcases opn_cases b with e|e|e|e<;>omega
  split
  ·split
   ·exact POP
   split
   ·exact PUSH 13 (by omega) (by omega) (by omega) (by omega)
   ·exact KEEP
  split
  ·rename_i h
   have:=ho h
   exact PUSH _ this.1 this.2.1 this.2.2.1 this.2.2.2
  split
  ·split
   ·exact PUSH 10 (by omega) (by omega) (by omega) (by omega)
   split
   ·exact POP
   split
   ·exact TURN
   ·exact KEEP
  split
  ·split
   ·exact POP
   ·exact KEEP
  split
  ·exact PUSH 5 (by omega) (by omega) (by omega) (by omega)
  split
  ·exact POP
  split
  ·exact PUSH 4 (by omega) (by omega) (by omega) (by omega)
  ·exact KEEP
theorem feed_inv {x:Ms} (h:Inv x) (b p:Nat):Inv (feed x b p):=by
 obtain⟨st,fresh⟩:=x
 obtain⟨hg,hf⟩:=h
 cases st with
 |nil=>exact absurd hg (by simp [good])
 |cons a r=>
  obtain⟨m,f⟩:=a
  simp only at hg hf
  unfold feed
  simp only
  have hfr:m=12∨m=11→fresh=false:=by
   intro hm
   rw [Bool.eq_false_iff]
   intro e
   rcases hf.2 e with h|h|h|h
   ·have h':isProg m=true:=h
    unfold isProg at h'
    rw [decide_eq_true_iff]at h'
    omega
   ·have h':m=3:=h;omega
   ·have h':m=14:=h;omega
   ·have h':m=13:=h.1;omega
  by_cases h12:m=12
  ·rw [if_pos h12]
   have hfr:=hfr (.inl h12)
   subst hfr
   split
   ·exact⟨good_turn hg (by omega) 3 (by decide) f,fun e=>by simp [top]at e,fun e=> .inr (.inl rfl)⟩
   split
   ·refine⟨good_turn hg (by omega) _ (by unfold brace;split<;>decide) f,fun e=>?_,fun e=>by simp at e⟩
    have e':brace (top r)=14:=e
    unfold brace at e'
    split at e'<;>omega
   obtain⟨m2,f2,r2,rfl,h1,h2⟩:=good_more hg (by omega)
   have hb:=over_base h1
   unfold base at hb
   rw [decide_eq_true_iff]at hb
   have hk:frOK ((m2,f2)::r2) false:=⟨fun e=>by have e':m2=14:=e;omega,fun e=>by simp at e⟩
   split
   ·exact⟨h2,hk⟩
   ·exact plain_inv h2 hk (by omega) (by omega) (by omega)
  rw [if_neg h12]
  by_cases h3:m=3
  ·rw [if_pos h3]
   split
   ·exact⟨good_turn hg (by omega) 9 (by decide) f,fun e=>by simp [top]at e,fun e=>by simp at e⟩
   ·exact plain_inv (good_turn hg (by omega) 1 (by decide) f) ⟨fun e=>by simp [top]at e,fun e=> .inl rfl⟩ (by omega) (by omega) (by omega)
  rw [if_neg h3]
  by_cases h11:m=11
  ·rw [if_pos h11]
   have hfr:=hfr (.inr h11)
   subst hfr
   split
   ·obtain⟨m2,f2,r2,rfl,h1,h2⟩:=good_more hg (by omega)
    have hb:=over_base h1
    unfold base at hb
    rw [decide_eq_true_iff]at hb
    exact⟨h2,fun e=>by have e':m2=14:=e;omega,fun e=>by simp at e⟩
   ·exact plain_inv (good_turn hg (by omega) 9 (by decide) f) ⟨fun e=>by simp [top]at e,fun e=>by simp at e⟩ (by omega) (by omega) (by omega)
  rw [if_neg h11]
  exact plain_inv hg hf h3 h11 h12
def runG (x:Ms) (β:Nat→Nat) (p:Nat):Nat→Ms
 |0=>x
 |k+1=>feed (runG x β p k) (β k) (p+k)
theorem runG_inv {x:Ms} (h:Inv x) (β:Nat→Nat) (p:Nat):∀k,Inv (runG x β p k)
 |0=>h
 |k+1=>feed_inv (runG_inv h β p k) _ _
theorem run_len (v:Mv) (st:List Fr) (p:Nat):(v.run st p).length≤st.length+1:=by
 cases v with
 |keep=>show st.length≤_;omega
 |push m=>show st.length+1≤_;omega
 |pop=>show st.tail.length≤_;rw [List.length_tail];omega
 |turn m=>cases st<;>simp [Mv.run]
theorem plain_len (st:List Fr) (fresh:Bool) (b p:Nat):(plainF st fresh b p).st.length≤st.length+1:=by
 cases st with
 |nil=>simp [plainF]
 |cons a r=>exact run_len _ _ _
theorem feed_len (x:Ms) (b p:Nat):(feed x b p).st.length≤x.st.length+1:=by
 obtain⟨st,fresh⟩:=x
 cases st with
 |nil=>simp [feed]
 |cons a r=>
  obtain⟨m,f⟩:=a
  unfold feed
  have h1:=plain_len r fresh b p
  have h2:=fun n=>plain_len ((n,f)::r) fresh b p
  have h3:=h2 1
  have h4:=h2 9
  have h5:=h2 m
  simp only [List.length_cons]at h3 h4 h5 ⊢
  repeat' split
  all_goals first|omega|(simp only [List.length_cons];omega)
theorem runG_len (x:Ms) (β:Nat→Nat) (p:Nat):∀k,(runG x β p k).st.length≤x.st.length+k
 |0=>Nat.le_refl _
 |k+1=>by
  have h1:=runG_len x β p k
  have h2:=feed_len (runG x β p k) (β k) (p+k)
  show(feed _ _ _).st.length≤_
  omega
def by8 (s:ByteArray) (i:Nat):Nat:=(bt s i).toNat
theorem by8_lt (s:ByteArray) (i:Nat):by8 s i<256:=by unfold by8;exact(bt s i).toNat_lt
def runK (s:ByteArray) (k:Nat):Ms:=runG Ms.start (by8 s) 0 k
theorem runK_succ (s:ByteArray) (k:Nat):runK s (k+1)=feed (runK s k) (by8 s k) k:=by
 show feed _ _ (0+k)=_
 rw [Nat.zero_add];rfl
theorem runK_inv (s:ByteArray) (k:Nat):Inv (runK s k):=runG_inv Inv.start _ _ k
theorem runK_len (s:ByteArray) (k:Nat):(runK s k).st.length≤k+1:=by
 have:=runG_len Ms.start (by8 s) 0 k
 have e:Ms.start.st.length=1:=rfl
 unfold runK
 omega
theorem Inv.ne {x:Ms} (h:Inv x):0<x.st.length:=by
 obtain⟨st,fresh⟩:=x
 cases st with
 |nil=>exact absurd h.good (by simp [Go.Proofs.YtkolpaonccmgiaaGreatDoor.good])
 |cons a r=>simp
def closeB (m:Nat):List UInt8:=
 if m=4 then [39]else if m=5 then [34]else if m=6 then [96]else if m=7∨m=8 then [125]
 else if m=1∨m=3∨m=2∨m=10∨m=11 then [41]else if m=9 then [41,41]else if m=13∨m=14 then [10]else []
def closeL (st:List Fr):List UInt8:=st.flatMap fun x=>closeB x.1
def closeT (l:List UInt8):ByteArray:=⟨l.toArray⟩
theorem closeT_size (l:List UInt8):(closeT l).size=l.length:=by
 show l.toArray.size=_
 simp
theorem closeB_len (m:Nat):(closeB m).length≤2:=by
 unfold closeB
 repeat' split
 all_goals simp
theorem closeL_len (st:List Fr):(closeL st).length≤2*st.length:=by
 induction st with
 |nil=>exact Nat.le_refl _
 |cons a r ih=>
  have:=closeB_len a.1
  show(closeB a.1++closeL r).length≤_
  rw [List.length_append,List.length_cons]
  omega
theorem bt_ext {a b:ByteArray} (hs:a.size=b.size) (h:∀i,i<a.size→bt a i=bt b i):a=b:=by
 apply ByteArray.ext
 apply Array.ext
 ·exact hs
 ·intro i h1 h2
  rw [bt_getElem,bt_getElem]
  exact h i h1
theorem fits_of_bt {s d:ByteArray} {k:Nat} (h:k+d.size≤s.size) (hb:∀i,i<d.size→bt s (k+i)=bt d i):fits s k d:=by
 have z:(s.extract k (k+d.size)).size=d.size:=by simp;omega
 refine⟨h,bt_ext z fun i hi=>?_⟩
 rw [z]at hi
 rw [bt_extract s k (k+d.size) i h (by omega)]
 exact hb i hi
def txt:Nat→ByteArray
 |1=>⟨#[38,38]⟩|2=>⟨#[124,124]⟩|3=>⟨#[59,59]⟩|4=>⟨#[60,60]⟩|5=>⟨#[60,60,45]⟩|6=>⟨#[62,62]⟩
 |7=>⟨#[60,38]⟩|8=>⟨#[62,38]⟩|9=>⟨#[60,62]⟩|10=>⟨#[62,124]⟩|11=>⟨#[60]⟩|12=>⟨#[62]⟩
 |13=>⟨#[38]⟩|14=>⟨#[59]⟩|15=>⟨#[124]⟩|16=>⟨#[40]⟩|17=>⟨#[41]⟩|_=>⟨#[]⟩
def ops:List Nat:=[5,1,2,3,4,6,7,8,9,10,11,12,13,14,15,16,17]
theorem mem_ops {k:Nat}:k∈ops↔1≤k∧k≤17:=by
 constructor
 ·intro h
  have:∀k∈ops,1≤k∧k≤17:=by decide
  exact this k h
 ·rintro⟨h1,h2⟩
  have:∀k,k<18→1≤k→k∈ops:=by decide
  exact this k (by omega) h1
theorem txt_out {k:Nat} (h:¬(1≤k∧k≤17)):txt k=⟨#[]⟩:=by
 unfold txt
 split<;>first|omega|rfl
theorem txt_size_in {k:Nat} (h:k∈ops):1≤(txt k).size∧(txt k).size≤3:=by
 have:∀k∈ops,1≤(txt k).size∧(txt k).size≤3:=by decide+kernel
 exact this k h
theorem txt_le (k:Nat):(txt k).size≤3:=by
 by_cases h:k∈ops
 ·exact(txt_size_in h).2
 ·rw [txt_out (fun g=>h (mem_ops.2 g))];decide
theorem txt_inj {i j:Nat} (hi:i∈ops) (hj:j∈ops) (h:txt i=txt j):i=j:=by
 have:∀i∈ops,∀j∈ops,txt i=txt j→i=j:=by decide+kernel
 exact this i hi j hj h
def opN (s:ByteArray) (a:Nat):Nat:=(ops.find? fun k=>decide (fits s a (txt k))).getD 0
def IsAt (s:ByteArray) (a op:Nat):Prop:=
 (op=0∧∀k∈ops,¬fits s a (txt k))∨(op∈ops∧fits s a (txt op)∧∀k∈ops,fits s a (txt k)→(txt k).size≤(txt op).size)
theorem opN_is (s:ByteArray) (a:Nat):IsAt s a (opN s a):=by
 unfold opN
 cases h:ops.find? fun k=>decide (fits s a (txt k))with
 |none=>
  refine .inl ⟨rfl,fun k hk=>?_⟩
  have:=List.find?_eq_none.1 h k hk
  simpa using this
 |some k=>
  obtain⟨h1,asx,bs,h2,h3⟩:=List.find?_eq_some_iff_append.1 h
  have hk:k∈ops:=by rw [h2];simp
  refine .inr ⟨hk,by simpa using h1,fun j hj hf=>?_⟩
  have hp:ops.Pairwise fun i j=>(txt j).size≤(txt i).size:=by decide+kernel
  rw [h2]at hj hp
  rcases List.mem_append.1 hj with g|g
  ·have:=h3 j g
   simp [hf]at this
  ·rcases List.mem_cons.1 g with g|g
   ·rw [g];exact Nat.le_refl _
   ·exact List.rel_of_pairwise_cons (List.pairwise_append.1 hp).2.1 g
theorem IsAt.one {s:ByteArray} {a x y:Nat} (h:IsAt s a x) (k:IsAt s a y):x=y:=by
 rcases h with⟨rfl,h⟩|⟨h1,h2,h3⟩
 ·rcases k with⟨rfl,k⟩|⟨k1,k2,k3⟩
  ·rfl
  ·exact absurd k2 (h _ k1)
 ·rcases k with⟨rfl,k⟩|⟨k1,k2,k3⟩
  ·exact absurd h2 (k _ h1)
  ·have e1:=h3 _ k1 k2
   have e2:=k3 _ h1 h2
   have e:(txt x).size=(txt y).size:=by omega
   refine txt_inj h1 k1 ?_
   have q:=h2.2
   rw [e,k2.2]at q
   exact q.symm
theorem opN_eq {s:ByteArray} {a x:Nat} (h:IsAt s a x):opN s a=x:=(opN_is s a).one h
theorem opN_mem {s:ByteArray} {a:Nat} (h:opN s a≠0):opN s a∈ops:=by
 rcases opN_is s a with⟨g,_⟩|⟨g,_⟩
 ·exact absurd g h
 ·exact g
theorem opN_fits {s:ByteArray} {a:Nat} (h:opN s a≠0):fits s a (txt (opN s a)):=by
 rcases opN_is s a with⟨g,_⟩|⟨_,g,_⟩
 ·exact absurd g h
 ·exact g
theorem opN_found {s:ByteArray} {a i n:Nat} (hi:i∈ops) (hn:(txt i).size=n) (hf:fits s a (txt i)) (h:∀k∈ops,n<(txt k).size→¬fits s a (txt k)):opN s a=i:=
 opN_eq (.inr ⟨hi,hf,fun k hk hfk=>by
  rw [hn]
  exact Nat.le_of_not_lt fun g=>h k hk g hfk⟩)
theorem opN_none {s:ByteArray} {a:Nat} (h:∀k∈ops,0<(txt k).size→¬fits s a (txt k)):opN s a=0:=
 opN_eq (.inl ⟨rfl,fun k hk=>h k hk (txt_size_in hk).1⟩)
theorem rest_eq {s d:ByteArray} {a n:Nat} (h:a+n≤s.size):(s.extract a s.size).extract 0 n=d↔d.size=n∧fits s a d:=by
 have e:(s.extract a s.size).extract 0 n=s.extract a (a+n):=by
  rw [ByteArray.extract_extract]
  congr 1
  omega
 rw [e]
 constructor
 ·intro g
  have z:(s.extract a (a+n)).size=n:=by simp;omega
  rw [g]at z
  exact⟨z,by rw [z];exact h,by rw [z];exact g⟩
 ·rintro⟨z,_,g⟩
  rw [z]at g
  exact g
def ofN (s:ByteArray):Nat:=if(txt (opN s 0)).size=s.size then opN s 0 else 0
theorem fits_all {s:ByteArray}:fits s 0 s:=by
 refine⟨by omega,?_⟩
 rw [Nat.zero_add]
 exact ByteArray.extract_zero_size
theorem ofN_txt {k:Nat} (hk:k∈ops):ofN (txt k)=k:=by
 have:∀k∈ops,ofN (txt k)=k:=by decide+kernel
 exact this k hk
theorem ofN_eq {s:ByteArray} {k:Nat} (hk:k∈ops):txt k=s↔ofN s=k:=by
 constructor
 ·intro h;rw [←h];exact ofN_txt hk
 ·intro h
  unfold ofN at h
  split at h
  ·rename_i g
   have h0:opN s 0≠0:=by have:=(mem_ops.1 hk).1;omega
   have hf:=(opN_fits h0).2
   rw [g,Nat.zero_add,h]at hf
   rw [←hf]
   exact ByteArray.extract_zero_size
  ·have:=(mem_ops.1 hk).1;omega
theorem ofN_mem {s:ByteArray} (h:ofN s≠0):ofN s∈ops:=by
 unfold ofN at h ⊢
 split at h
 ·rename_i g
  rw [if_pos g]
  exact opN_mem h
 ·exact absurd rfl h
end Go.Proofs.YtkolpaonccmgiaaGreatDoor

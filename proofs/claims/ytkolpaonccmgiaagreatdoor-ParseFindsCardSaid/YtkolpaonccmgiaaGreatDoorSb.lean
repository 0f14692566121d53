/- The plain facts on the sixteen reserved words, eac -/
import Derived.Test.YtkolpaonccmgiaaGreatDoorQa
set_option linter.unusedVariables false
namespace Go.Proofs.YtkolpaonccmgiaaGreatDoor
set_option linter.unusedSectionVars false
set_option linter.unusedVariables false
open Go.RowKit
def words:List (List UInt8):=[[33],[123],[125],[99,97,115,101],[100,111],[100,111,110,101],[101,108,105,102],[101,108,115,101],[101,115,97,99],[102,105],[102,111,114],[105,102],[105,110],[116,104,101,110],[117,110,116,105,108],[119,104,105,108,101]]
def resB (s:ByteArray):Bool:=words.contains s.data.toList
def wtext:ByteArray:=⟨#[32,33,32,123,32,125,32,99,97,115,101,32,100,111,32,100,111,110,101,32,101,108,105,102,32,101,108,115,101,32,101,115,97,99,32,102,105,32,102,111,114,32,105,102,32,105,110,32,116,104,101,110,32,117,110,116,105,108,32,119,104,105,108,101,32]⟩
def hit (s:ByteArray) (i:Nat):Bool:=(wtext.extract i (i+(1+s.size+1))).toList==(⟨#[32]⟩++s++⟨#[32]⟩:ByteArray).toList
def hitL (l:List UInt8) (i:Nat):Bool:=(wtext.data.toList.drop i).take (1+l.length+1)==32::(l++ [32])
theorem hit_eq (s:ByteArray) (i:Nat):hit s i=hitL s.data.toList i:=by
 unfold hit hitL
 rw [Go.ByteArray.toList_eq,Go.ByteArray.toList_eq]
 have e1:(wtext.extract i (i+(1+s.size+1))).data.toList=(wtext.data.toList.drop i).take (1+s.data.toList.length+1):=by
  rw [ByteArray.data_extract,Array.toList_extract,List.extract_eq_take_drop]
  congr 1
  have:s.data.toList.length=s.size:=by simp
  omega
 have e2:(⟨#[32]⟩++s++⟨#[32]⟩:ByteArray).data.toList=32::(s.data.toList++ [32]):=by
  rw [ByteArray.data_append,ByteArray.data_append];simp
 rw [e1,e2]
def seg (i n:Nat):List UInt8:=(((wtext.data.toList.drop i).take (1+n+1)).drop 1).take n
def segOk (i n:Nat):Bool:=decide (n=0)||!((wtext.data.toList.drop i).take (1+n+1)==32::(seg i n++ [32]))||(seg i n).contains 32||words.contains (seg i n)
theorem seg_all:((List.range 66).all fun i=>(List.range 66).all fun n=>segOk i n)=true:=by decide+kernel
theorem word_all:(words.all fun l=>(List.range 66).any fun i=>decide (i+(1+l.length+1)≤65)&& hitL l i)=true:=by decide+kernel
theorem inB_32 (s:ByteArray):inB 32 s=s.data.toList.contains 32:=by
 unfold inB
 rw [List.contains_eq_any_beq]
 congr 1
 funext c
 rw [Bool.eq_iff_iff,beq_iff_eq,beq_iff_eq]
 constructor
 ·intro h;exact UInt8.toNat_inj.1 h
 ·rintro rfl;rfl
theorem hit_word {s:ByteArray} {i:Nat} (h0:s.size≠0) (hin:inB 32 s=false) (hi:i+(1+s.size+1)≤65) (h:hit s i=true):resB s=true:=by
 rw [hit_eq]at h
 have hl:s.data.toList.length=s.size:=by simp
 have hs:=seg_all
 rw [List.all_eq_true]at hs
 have h1:=hs i (by simp;omega)
 rw [List.all_eq_true]at h1
 have h2:=h1 s.size (by simp;omega)
 unfold hitL at h
 rw [beq_iff_eq,hl]at h
 have hseg:seg i s.size=s.data.toList:=by
  unfold seg
  rw [h,List.drop_succ_cons,List.drop_zero,←hl,List.take_left']
  rfl
 unfold segOk at h2
 rw [hseg,h]at h2
 rw [inB_32]at hin
 rw [hin]at h2
 unfold resB
 simpa [h0]using h2
theorem word_hit {s:ByteArray} (h:resB s=true):∃i,i+(1+s.size+1)≤65∧hit s i=true:=by
 have hw:=word_all
 rw [List.all_eq_true]at hw
 have h1:=hw s.data.toList (by unfold resB at h;simpa using h)
 rw [List.any_eq_true]at h1
 obtain⟨i,_,hi⟩:=h1
 rw [Bool.and_eq_true,decide_eq_true_iff]at hi
 have hl:s.data.toList.length=s.size:=by simp
 exact⟨i,by omega,by rw [hit_eq];exact hi.2⟩
end Go.Proofs.YtkolpaonccmgiaaGreatDoor
namespace Go.Proofs.YtkolpaonccmgiaaGreatDoor.Q
set_option linter.unusedSectionVars false
set_option linter.unusedVariables false
open Go.RowKit
structure Nd where
 k:Int
 f:Int
 t:Int
 u:Int
inductive Abv (nv:Nat→Nd) (a:Nat):Nat→Prop
 |self:Abv nv a a
 |up {b c:Nat}:(nv b).u=(c:Int)→c<b→Abv nv a c→Abv nv a b
section
variable {nv:Nat→Nd}
theorem Abv.le {a b:Nat} (h:Abv nv a b):a≤b:=by
 induction h with
 |self=>exact Nat.le_refl _
 |up _ _ _ ih=>omega
theorem Abv.trans {a b c:Nat} (h:Abv nv a b) (g:Abv nv b c):Abv nv a c:=by
 induction g with
 |self=>exact h
 |up e l _ ih=>exact .up e l ih
theorem Abv.inv {a b:Nat} (h:Abv nv a b):a=b∨∃c:Nat,(nv b).u=(c:Int)∧c<b∧Abv nv a c:=by
 cases h with
 |self=>exact .inl rfl
 |up e l g=>exact .inr ⟨_,e,l,g⟩
theorem Abv.tot {a b c:Nat} (h:Abv nv a c) (g:Abv nv b c) (hab:a≤b):Abv nv a b:=by
 induction g with
 |self=>exact h
 |@up c d e l g ih=>
  rcases h.inv with rfl|⟨d',e',l',h'⟩
  ·have:=g.le;omega
  ·obtain rfl:d=d':=by omega
   exact ih h'
def UpOk (nv:Nat→Nd) (i:Nat):Prop:=∃u:Nat,(nv i).u=(u:Int)∧u<i∧Abv nv u (i - 1)
def Sp (nv:Nat→Nd) (n:Nat):Prop:=(nv 0).u= -1∧∀i,0<i→i<n→UpOk nv i
theorem Sp.mono {n m:Nat} (h:Sp nv n) (hm:m≤n):Sp nv m:=⟨h.1,fun i h0 h1=>h.2 i h0 (by omega)⟩
theorem abv0 {n:Nat} (hs:Sp nv n):∀b,b<n→Abv nv 0 b:=by
 intro b
 induction b using Nat.strongRecOn with
 |_ b ih=>
  intro hb
  rcases Nat.eq_zero_or_pos b with rfl|h0
  ·exact .self
  ·obtain⟨u,e,l,g⟩:=hs.2 b h0 hb
   exact .up e l (ih u l (by omega))
structure okN (nv:Nat→Nd) (i:Nat):Prop where
 k1:1≤(nv i).k
 k2:(nv i).k≤18
 ft:(nv i).f≤(nv i).t
 hang:0<i→∃u:Nat,(nv i).u=(u:Int)∧u<i∧Abv nv u (i - 1)∧(nv u).f≤(nv i).f∧(nv i).t≤(nv u).t∧∀k,0<k→k<i→(nv k).u=(u:Int)→(nv k).t≤(nv i).f
structure Rt (nv:Nat→Nd) (n:Nat) (leaves:Int):Prop where
 pos:0<n
 u0:(nv 0).u= -1
 f0:(nv 0).f=0
 t0:(nv 0).t=leaves
 ok:∀i,i<n→okN nv i
theorem sp_of {n:Nat} (h0:(nv 0).u= -1) (h:∀i,i<n→okN nv i):Sp nv n:=
 ⟨h0,fun i hp hi=>by
  obtain⟨u,e,l,g,_⟩:=(h i hi).hang hp
  exact⟨u,e,l,g⟩⟩
theorem Rt.sp {n:Nat} {lv:Int} (h:Rt nv n lv):Sp nv n:=sp_of h.u0 h.ok
theorem nest {n:Nat} (h:∀i,i<n→okN nv i):∀b,b<n→∀a,Abv nv a b→(nv a).f≤(nv b).f∧(nv b).t≤(nv a).t:=by
 intro b
 induction b using Nat.strongRecOn with
 |_ b ih=>
  intro hb a g
  rcases g.inv with rfl|⟨c,e,l,g'⟩
  ·exact⟨Int.le_refl _,Int.le_refl _⟩
  ·obtain⟨u,e',l',_,f',t',_⟩:=(h b hb).hang (by omega)
   obtain rfl:c=u:=by omega
   have:=ih c l (by omega) a g'
   omega
structure IsEnd (nv:Nat→Nd) (n i e:Nat):Prop where
 lt:i<e
 le:e≤n
 below:∀k,i<k→k<e→(i:Int)≤(nv k).u
 stop:e<n→(nv e).u<(i:Int)
theorem IsEnd.one {n i e e':Nat} (h:IsEnd nv n i e) (h':IsEnd nv n i e'):e=e':=by
 rcases Nat.lt_trichotomy e e' with g|g|g
 ·have h1:=h.stop (by have:=h'.le;omega)
  have h2:=h'.below e h.lt g
  omega
 ·exact g
 ·have h1:=h'.stop (by have:=h.le;omega)
  have h2:=h.below e' h'.lt g
  omega
def Bf (nv:Nat→Nd) (a b:Nat):Prop:=a≠b∧¬Abv nv a b∧¬((nv a).u=(nv b).u∧b<a)
end
def selN (P:Nat→Bool) (n:Nat):List Nat:=(List.range n).filter P
theorem selN_succ (P:Nat→Bool) (n:Nat):selN P (n+1)=selN P n++(if P n then [n]else []):=by
 unfold selN
 rw [List.range_succ,List.filter_append]
 congr 1
 simp only [List.filter_cons,List.filter_nil]
theorem selN_len (P:Nat→Bool) (n:Nat):(selN P n).length≤n:=by
 unfold selN
 exact Nat.le_trans (List.length_filter_le _ _) (by simp)
theorem selN_pre (P:Nat→Bool) (i:Nat):∀d,selN P i<+:selN P (i+d):=by
 intro d
 induction d with
 |zero=>exact List.prefix_refl _
 |succ d ih=>
  rw [show i+(d+1)=(i+d)+1 from rfl,selN_succ]
  exact ih.trans (List.prefix_append _ _)
end Go.Proofs.YtkolpaonccmgiaaGreatDoor.Q
namespace Go.Proofs.YtkolpaonccmgiaaGreatDoor.Q
set_option linter.unusedSectionVars false
set_option linter.unusedVariables false
open Go.RowKit
structure Lf where
 k:Int
 s:ByteArray
 f:Int
 t:Int
def opS (op:Nat):Nat:=[63,97,111,121,60,60,60,60,60,60,60,60,60,38,59,124,40,41].getD op 63
def wdL:List (List UInt8×Nat):=[([33],33),([123],123),([125],125),([105,102],105),([116,104,101,110],116),([101,108,105,102],101),([101,108,115,101],108),([102,105],102),([119,104,105,108,101],119),([117,110,116,105,108],119),([100,111],100),([100,111,110,101],103),([102,111,114],114),([105,110],107),([99,97,115,101],99),([101,115,97,99],122)]
def wdS (s:ByteArray):Nat:=((wdL.find? fun p=>s.data.toList==p.1).map (·.2)).getD 120
def sgn (k:Int) (s:ByteArray):Nat:=if k=2 then 110 else if k=4 then opS (ofN s)else if k=5 then 35 else if k=6 then wdS s else 63
theorem opS_lt (op:Nat):opS op<256:=by
 by_cases h:op<18
 ·have:∀k,k<18→opS k<256:=by decide
  exact this op h
 ·unfold opS
  rw [List.getD_eq_getElem?_getD,List.getElem?_eq_none (by simpa using h)]
  decide
theorem wdS_lt (s:ByteArray):wdS s<256:=by
 unfold wdS
 cases h:wdL.find? (fun p=>s.data.toList==p.1)with
 |none=>decide
 |some p=>
  have hm:=List.mem_of_find?_eq_some h
  have:∀p∈wdL,p.2<256:=by decide
  exact this p hm
theorem sgn_lt (k:Int) (s:ByteArray):sgn k s<256:=by
 unfold sgn
 split
 ·decide
 ·split
  ·exact opS_lt _
  ·split
   ·decide
   ·split
    ·exact wdS_lt s
    ·decide
def letN (k:Int):Nat:=[80,76,65,73,83,88,87,82,66,85,70,72,79,67,84,78,69,77].getD (k - 1).toNat 63
def segP (sg:Nat→Nat) (a:Nat):Nat→List Nat
 |0=> []
 |d+1=>sg a::segP sg (a+1) d
def rowP (sg:Nat→Nat) (nv:Nat→Nd):List Nat→Nat→Nat→List Nat
 | [],a,e=>segP sg a (e - a)
 |k::ks,a,e=>segP sg a ((nv k).f.toNat - a)++letN (nv k).k::rowP sg nv ks (nv k).t.toNat e
end Go.Proofs.YtkolpaonccmgiaaGreatDoor.Q

/- The plain facts on the sixteen reserved words, eac -/
import Derived.RangeFuncNested
import Derived.Shelf.Abstract
import Derived.WalkSpells
import Derived.WalkLawsBesides
import Derived.OwnWalkIn
import Derived.TacticsInMore
import Derived.LoopNIn
import Derived.LoopIn
import Derived.Deep.DeepCutAuto
import Derived.Test.YtkolpaonccmgiaaGreatDoorAp
import Derived.Lib.Bytealg
namespace Go.Proofs.YtkolpaonccmgiaaGreatDoor
set_option linter.unusedSectionVars false
set_option linter.unusedVariables false
open Go.RowKit
def GV:List (List UInt8):=[[33],[123],[125],[99,97,115,101],[100,111],[100,111,110,101],[101,108,105,102],[101,108,115,101],[101,115,97,99],[102,105],[102,111,114],[105,102],[105,110],[116,104,101,110],[117,110,116,105,108],[119,104,105,108,101]]
def V6(s:ByteArray):Bool:=GV.contains s.data.toList
def WY:ByteArray:=⟨#[32,33,32,123,32,125,32,99,97,115,101,32,100,111,32,100,111,110,101,32,101,108,105,102,32,101,108,115,101,32,101,115,97,99,32,102,105,32,102,111,114,32,105,102,32,105,110,32,116,104,101,110,32,117,110,116,105,108,32,119,104,105,108,101,32]⟩
def hit(s:ByteArray)(i:Nat):Bool:=(WY.extract i (i+(1+s.size+1))).toList==(⟨#[32]⟩++s++⟨#[32]⟩:ByteArray).toList
def Sm(l:List UInt8)(i:Nat):Bool:=(WY.data.toList.drop i).take (1+l.length+1)==32::(l++ [32])
theorem I4(s:ByteArray)(i:Nat):hit s i=Sm s.data.toList i:=by
 unfold hit Sm;rw[Go.ByteArray.toList_eq,Go.ByteArray.toList_eq];have e1:(WY.extract i (i+(1+s.size+1))).data.toList=(WY.data.toList.drop i).take (1+s.data.toList.length+1):=by
  rw[ByteArray.data_extract,Array.toList_extract,List.extract_eq_take_drop];congr 1;have:s.data.toList.length=s.size:=by simp
  omega
 have e2:(⟨#[32]⟩++s++⟨#[32]⟩:ByteArray).data.toList=32::(s.data.toList++ [32]):=by
  rw[ByteArray.data_append,ByteArray.data_append];simp
 rw[e1,e2]
def mr(i n:Nat):List UInt8:=(((WY.data.toList.drop i).take (1+n+1)).drop 1).take n
def I5(i n:Nat):Bool:=decide (n=0)||!((WY.data.toList.drop i).take (1+n+1)==32::(mr i n++ [32]))||(mr i n).contains 32||GV.contains (mr i n)
theorem zdW:((List.range 66).all λi=>(List.range 66).all λn=>I5 i n)=true:=by decide+kernel
theorem zdX:(GV.all λl=>(List.range 66).any λi=>decide (i+(1+l.length+1)<=65)&& Sm l i)=true:=by decide+kernel
theorem I7(s:ByteArray):inB 32 s=s.data.toList.contains 32:=by
 unfold inB;rw[List.contains_eq_any_beq];congr 1
 funext c
 rw[Bool.eq_iff_iff,beq_iff_eq,beq_iff_eq];constructor
 ·intro h;exact UInt8.toNat_inj.1 h
 ·rintro rfl;rfl
theorem zdY{s:ByteArray}{i:Nat}(h0:s.size≠0)(hin:inB 32 s=false)(hi:i+(1+s.size+1)<=65)(h:hit s i=true):V6 s=true:=by
 rw[I4]at h;have hl:s.data.toList.length=s.size:=by simp
 have hs:=zdW;rw[List.all_eq_true]at hs;have h1:=hs i (by simp;omega);rw[List.all_eq_true]at h1;have h2:=h1 s.size (by simp;omega);unfold Sm at h;rw[beq_iff_eq,hl]at h;have hseg:mr i s.size=s.data.toList:=by
  unfold mr;rw[h,List.drop_succ_cons,List.drop_zero,←hl,List.take_left'];rfl
 unfold I5 at h2;rw[hseg,h]at h2;rw[I7]at hin;rw[hin]at h2;unfold V6;simpa[h0]using h2
theorem zdZ{s:ByteArray}(h:V6 s=true):∃i,i+(1+s.size+1)<=65/\hit s i=true:=by
 have hw:=zdX;rw[List.all_eq_true]at hw;have h1:=hw s.data.toList (by unfold V6 at h;simpa using h);rw[List.any_eq_true]at h1;obtain⟨i,_,hi⟩:=h1;rw[Bool.and_eq_true,decide_eq_true_iff]at hi;have hl:s.data.toList.length=s.size:=by simp
 exact⟨i,by omega,by rw[I4];exact hi.2⟩
end Go.Proofs.YtkolpaonccmgiaaGreatDoor
namespace Go.Proofs.YtkolpaonccmgiaaGreatDoor.Q
set_option linter.unusedSectionVars false
set_option linter.unusedVariables false
open Go.RowKit
structure Nd where
 k:Int
 f:Int
 t:Int
 u:Int
inductive YI (nv:Nat->Nd) (a:Nat):Nat->Prop
 |self:YI nv a a
 |up {b c:Nat}:(nv b).u=(c:Int)->c<b->YI nv a c->YI nv a b
section
variable{nv:Nat->Nd}
theorem YI.le{a b:Nat}(h:YI nv a b):a<=b:=by
 induction h with
 |self=>exact Nat.le_refl _
 |up _ _ _ ih=>omega
theorem YI.trans{a b c:Nat}(h:YI nv a b)(g:YI nv b c):YI nv a c:=by
 induction g with
 |self=>exact h
 |up e l _ ih=>exact .up e l ih
def zob(nv:Nat->Nd)(i:Nat):Prop:=∃u:Nat,(nv i).u=(u:Int)/\u<i/\YI nv u (i-1)
def Sp(nv:Nat->Nd)(n:Nat):Prop:=(nv 0).u= -1/\∀i,0<i->i<n->zob nv i
theorem Sp.mono{n m:Nat}(h:Sp nv n)(hm:m<=n):Sp nv m:=⟨h.1,λi h0 h1=>h.2 i h0 (by omega)⟩
structure JD(nv:Nat->Nd)(n i e:Nat):Prop where
 lt:i<e
 le:e<=n
 below:∀k,i<k->k<e->(i:Int)<=(nv k).u
 stop:e<n->(nv e).u<(i:Int)
theorem JD.one{n i e e':Nat}(h:JD nv n i e)(h':JD nv n i e'):e=e':=by
 rcases Nat.lt_trichotomy e e' with g|g|g
 ·have h1:=h.stop (by have:=h'.le;omega)
  have h2:=h'.below e h.lt g;omega
 ·exact g
 ·have h1:=h'.stop (by have:=h.le;omega)
  have h2:=h.below e' h'.lt g;omega
def Bf(nv:Nat->Nd)(a b:Nat):Prop:=a≠b/\¬YI nv a b/\¬((nv a).u=(nv b).u/\b<a)
end
def jm(P:Nat->Bool)(n:Nat):List Nat:=(List.range n).filter P
theorem Eh(P:Nat->Bool)(n:Nat):jm P (n+1)=jm P n++(if P n then [n]else []):=by
 unfold jm;rw[List.range_succ,List.filter_append];congr 1;simp only[List.filter_cons,List.filter_nil]
theorem ziV(P:Nat->Bool)(n:Nat):(jm P n).length<=n:=by
 unfold jm;exact Nat.le_trans (List.length_filter_le _ _) (by simp)
theorem ziT(P:Nat->Bool)(i:Nat):∀d,jm P i<+:jm P (i+d):=by
 intro d
 induction d with
 |zero=>exact List.prefix_refl _
 |succ d ih=>
  rw[show i+(d+1)=(i+d)+1 from rfl,Eh];exact ih.trans (List.prefix_append _ _)
end Go.Proofs.YtkolpaonccmgiaaGreatDoor.Q
namespace Go.Proofs.YtkolpaonccmgiaaGreatDoor.Q
set_option linter.unusedSectionVars false
set_option linter.unusedVariables false
open Go.RowKit
structure Lf where
 k:Int
 s:ByteArray
 f:Int
 t:Int
def Q4(op:Nat):Nat:=[63,97,111,121,60,60,60,60,60,60,60,60,60,38,59,124,40,41].getD op 63
def TI:List (List UInt8×Nat):=[([33],33),([123],123),([125],125),([105,102],105),([116,104,101,110],116),([101,108,105,102],101),([101,108,115,101],108),([102,105],102),([119,104,105,108,101],119),([117,110,116,105,108],119),([100,111],100),([100,111,110,101],103),([102,111,114],114),([105,110],107),([99,97,115,101],99),([101,115,97,99],122)]
def GN(s:ByteArray):Nat:=((TI.find? λp=>s.data.toList==p.1).map (·.2)).getD 120
def XJ(k:Int)(s:ByteArray):Nat:=if k=2 then 110 else if k=4 then Q4 (vI s)else if k=5 then 35 else if k=6 then GN s else 63
theorem zl4(op:Nat):Q4 op<256:=by
 by_cases h:op<18
 ·have:∀k,k<18->Q4 k<256:=by decide
  exact this op h
 ·unfold Q4
  rw[List.getD_eq_getElem?_getD,List.getElem?_eq_none (by simpa using h)];decide
theorem zl5(s:ByteArray):GN s<256:=by
 unfold GN
 cases h:TI.find? (λp=>s.data.toList==p.1)with
 |none=>decide
 |some p=>
  have hm:=List.mem_of_find?_eq_some h;have:∀p∈TI,p.2<256:=by decide
  exact this p hm
theorem CW(k:Int)(s:ByteArray):XJ k s<256:=by
 unfold XJ;split
 ·decide
 ·split
  ·exact zl4 _
  ·split
   ·decide
   ·split
    ·exact zl5 s
    ·decide
def zl6(k:Int):Nat:=[80,76,65,73,83,88,87,82,66,85,70,72,79,67,84,78,69,77].getD (k-1).toNat 63
def iG(sg:Nat->Nat)(a:Nat):Nat->List Nat
 |0=> []
 |d+1=>sg a::iG sg (a+1) d
def rowP(sg:Nat->Nat)(nv:Nat->Nd):List Nat->Nat->Nat->List Nat
 | [],a,e=>iG sg a (e-a)
 |k::ks,a,e=>iG sg a ((nv k).f.toNat-a)++zl6 (nv k).k::rowP sg nv ks (nv k).t.toNat e
theorem qc{k:IntKind}{a b:Int}(h:a=b):Ending.returned (.int k a)=.returned (.int k b):=by rw[h]
theorem uV{a b:Bool}(h:a=b):Ending.returned (.bool a)=.returned (.bool b):=by rw[h]
def Oy(e:Ending)(P:Prop):Prop:=∃b,e=.returned (.bool b)/\(b=true↔P)
theorem Oy.yes{P:Prop}(h:P):Oy (.returned (.bool true)) P:=⟨true,rfl,λ_=>h,λ_=>rfl⟩
theorem Oy.no{P:Prop}(h:¬P):Oy (.returned (.bool false)) P:=⟨false,rfl,λg=>(by cases g),λg=>absurd g h⟩
theorem zbM{n:Nat}{w w':World}(h:Below n w w')(k:Nat):Below n w (w'.drewN k):=⟨h.os,h.tape,h.output,h.size,h.block⟩
theorem VD{w:World}{base:Nat}{e:TypeId}{size n:Nat}{v:Value}{xs:List Value}(h:w.ownsRow base e size v n xs)(hn:0<n):∃g cap,v=.slice (some ⟨g,0,none⟩) n cap/\base<=g/\n<=cap/\cap<=maxLen/\g<w.heap.size:=by
 rcases h.2 with⟨_,h1⟩|⟨g,cap,cur,hv,h2,h3,h4,h5,_⟩
 ·omega
 ·exact⟨g,cap,hv,h2,h4,h5,(Array.getElem?_eq_some_iff.1 h3).1⟩
theorem Df{w:World}{b c:Nat}{e:TypeId}{size n:Nat}{v:Value}{xs:List Value}(h:w.ownsRow b e size v n xs)(hc:∀k,v.ownBlock=some k->c<=k):w.ownsRow c e size v n xs:=by
 refine⟨h.1,?_⟩;rcases h.2 with h0|⟨g,cap,cur,hv,hb,h5⟩
 ·exact .inl h0
 ·exact .inr ⟨g,cap,cur,hv,hc g (by rw[hv];rfl),h5⟩
theorem zbT{w:World}{base:Nat}{e:TypeId}{n m g cap:Nat}{xs ys:List Value}(h:w.ownsRow base e 1 (.slice (some ⟨g,0,none⟩) n cap) n xs)(hm:m<=n)(hy:ys=xs.take m):
  w.ownsRow base e 1 (.slice (some ⟨g,0,none⟩) m cap) m ys:=by
 subst hy;have h1:=h.1;refine⟨by rw[List.length_take];omega,.inr ?_⟩;rcases h.2 with⟨h0,_⟩|⟨g',cap',cur,hv,h2,h3,h4,h5,h6,h7⟩
 ·cases h0
 ·cases hv
  refine⟨g,cap,cur,rfl,h2,h3,by omega,h5,h6,?_⟩;rw[←h7,List.take_take];congr 1;omega
theorem nY{w:World}{base:Nat}{e:TypeId}{size n g cap:Nat}{xs:List Value}(h:w.ownsRow base e size (.slice (some ⟨g,0,none⟩) n cap) n xs)(o:Nat):w.frozen? ⟨g,o,none⟩=false:=by
 rcases h.2 with⟨h0,_⟩|⟨g',cap',cur,hv,h2,h3,_⟩
 ·cases h0
 ·cases hv
  exact zf.frozen (t:=e) h3 o
theorem ziX:(Tryz.prog.info? 3).map (λi=>(i.zero,i.size,i.bytes))=some (some (.int .i64 0),1,8):=by kernel_rfl
theorem zhP:(Tryz.prog.info? 32).map (λi=>(i.zero,i.size,i.bytes))=some (some (.agg #[.int .i64 0,.int .i64 0,.int .i64 0,.int .i64 0]),4,32):=by kernel_rfl
def Za(l:List Nat):List Value:=l.map λx:Nat=> .int .i64 (x:Int)
theorem ziZ(l k:List Nat):Za (l++k)=Za l++Za k:=by unfold Za;rw[List.map_append]
def qV(p:Nd):List Value:=[.int .i64 p.k,.int .i64 p.f,.int .i64 p.t,.int .i64 p.u]
def vS(l:List Nd):List Value:=l.flatMap qV
theorem Oz(a:Nd)(l:List Nd):vS (a::l)=.int .i64 a.k::.int .i64 a.f::.int .i64 a.t::.int .i64 a.u::vS l:=by
 unfold vS;rw[List.flatMap_cons];rfl
theorem CQ(l:List Nd):(vS l).length=l.length*4:=by
 induction l with
 |nil=>rfl
 |cons a l ih=>rw[Oz];simp only[List.length_cons,ih];omega
theorem U6(l k:List Nd):vS (l++k)=vS l++vS k:=by unfold vS;rw[List.flatMap_append]
theorem nX:∀{l:List Nd} {j:Nat} {p:Nd},l[j]?=some p->∀c v,(qV p)[c]?=some v->(vS l)[j*4+c]?=some v
 | [],j,p,h,c,v,hv=>by simp at h
 |a::l,0,p,h,c,v,hv=>by
  simp at h;subst h;have hc:c<(qV a).length:=(List.getElem?_eq_some_iff.1 hv).1;show(vS (a::l))[0*4+c]?=_;rw[Nat.zero_mul,Nat.zero_add];unfold vS;rw[List.flatMap_cons,List.getElem?_append_left hc];exact hv
 |a::l,j+1,p,h,c,v,hv=>by
  have h':l[j]?=some p:=by simpa using h
  have ih:=nX h' c v hv;rw[Oz,show(j+1)*4+c=j*4+c+1+1+1+1 by omega];simpa using ih
theorem CP:∀{l:List Nd} {j c:Nat} {p q:Nd} {v:Value},l[j]?=some p->qV q=(qV p).set c v->c<4->vS (l.set j q)=(vS l).set (j*4+c) v
 | [],j,c,p,q,v,h,_,_=>by simp at h
 |a::l,0,c,p,q,v,h,hs,hc=>by
  simp at h;subst h;rw[List.set_cons_zero,Nat.zero_mul,Nat.zero_add];unfold vS;rw[List.flatMap_cons,List.flatMap_cons,hs,List.set_append_left _ _ (by simpa[qV]using hc)]
 |a::l,j+1,c,p,q,v,h,hs,hc=>by
  have h':l[j]?=some p:=by simpa using h
  have ih:=CP h' hs hc;rw[List.set_cons_succ,Oz,Oz,ih,show(j+1)*4+c=j*4+c+1+1+1+1 by omega];rfl
def kz(w:World)(ao:Option Addr)(len:Nat)(nv:Nat->Nd):Prop:=
 ∀i,i<len->∃b off,ao=some ⟨b,off,none⟩/\b<w.heap.size/\w.cell? ⟨b,off+i*4,none⟩=some (.int .i64 (nv i).k)/\w.cell? ⟨b,off+i*4+1,none⟩=some (.int .i64 (nv i).f)/\w.cell? ⟨b,off+i*4+2,none⟩=some (.int .i64 (nv i).t)/\w.cell? ⟨b,off+i*4+3,none⟩=some (.int .i64 (nv i).u)
theorem kz.kept{w w':World}{ao:Option Addr}{len:Nat}{nv:Nat->Nd}(h:kz w ao len nv)(hs:w.heap.size<=w'.heap.size)(hc:∀b off,ao=some ⟨b,off,none⟩->b<w.heap.size->w'.heap[b]?=w.heap[b]?):kz w' ao len nv:=λi hi=>by
 obtain⟨b,off,h1,h2,c0,c1,c2,c3⟩:=h i hi;have hcc:∀o,w'.cell? ⟨b,o,none⟩=w.cell? ⟨b,o,none⟩:=λo=>World.cell?_of_block (hc b off h1 h2);exact⟨b,off,h1,Nat.lt_of_lt_of_le h2 hs,(hcc _).trans c0,(hcc _).trans c1,(hcc _).trans c2,(hcc _).trans c3⟩
theorem kz.below{w w':World}{ao:Option Addr}{len:Nat}{nv:Nat->Nd}(h:kz w ao len nv)(hb:Below w.heap.size w w'):kz w' ao len nv:=h.kept hb.size (λb off _ h2=>hb.block b h2)
theorem kz.zh{w w':World}{p:Nat->Prop}{ao:Option Addr}{len:Nat}{nv:Nat->Nd}(h:kz w ao len nv)(hb:zg p w w')(hp:∀b off,ao=some ⟨b,off,none⟩->¬p b):kz w' ao len nv:=h.kept hb.size (λb off h1 h2=>hb.block b h2 (hp b off h1))
theorem kz.congr{w:World}{ao:Option Addr}{len:Nat}{nv mv:Nat->Nd}(h:kz w ao len nv)(he:∀i,i<len->nv i=mv i):kz w ao len mv:=λi hi=>by rw[←he i hi];exact h i hi
def nl(L:List Nd)(i:Nat):Nd:=L[i]?.getD ⟨0,0,0,0⟩
theorem zoa{L:List Nd}{i:Nat}{x:Nd}(h:L[i]?=some x):nl L i=x:=by unfold nl;rw[h];rfl
theorem nV{w:World}{base:Nat}{e:TypeId}{size n:Nat}{v:Value}{xs:List Value}(h:w.ownsRow base e size v n xs):∃a c,v=.slice a n c:=KX h
theorem zaQ{w:World}{base n:Nat}{oa:Option Addr}{oc:Nat}{L:List Nd}(h:w.ownsRow base 32 4 (.slice oa n oc) n (vS L)):n=L.length/\kz w oa n (nl L):=by
 have hn:n=L.length:=by have:=h.1;rw[CQ]at this;omega
 refine⟨hn,λi hi=>?_⟩;obtain⟨ob,vO,hov,_,_,_,hlt⟩:=VD h (by omega);obtain⟨rfl,rfl⟩:oa=some ⟨ob,0,none⟩/\oc=vO:=by simpa using hov
 obtain⟨x,hx⟩:∃x,L[i]?=some x:=⟨L[i]'(by omega),List.getElem?_eq_getElem (by omega)⟩;have hc:∀c v,(qV x)[c]?=some v->w.cell? ⟨ob,i*4+c,none⟩=some v:=λc v hv=>by
  have:=h.cells (g:=ob) rfl (i*4+c) v (nX hx c v hv)
  rwa [Addr.add_lit,Nat.zero_add]at this
 rw[zoa hx];refine⟨ob,0,rfl,hlt,?_,?_,?_,?_⟩
 ·simpa using hc 0 _ rfl
 ·simpa using hc 1 _ rfl
 ·simpa using hc 2 _ rfl
 ·simpa using hc 3 _ rfl
structure IP(w:World)(oa:Option Addr)(n:Nat)(L:List Nat):Prop where
 len:n=L.length
 cells:∀(i x:Nat),L[i]?=some x->∃ob,oa=some ⟨ob,0,none⟩/\ob<w.heap.size/\w.cell? ⟨ob,i,none⟩=some (.int .i64 (x:Int))
theorem IP.below{w w':World}{oa:Option Addr}{n:Nat}{L:List Nat}(h:IP w oa n L)(hb:Below w.heap.size w w'):IP w' oa n L:=
 ⟨h.len,λi p hp=>by
  obtain⟨ob,h1,h2,h3⟩:=h.cells i p hp;exact⟨ob,h1,Nat.lt_of_lt_of_le h2 hb.size,(hb.cell (p:=⟨ob,i,none⟩) h2).trans h3⟩⟩
open Go.Proofs.Tryz
set_option maxRecDepth 100000
theorem Bj(s:ByteArray)(c:Int)(w:World):
  Calls prog 107 #[.string s,.int .u8 c] w λe w'=>e=.returned (.int .i64 (Lib.indexByte s.data.toList c.toNat.toUInt8))/\w'=w:=by
 go_enter func107,ntmps107;go_wp2;rw[run_callFunc_extern func129 (by kernel_rfl) (by kernel_rfl) (by kernel_rfl) (e:=Extern.BytealgIndexByte.indexByte) (by kernel_rfl),Lib.run_indexByteString];simp only[Result.andThen];rw[Oper.upon_value];go_wp2;go_ret;exact⟨rfl,rfl⟩
theorem pz(s:ByteArray)(c:Int)(w:World):
  Calls prog 78 #[.string s,.int .u8 c] w λe w'=>e=.returned (.int .i64 (Lib.indexByte s.data.toList c.toNat.toUInt8))/\w'=w:=by
 go_enter func78,ntmps78
 go_wp2_with (go_at_call 107;refine(Bj _ _ _).mono ?_;rintro e w' ⟨rfl,rfl⟩)
 go_ret;exact⟨rfl,rfl⟩
end Go.Proofs.YtkolpaonccmgiaaGreatDoor.Q

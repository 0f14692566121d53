/- What the library's Grow and Concat at delimiters r -/
import Derived.Test.YtdjcidackkogjaaGreatDoorRm
import Derived.Lib.AppendZerosOnto
import Derived.Laws.CopyOwn
import Derived.Test.YtdjcidackkogjaaGreatDoorRn
namespace Go.Proofs.YtdjcidackkogjaaGreatDoor
set_option linter.unusedSectionVars false
set_option linter.unusedVariables false
open Lib(hid)
set_option maxHeartbeats 8000000
set_option maxRecDepth 100000
open Go.RowKit
section
variable(w:World)
theorem zii{o:Oper}{a:Act}{w:World}{K:Act→World→Prop}{Q:Exit→Act→World→Prop}(s x:Operand)(t e:TypeId)(v0 v1 r:Value)(w1:World)
 (ho:o.op=.call {callee:=.builtin .append,args:=#[s,x],argTypes:=#[t,e]})(hs:a.eval s=v0)(hx:a.eval x=v1)
 (hr:(Builtin.append_ #[t,e] o.type #[v0,v1]).run Tryz.prog w=.ok r w1)(h:K (a.put o.dst r) w1):o.wp Tryz.prog a w K Q:=by
 unfold Oper.wp execOp;simp only[ho,resolve,invoke,builtin,Sem.run_bind,Sem.run_pure,Result.andThen_ok,List.map_toArray,List.map_cons,List.map_nil,hs,hx,hr];exact h
theorem zij{ops:Array Oper}{rest:List Oper}{o:Oper}{a:Act}{w:World}{Q:Exit→Act→World→Prop}(hgd:o.guard=none)(s x:Operand)(t e:TypeId)(v0 v1 r:Value)(w1:World)
 (ho:o.op=.call {callee:=.builtin .append,args:=#[s,x],argTypes:=#[t,e]})(hs:a.eval s=v0)(hx:a.eval x=v1)
 (hr:(Builtin.append_ #[t,e] o.type #[v0,v1]).run Tryz.prog w=.ok r w1)(h:wpList Tryz.prog ops Q rest (a.put o.dst r) w1):wpList Tryz.prog ops Q (o::rest) a w:=
 wpList_plain hgd λ_ hK=>zii s x t e v0 v1 r w1 ho hs hx hr (hK _ _ h)
theorem zik(z:Array Value)(n:Nat):(Builtin.zeroCells z n).size=n*z.size:=by simp[Builtin.zeroCells]
theorem zil(n:Nat)(h0:0<n)(hl:n≤100000):
  Calls Tryz.prog 69 #[.slice none 0 0,.int .i64 (n:Int)] w λe w'=>(∃oa oc,e=.returned (.slice oa 0 oc)∧w'.ownsRow w.heap.size 87 2 (.slice oa 0 oc) 0 [])∧Below w.heap.size w w':=by
 obtain⟨i0,hi,hz0,hz1,hz2⟩:=info_parts Jp;have h:=λty=>Lib.run_append_grow_zeros w 48 3 ty 87 i0 _ .i64 .i64 Tryz.underlying48 Tryz.underlying3 hi hz0 none 0 0 [] (run_firstCells_none w.drew i0.size 0 0 0) n h0 (by omega) (by omega) (by omega) (by rw[hz2];omega) (growslice_fits (by omega) (by rw[hz2];omega));have hg1:n≤grownCap w (0+n) 0 87:=by have:=grownCap_ge w (0+n) 0 87;omega
 have hg2:grownCap w (0+n) 0 87≤maxLen:=grownCap_le_maxLen w _ _ _ (by unfold maxLen;omega);rw[Nat.zero_add]at h hg1 hg2;obtain⟨G,hG⟩:∃G,grownCap w n 0 87=G:=⟨_,rfl⟩;rw[hG]at h hg1 hg2;obtain⟨CS,hCS⟩:∃CS,([]:List Value).toArray++Builtin.zeroCells (Value.agg #[.string ⟨#[]⟩,.bool false]).cells n++Builtin.zeroCells (Value.agg #[.string ⟨#[]⟩,.bool false]).cells (G-n)=CS:=⟨_,rfl⟩;have hsz:CS.size=G*2:=by
  rw[←hCS];simp only[Array.size_append,zik];show 0+n*2+(G-n)*2=G*2;omega
 have h':∀ty,(Builtin.append_ #[48,3] ty #[.slice none 0 0,.int .i64 (n:Int)]).run Tryz.prog w=.ok (.slice (some ⟨w.heap.size,0,none⟩) n G) (w.drew.alloc (.cells CS 87)):=λty=>by rw[h ty,hCS]
 have hGm:(G:Int)≤9223372036854775807:=by unfold maxLen at hg2;omega
 have hnG:¬(G:Int)<0:=by omega
 have KH:=hid hsz;have HG2:=hid hg2;clear h hCS hz0 hz1 hz2 hi hG hsz hg2;go_enter Tryz.func69,Tryz.ntmps69;have H':=hid h';clear h'
 go_wp2_with (at_builtin;refine zij (by rfl) _ _ 48 3 _ _ _ _ (by rfl) (by rfl) (by rfl) (H'.out _) ?_)
 go_ret;exact⟨⟨_,_,rfl,⟨rfl,.inr ⟨w.heap.size,G,CS,rfl,Nat.le_refl _,zh.new w.drew _ _,Nat.zero_le _,HG2.out,KH.out,rfl⟩⟩⟩,((Below.refl _ _).drew).alloc (Nat.le_refl _) _⟩
theorem zim:Calls Tryz.prog 69 #[.slice none 0 0,.int .i64 ((0:Nat):Int)] w λe w'=>(∃oa oc,e=.returned (.slice oa 0 oc)∧w'.ownsRow w.heap.size 87 2 (.slice oa 0 oc) 0 [])∧Below w.heap.size w w':=by
 go_enter Tryz.func69,Tryz.ntmps69;go_wp2;go_ret;exact⟨⟨_,_,rfl,World.ownsRow_nil _ _ _ _⟩,Below.refl _ _⟩
theorem zin(n:Nat)(hl:n≤100000):Calls Tryz.prog 69 #[.slice none 0 0,.int .i64 (n:Int)] w λe w'=>(∃oa oc,e=.returned (.slice oa 0 oc)∧w'.ownsRow w.heap.size 87 2 (.slice oa 0 oc) 0 [])∧Below w.heap.size w w':=by
 rcases Nat.eq_zero_or_pos n with rfl|h
 ·exact zim w
 ·exact zil w n h hl
def zio(n m:Nat)(w:World)(v3 v11:Value)(wr:World):Prop:=
 wr=w∧((v11=.int .i64 0∧v3=.int .i64 0)∨(v11=.int .i64 1∧v3=.int .i64 (n:Int))∨(v11=.int .i64 2∧v3=.int .i64 ((n:Int)+(m:Int))))
def ziq(base n m:Nat)(LA LB:List Dl)(w:World)(v6 v27:Value)(wr:World):Prop:=
 Below base w wr∧∃oa oc,(v27=.int .i64 0∧v6=.slice oa 0 oc∧wr.ownsRow base 87 2 (.slice oa 0 oc) 0 [])∨(v27=.int .i64 1∧v6=.slice oa n oc∧wr.ownsRow base 87 2 (.slice oa n oc) n (zx LA))∨(v27=.int .i64 2∧v6=.slice oa (n+m) oc∧wr.ownsRow base 87 2 (.slice oa (n+m) oc) (n+m) (zx LA++zx LB))
theorem zhK(g n m ac bc:Nat)(ao bo:Option Addr)(LA LB:List Dl)(hg0:w.cell? ⟨g,0,none⟩=some (.slice ao n ac))(hg1:w.cell? ⟨g,1,none⟩=some (.slice bo m bc))(hgl:g<w.heap.size)(hA:Src w (.slice ao n ac) n (zx LA))(hB:Src w (.slice bo m bc) m (zx LB))(hn:n=LA.length)(hm:m=LB.length)(hl:n+m≤100000):
  Calls Tryz.prog 49 #[.slice (some ⟨g,0,none⟩) 2 2] w λe w'=>(∃oa oc,e=.returned (.slice oa (n+m) oc)∧w'.ownsRow w.heap.size 87 2 (.slice oa (n+m) oc) (n+m) (zx (LA++LB)))∧Below w.heap.size w w':=by
 have HA:=hid hA;have HB:=hid hB;have HN:=hid (And.intro hn hm);have HG:=hid (And.intro hg0 hg1);clear hA hB hn hm;go_enter Tryz.func49,Tryz.ntmps49;go_wp2
 go_loopw [3,11] (λv3 v11 wr=>zio n m w v3 v11 wr) (λ_ v _=>2-(intOf v).toNat)
 case atStart=>exact⟨rfl,.inl ⟨rfl,rfl⟩⟩
 case round=>
  obtain⟨hwr,hd⟩:=hrel;obtain rfl:w=wr:=hwr.symm;clear hwr;rcases hd with⟨rfl,rfl⟩|⟨rfl,rfl⟩|⟨rfl,rfl⟩
  ·go_wp2
   go_roundw
   case rel=>exact⟨by first|rfl|trivial,.inr (.inl ⟨rfl,rfl⟩)⟩
   case measure=>simp[intOf]
  ·go_wp2
   go_roundw
   case rel=>exact⟨by first|rfl|trivial,.inr (.inr ⟨rfl,rfl⟩)⟩
   case measure=>simp[intOf]
  ·have HW:=hid (zin w (n+m) hl)
   have HW2:Hid (Calls Tryz.prog 69 #[.slice none 0 0,.int .i64 ((n:Int)+(m:Int))] w λe w'=>(∃oa oc,e=.returned (.slice oa 0 oc)∧w'.ownsRow w.heap.size 87 2 (.slice oa 0 oc) 0 [])∧Below w.heap.size w w'):=hid (by have:=HW.out;rwa [Int.natCast_add]at this)
   go_wp2_with fail
   refine HW2.out.mono ?_;rintro e w1 ⟨⟨oa,oc,rfl,hO⟩,hb⟩;have HO:=hid hO;have HB1:=hid hb;clear hO hb hg0 hg1;go_wp2
   go_loopw [6,27] (λv6 v27 wx=>ziq w.heap.size n m LA LB w v6 v27 wx) (λ_ v _=>2-(intOf v).toNat)
   case atStart=>exact⟨HB1.out,oa,oc,.inl ⟨rfl,rfl,HO.out⟩⟩
   case round=>
    obtain⟨hb,oa,oc,(⟨rfl,rfl,hO⟩|⟨rfl,rfl,hO⟩|⟨rfl,rfl,hO⟩)⟩:=hrel
    ·have c0:=(hb.cell (p:=⟨g,0,none⟩) hgl).trans HG.out.1
     have KJ:=hid hO;have yt:=hid hb;clear hO hb
     go_wp2_with (at_builtin;refine jh (by rfl) _ _ 48 87 2 24 _ (by rfl) Tryz.underlying48 Jp rfl (by omega) (by omega) w.heap.size _ 0 [] (by rfl) KJ.out _ n (zx LA) (by rfl) (HA.out.below yt.out) (by rw[MZ,←HN.out.1]) (Qk LA) (by omega) yt.out.size n (by omega) ?_;intro xq DZ w3 hown hgr hg)
     go_roundw
     case rel=>
      rw[List.nil_append]at hown;exact⟨yt.out.grown hgr yt.out.size (yH KJ.out),xq,DZ,.inr (.inl ⟨rfl,rfl,hown⟩)⟩
     case measure=>simp[intOf]
    ·have c0:=(hb.cell (p:=⟨g,1,none⟩) hgl).trans HG.out.2
     have KJ:=hid hO;have yt:=hid hb;clear hO hb
     go_wp2_with (at_builtin;refine jh (by rfl) _ _ 48 87 2 24 _ (by rfl) Tryz.underlying48 Jp rfl (by omega) (by omega) w.heap.size _ n (zx LA) (by rfl) KJ.out _ m (zx LB) (by rfl) (HB.out.below yt.out) (by rw[MZ,←HN.out.2]) (Qk LB) (by omega) yt.out.size (n+m) (by omega) ?_;intro xq DZ w3 hown hgr hg)
     go_roundw
     case rel=>exact⟨yt.out.grown hgr yt.out.size (yH KJ.out),xq,DZ,.inr (.inr ⟨rfl,rfl,hown⟩)⟩
     case measure=>simp[intOf]
    ·have KJ:=hid hO
     have yt:=hid hb;clear hO hb;go_wp2;go_ret;exact⟨⟨oa,oc,rfl,by rw[Rj];exact KJ.out⟩,yt.out⟩
end
open Go Go.RowKit
theorem zhB{P:Program}(w:World)(dT sT ty elem:TypeId)(g o dLen dCap:Nat)(a:Addr)(sLen sCap k:Nat)(cur:Array Value)(t:TypeId)(cs:List Value)(hu:P.underlying dT=some (.slice elem))(hs:(P.info? elem).map (·.size)=some k)
 (hg:w.heap[g]?=some (.cells cur t (0,0)))(hn:cs.length=Nat.min sLen dLen*k)(hsrc:∀j v,cs[j]?=some v→w.cell? (a.add j)=some v)(hfit:o+cs.length≤cur.size)(h1:∀v∈cs,v.oneCell'=true):
  (Builtin.copy_ #[dT,sT] ty #[.slice (some ⟨g,o,none⟩) dLen dCap,.slice (some a) sLen sCap]).run P w=.ok (goInt (Nat.min sLen dLen)) (w.setRow g (cur.toList.take o++cs++cur.toList.drop (o+cs.length)).toArray):=by
 have hl:=run_loadCells_list (P:=P) w a cs hsrc;have hst:=run_storeCells_at P g o t cs 0 cur w hg (by simpa using hfit) h1
 cases hq:P.info? elem with
 |none=>simp[hq]at hs
 |some i=>
  have hi:i.size=k:=by simpa[hq]using hs
  simp[Builtin.copy_,run_underlying hu,Builtin.lenOf,Builtin.firstCells,sizeOf,typeInfo,hq,hi,←hn,hl,hst]
theorem zhC{P:Program}(w:World)(dT sT ty elem:TypeId)(dp sp:Option Addr)(dLen dCap sLen sCap k:Nat)(hu:P.underlying dT=some (.slice elem))(hs:(P.info? elem).map (·.size)=some k)(hn:Nat.min sLen dLen=0):
  (Builtin.copy_ #[dT,sT] ty #[.slice dp dLen dCap,.slice sp sLen sCap]).run P w=.ok (goInt 0) w:=by
 cases hq:P.info? elem with
 |none=>simp[hq]at hs
 |some i=>
  have h0:∀a:Addr,(loadCells a 0).run P w=.ok #[] w:=λa=>run_loadCells_list (P:=P) w a [] (λj v hj=>by simp at hj);cases dp<;>cases sp<;>simp[Builtin.copy_,run_underlying hu,Builtin.lenOf,Builtin.firstCells,sizeOf,typeInfo,hq,hn,h0,storeCells]
theorem oI{P:Program}(w:World)(dT sT ty elem:TypeId)(hu:P.underlying dT=some (.slice elem))(k:Nat)(hs:(P.info? elem).map (·.size)=some k)(dp sp:Option Addr)(dLen dCap sLen sCap:Nat)(g off:Nat)(cur:List Value)(t:TypeId)
 (hg:w.heap[g]?=some (.cells cur.toArray t (0,0)))(n:Nat)(hnn:Nat.min sLen dLen=n)(cs:List Value)(hn:cs.length=n*k)(hpos:0<n→dp=some ⟨g,off,none⟩∧∃ad,sp=some ad∧∀j v,cs[j]?=some v→w.cell? (ad.add j)=some v)
 (hfit:off+cs.length≤cur.length)(h1:∀v∈cs,v.oneCell'=true)(B:Nat)(w0:World)(hb:Below B w0 w)(hBg:B≤g):
  ∃w',(Builtin.copy_ #[dT,sT] ty #[.slice dp dLen dCap,.slice sp sLen sCap]).run P w=.ok (goInt n) w'∧Hid (w'.heap[g]?=some (.cells (splice cur off cs).toArray t (0,0)))∧Below B w0 w':=by
 by_cases h0:n=0
 ·subst h0
  obtain rfl:cs=[]:=List.eq_nil_of_length_eq_zero (by omega);exact⟨w,zhC w dT sT ty elem dp sp dLen dCap sLen sCap k hu hs hnn,Lib.hid (by simpa[splice]using hg),hb⟩
 ·obtain⟨rfl,ad,rfl,hsrc⟩:=hpos (by omega)
  have h:=zhB (P:=P) w dT sT ty elem g off dLen dCap ad sLen sCap k cur.toArray t cs hu hs hg (by rw[hnn];exact hn) hsrc (by simpa using hfit) h1;rw[hnn]at h;exact⟨_,h,Lib.hid (by simpa[splice]using setRow_heap w g _ _ t _ hg),below_setRow hb hBg _⟩
theorem MW{F:Fence}{fn:Nat}{P:Program}{ops:Array Oper}{o:Oper}{a:Act}{w:World}{K:Act→World→Prop}{Q:Exit→Act→World→Prop}{E:Prop}(hgd:o.guard=none)(d s:Operand)(dT sT:TypeId)
 (ho:o.op=.call {callee:=.builtin .copy,args:=#[d,s],argTypes:=#[dT,sT]})(elem:TypeId)(hu:P.underlying dT=some (.slice elem))(k:Nat)(hsz:(P.info? elem).map (·.size)=some k)
 (dp sp:Option Addr)(dLen dCap sLen sCap:Nat)(hd:a.eval d=.slice dp dLen dCap)(hs:a.eval s=.slice sp sLen sCap)(g off:Nat)(cur:List Value)(t:TypeId)(hg:w.heap[g]?=some (.cells cur.toArray t (0,0)))(n:Nat)(hnn:Nat.min sLen dLen=n)(cs:List Value)
 (hn:cs.length=n*k)(hpos:0<n→dp=some ⟨g,off,none⟩∧∃ad,sp=some ad∧∀j v,cs[j]?=some v→w.cell? (ad.add j)=some v)(hfit:off+cs.length≤cur.length)(h1:∀v∈cs,v.oneCell'=true)(B:Nat)(w0:World)(hb:Below B w0 w)(hBg:B≤g)
 (h:∀w',Hid (w'.heap[g]?=some (.cells (splice cur off cs).toArray t (0,0)))→Below B w0 w'→K (a.put o.dst (goInt n)) w'):if Region.wanted o (yielded ops a.tmps)=true then Oper.wpIn F fn P o a w K Q else E:=by
 rw[if_pos (show Region.wanted o (yielded ops a.tmps)=true by unfold Region.wanted;rw[hgd])];obtain⟨w',hrun,h2,h3⟩:=oI (P:=P) w dT sT o.type elem hu k hsz dp sp dLen dCap sLen sCap g off cur t hg n hnn cs hn hpos hfit h1 B w0 hb hBg;unfold Oper.wpIn;refine⟨?_,?_⟩
 ·simp[Oper.about,ho,resolve,Target.leads,Sem.run_pure]
 ·rw[Oper.semAt_plain F _ _ (by rw[ho];intro c hc';cases hc')]
  simp[execOp,ho,resolve,invoke,builtin,hd,hs,hrun,Result.andThen];exact h w' h2 h3
theorem Aa:∀(l:List (Tk×Mk)) (k:Nat),zF (l.drop k)=(zF l).drop (k*8)
 | [],k=>by simp[zF]
 |x::l,0=>by simp
 |x::l,k+1=>by
  have e:zF (x::l)=jJ x++zF l:=by unfold zF;rw[List.flatMap_cons]
  rw[List.drop_succ_cons,Aa l k,e,List.drop_append,show(k+1)*8-(jJ x).length=k*8 from by show(k+1)*8-8=_;omega,List.drop_eq_nil_of_le (show(jJ x).length≤(k+1)*8 from by show 8≤_;omega),List.nil_append]
theorem aW:∀(l:List (Tk×Mk)) (k:Nat),zF (l.take k)=(zF l).take (k*8)
 | [],k=>by simp[zF]
 |x::l,0=>by simp[zF]
 |x::l,k+1=>by
  have e:∀l,zF (x::l)=jJ x++zF l:=λl=>by unfold zF;rw[List.flatMap_cons]
  rw[List.take_succ_cons,e,e,aW l k,List.take_append,show(k+1)*8-(jJ x).length=k*8 from by show(k+1)*8-8=_;omega,List.take_of_length_le (show(jJ x).length≤(k+1)*8 from by show 8≤_;omega)]
theorem ZI.cs{W:World}{oa:Option Addr}{n:Nat}{l:List (Tk×Mk)}(h:ZI W oa n l)(h0:0<n):∃b off,oa=some ⟨b,off,none⟩∧b<W.heap.size∧∀j v,(zF l)[j]?=some v→W.cell? ⟨b,off+j,none⟩=some v:=by
 have hl:=h.len;obtain⟨b,off,rfl,hb,_⟩:=h.cells 0 _ (List.getElem?_eq_getElem (by omega));refine⟨b,off,rfl,hb,λj v hj=>?_⟩;have hjl:=(List.getElem?_eq_some_iff.1 hj).1;rw[jc]at hjl;have hi:j / 8<l.length:=by omega
 have hq:l[j / 8]?=some l[j / 8]:=List.getElem?_eq_getElem hi;generalize l[j / 8]=q at hq;obtain⟨b',off',e,_,hit⟩:=h.cells _ _ hq;injection e with e;injection e with e1 e2;subst e1 e2;have hg:=rY l (j / 8) (j % 8) q hq (Nat.mod_lt _ (by omega));rw[show j / 8*8+j % 8=j by omega,hj]at hg;have hk:j % 8<8:=Nat.mod_lt _ (by omega);have hja:off+j=off+j / 8*8+j % 8:=by omega
 rw[hja];generalize j % 8=k at hg hk
 match k,hk,hg with
 |0,_,hg=>cases hg;exact hit.c0
 |1,_,hg=>cases hg;exact hit.c1
 |2,_,hg=>cases hg;exact hit.c2
 |3,_,hg=>cases hg;exact hit.c3
 |4,_,hg=>cases hg;exact hit.c4
 |5,_,hg=>cases hg;exact hit.c5
 |6,_,hg=>cases hg;exact hit.c6
 |7,_,hg=>cases hg;exact hit.c7
theorem Ia.zhO{arr:Array Value}{l:List (Tk×Mk)}(h:arr.toList=zF l){j:Nat}{q:Tk×Mk}(hj:l[j]?=some q):Ia arr (j*8) q:=by
 have hg:∀k,k<8→arr[j*8+k]?=(jJ q)[k]?:=λk hk=>by
  rw[←Array.getElem?_toList,h];exact rY l j k q hj hk
 exact⟨hg 0 (by omega),hg 1 (by omega),hg 2 (by omega),hg 3 (by omega),hg 4 (by omega),hg 5 (by omega),hg 6 (by omega),hg 7 (by omega)⟩
theorem Ia.zhH{arr:Array Value}{l:List (Tk×Mk)}(hs:arr.size=l.length*8)(h:∀j q,l[j]?=some q→Ia arr (j*8) q):arr.toList=zF l:=by
 refine List.ext_getElem? λj=>?_;rw[Array.getElem?_toList];rcases Nat.lt_or_ge j (l.length*8)with hl|hl
 ·have hi:j / 8<l.length:=by omega
  have hq:l[j / 8]?=some l[j / 8]:=List.getElem?_eq_getElem hi;generalize l[j / 8]=q at hq;have hit:=h _ _ hq;have hg:=rY l (j / 8) (j % 8) q hq (Nat.mod_lt _ (by omega));have hja:j / 8*8+j % 8=j:=by omega
  rw[hja]at hg;have key:∀(o k:Nat),k<8→Ia arr o q→arr[o+k]?=(jJ q)[k]?:=λo k hk h=>match k,hk with
   |0,_=>h.c0
   |1,_=>h.c1
   |2,_=>h.c2
   |3,_=>h.c3
   |4,_=>h.c4
   |5,_=>h.c5
   |6,_=>h.c6
   |7,_=>h.c7
  have hk:=key (j / 8*8) (j % 8) (Nat.mod_lt _ (by omega)) hit;rw[hja]at hk;rw[hk,hg]
 ·rw[Array.getElem?_eq_none (by omega),List.getElem?_eq_none (by rw[jc];omega)]
theorem Src.drop_at{W:World}{od:Option Addr}{nd cd k re:Nat}{xs:List Value}(h:Src W (.slice od nd cd) nd xs)(hx:xs.length=nd*k)(hre:re≤nd)(o2:Option Addr)(c2:Nat)(ho:re<nd→∀b off,od=some ⟨b,off,none⟩→o2=some ⟨b,off+re*k,none⟩)(hc:re=nd→o2=none→c2=0)(hb:∀a,o2=some a→a.spot=none∧a.block<W.heap.size):Src W (.slice o2 (nd-re) c2) (nd-re) (xs.drop (re*k)):=by
 rcases Nat.lt_or_ge re nd with hl|hl
 ·rcases h with⟨h1,h2,_⟩|⟨b,off,c,h1,h2,h3⟩
  ·omega
  ·injection h1 with e1 e2 e3
   rw[ho hl b off e1];refine .inr ⟨b,off+re*k,c2,rfl,h2,λj u hj=>?_⟩;rw[List.getElem?_drop]at hj;have:=h3 _ _ hj
   rwa [←Nat.add_assoc]at this
 ·have e:nd-re=0:=by omega
  have hx0:xs.drop (re*k)=[]:=List.drop_eq_nil_of_le (by rw[hx];exact Nat.mul_le_mul_right _ hl);rw[e,hx0]
  cases o2 with
  |none=>
   have:=hc (by omega) rfl;subst this;exact .inl ⟨rfl,rfl,rfl⟩
  |some a=>
   obtain⟨h1,h2⟩:=hb a rfl;obtain⟨ab,ao,sp⟩:=a;simp only at h1 h2;subst h1;exact .inr ⟨ab,ao,c2,rfl,h2,λj u hj=>by simp at hj⟩
end Go.Proofs.YtdjcidackkogjaaGreatDoor

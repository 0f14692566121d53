/- One step of a reader's mark, plainly. No condition -/
import Derived.Test.YtdjcidackkogjaaGreatDoorRc
import Derived.Deep.RegionLawGrows
namespace Go.Proofs.YtdjcidackkogjaaGreatDoor
set_option linter.unusedSectionVars false
set_option linter.unusedVariables false
open Go.RowKit
theorem WE{m:Mk}{F:List Dl}(h:m.en=F.length):(zi m F).pend=F.drop m.zf:=by
 show(F.take m.en).drop m.zf=_;rw[h,List.take_length]
theorem zjD{T:ByteArray}{a:Nat}{m:Mk}{F:List Dl}(he:m.en=F.length)(hm:m.zf≤m.en)(hb:(zi m F).body=true→(zi m F).pend≠ [])(h:uB T a (zi m F)=1){d:Dl}(hd:(zy T a (zi m F)).pend=(zi m F).pend++ [d]):
  Stp T (F++ [d]) a m ⟨(zy T a (zi m F)).await,(zy T a (zi m F)).body,m.zf,m.en+1⟩:=by
 have hX:zi m (F++ [d])=zi m F:=VA (by rw[he,List.take_append_of_le_length (Nat.le_refl _)]);have hc:=(dI (s:=T) (a:=a) hb).2.1;have hp0:jq T a (zi m F)=0:=by omega
 refine⟨Nat.le_succ_of_le hm,?_,?_,?_,?_⟩
 ·rw[List.length_append,←he];exact Nat.le_refl _
 ·rw[hX,hp0];rfl
 ·rw[hX,h]
 ·rw[hX]
  have e:(zi (⟨(zy T a (zi m F)).await,(zy T a (zi m F)).body,m.zf,m.en+1⟩:Mk) (F++ [d])).pend=(zy T a (zi m F)).pend:=by
   rw[WE (by rw[List.length_append,←he];rfl),hd,WE he];show(F++ [d]).drop m.zf=_;rw[List.drop_append_of_le_length (by omega)]
  show(⟨_,(zi (⟨(zy T a (zi m F)).await,(zy T a (zi m F)).body,m.zf,m.en+1⟩:Mk) (F++ [d])).pend,_⟩:Lx)=_;rw[e]
theorem zjE{T:ByteArray}{a:Nat}{m:Mk}{F:List Dl}(he:m.en=F.length)(hm:m.zf≤m.en)(hb:(zi m F).body=true→(zi m F).pend≠ [])(h:jq T a (zi m F)=1):
  Stp T F a m ⟨(zy T a (zi m F)).await,(zy T a (zi m F)).body,m.zf+1,m.en⟩∧m.zf+1≤m.en:=by
 have hc:=dI (s:=T) (a:=a) hb;have hp0:uB T a (zi m F)=0:=by omega
 obtain⟨h1,h2⟩:=hc.2.2.1 h;have hl:m.zf+1≤m.en:=by
  rw[WE he]at h2;rcases Nat.lt_or_ge m.zf F.length with g|g
  ·omega
  ·exact absurd (List.drop_eq_nil_of_le g) h2
 refine⟨⟨hl,by show m.en≤F.length;omega,by rw[h],by rw[hp0];rfl,?_⟩,hl⟩;have e:(zi (⟨(zy T a (zi m F)).await,(zy T a (zi m F)).body,m.zf+1,m.en⟩:Mk) F).pend=(zy T a (zi m F)).pend:=by
  have e0:=WE (m:=(⟨(zy T a (zi m F)).await,(zy T a (zi m F)).body,m.zf+1,m.en⟩:Mk)) (F:=F) he;rw[e0,h1,WE he];show F.drop (m.zf+1)=_;rw[List.tail_drop]
 show(⟨_,(zi (⟨(zy T a (zi m F)).await,(zy T a (zi m F)).body,m.zf+1,m.en⟩:Mk) F).pend,_⟩:Lx)=_;rw[e]
theorem zjF{T:ByteArray}{a:Nat}{m:Mk}{F:List Dl}(he:m.en=F.length)(hm:m.zf≤m.en)(hb:(zi m F).body=true→(zi m F).pend≠ [])(h0:jq T a (zi m F)=0)(h1:uB T a (zi m F)=0):
  Stp T F a m ⟨(zy T a (zi m F)).await,(zy T a (zi m F)).body,m.zf,m.en⟩:=by
 obtain⟨l,h2,h3⟩:=(dI (s:=T) (a:=a) hb).2.2.2 h0;have hl:l=[]:=List.eq_nil_of_length_eq_zero (by omega);rw[hl,List.append_nil]at h2;refine⟨hm,by show m.en≤F.length;omega,by rw[h0];rfl,by rw[h1];rfl,?_⟩;show(⟨_,(zi m F).pend,_⟩:Lx)=_;rw[←h2]
def two(x:Lx):Lx:=⟨x.await,x.pend.take 2,x.body⟩
theorem zaC(x:Lx):(two x).pend.length=min x.pend.length 2:=by
 show(x.pend.take 2).length=_;rw[List.length_take,Nat.min_comm]
theorem zjG{x:Lx}(hb:x.body=true→x.pend≠ []):(two x).body=true→(two x).pend≠ []:=λh e=>by
 have h1:=hb h;have e':x.pend.take 2=[]:=e
 cases hx:x.pend with
 |nil=>exact h1 hx
 |cons d l=>rw[hx]at e';cases e'
theorem Ak{s:ByteArray}{a:Nat}{x:Lx}(h:x.body=true→x.pend≠ []):(zy s a x).body=true→(zy s a x).pend≠ []:=by
 intro hb e;unfold zy xG at hb e;generalize(zo s a x).kind=k at hb e;generalize(zo s a x).op=o at hb e;generalize s.extract (zo s a x).zf (zo s a x).en=tx at hb e;by_cases k7:k=7
 ·rw[if_pos k7]at hb e
  cases o with
  |true=>exact h hb e
  |false=>
   have e':x.pend.tail=[]:=e;have hb':(!x.pend.tail.isEmpty && x.body)=true:=hb;rw[e']at hb';cases hb'
 rw[if_neg k7]at hb e;by_cases k1:k=1
 ·rw[if_pos k1]at hb e;exact h hb e
 rw[if_neg k1]at hb e;by_cases k2:k=2
 ·rw[if_pos k2]at hb e
  have e':x.pend=[]:=e;have hb':(!x.pend.isEmpty)=true:=hb;rw[e']at hb';cases hb'
 rw[if_neg k2]at hb e;by_cases k4:k=4
 ·rw[if_pos k4]at hb e;exact h hb e
 rw[if_neg k4]at hb e;by_cases k6:k=6∧x.await≠0
 ·rw[if_pos k6]at hb e
  have e':x.pend++ [_]=[]:=e;simp at e'
 ·rw[if_neg k6]at hb e;exact h hb e
open Lib(hid)
set_option maxHeartbeats 16000000
set_option maxRecDepth 100000
structure We(W:World)(base b rb:Nat)(T:ByteArray)(a:Nat)(m:Mk)(F:List Dl)(og:Option Addr)(ng cg:Nat)(df:Int):Prop where
 blk:zh W rb (yT b T a m (.slice og ng cg) df) 97
 del:Src W (.slice og ng cg) ng (zx F)
 ln:ng=F.length
 en:m.en=F.length
 le:m.zf≤m.en
 cap:ng≤cg
 ow:cg=ng∨W.ownsRow base 87 2 (.slice og ng cg) ng (zx F)
 db:∀g,(Value.slice og ng cg).ownBlock=some g→g≠rb
theorem zjH{X:World}{g h b o:Nat}{v u1 u2 v0 v1 v2:Value}(hB:g≠b∧h≠b)(hh:X.cell? ⟨g,1,none⟩=some u1∧X.cell? ⟨g,2,none⟩=some u2∧X.cell? ⟨h,0,none⟩=some v0∧X.cell? ⟨h,1,none⟩=some v1∧X.cell? ⟨h,2,none⟩=some v2):
  (X.setCell ⟨b,o,none⟩ v).cell? ⟨g,1,none⟩=some u1∧(X.setCell ⟨b,o,none⟩ v).cell? ⟨g,2,none⟩=some u2∧(X.setCell ⟨b,o,none⟩ v).cell? ⟨h,0,none⟩=some v0∧(X.setCell ⟨b,o,none⟩ v).cell? ⟨h,1,none⟩=some v1∧(X.setCell ⟨b,o,none⟩ v).cell? ⟨h,2,none⟩=some v2:=by
 have e1:∀j,(X.setCell ⟨b,o,none⟩ v).cell? ⟨h,j,none⟩=X.cell? ⟨h,j,none⟩:=λj=>World.cell?_of_block (Below.heap_setCell X _ _ h hB.2);have e2:∀j,(X.setCell ⟨b,o,none⟩ v).cell? ⟨g,j,none⟩=X.cell? ⟨g,j,none⟩:=λj=>World.cell?_of_block (Below.heap_setCell X _ _ g hB.1);simp only[e1,e2];exact hh
theorem zjI{X:World}{g b o:Nat}{v v3 v4 v5 v6 v7:Value}(hB:g≠b)(hh:X.cell? ⟨g,3,none⟩=some v3∧X.cell? ⟨g,4,none⟩=some v4∧X.cell? ⟨g,5,none⟩=some v5∧X.cell? ⟨g,6,none⟩=some v6∧X.cell? ⟨g,7,none⟩=some v7):
  (X.setCell ⟨b,o,none⟩ v).cell? ⟨g,3,none⟩=some v3∧(X.setCell ⟨b,o,none⟩ v).cell? ⟨g,4,none⟩=some v4∧(X.setCell ⟨b,o,none⟩ v).cell? ⟨g,5,none⟩=some v5∧(X.setCell ⟨b,o,none⟩ v).cell? ⟨g,6,none⟩=some v6∧(X.setCell ⟨b,o,none⟩ v).cell? ⟨g,7,none⟩=some v7:=by
 have e2:∀j,(X.setCell ⟨b,o,none⟩ v).cell? ⟨g,j,none⟩=X.cell? ⟨g,j,none⟩:=λj=>World.cell?_of_block (Below.heap_setCell X _ _ g hB);simp only[e2];exact hh
theorem yR.two{W:World}{o:Option Addr}{k c:Nat}{X:Lx}(h:yR W (.slice o k c) X):yR W (.slice o (min k 2) c) (two X):=by
 have hk:=h.len;have hcap:k≤c:=by
  obtain⟨o',c',e,hc⟩:=h.cap;cases e;omega
 have hs:=h.src;have e2:zx (Go.Proofs.YtdjcidackkogjaaGreatDoor.two X).pend=(zx X.pend).take (min k 2*2):=by
  have:=rQ (D:=X.pend) (a:=0) (b:=min k 2) (by omega);rw[List.drop_zero,Nat.zero_mul,List.drop_zero,Nat.sub_zero]at this;rw[←this];show zx (X.pend.take 2)=_;rw[hk];congr 1;rw[Nat.min_comm];exact List.take_eq_take_min
 have hl:(Go.Proofs.YtdjcidackkogjaaGreatDoor.two X).pend.length=min k 2:=by rw[zaC,hk]
 refine⟨?_,⟨o,c,by rw[hl],by rw[hl];omega⟩⟩;rw[hl,e2];rcases hs with⟨h1,h2,h3⟩|⟨g,off,c',h1,h2,h3⟩
 ·cases h1
  exact .inl ⟨by simp,by simp,by rw[h3];simp⟩
 ·cases h1
  refine .inr ⟨g,off,c,rfl,h2,λj u hj=>h3 j u ?_⟩;rw[List.getElem?_take]at hj;split at hj
  ·exact hj
  ·cases hj
theorem yR.zjJ{W W':World}{pv:Value}{x:Lx}{B:Nat}{cs:Array Value}{t:TypeId}(h:yR W pv x)(hB:zh W B cs t)(hcs:∀(j:Nat) (u:ByteArray) (v:Bool),cs[j]?=some (.string u)→cs[j+1]?≠some (.bool v))(hF:zg (λk=>k=B) W W'):yR W' pv x:=by
 refine⟨?_,h.cap⟩;rcases h.src with q|⟨g,off,c2,h1,h2,h3⟩
 ·exact .inl q
 ·refine .inr ⟨g,off,c2,h1,Nat.lt_of_lt_of_le h2 hF.size,λj u hj=>?_⟩
  by_cases e:g=B
  ·exfalso
   subst e;obtain⟨d,ds,hp⟩:∃d ds,x.pend=d::ds:=by
    cases hx:x.pend with
    |nil=>rw[hx]at hj;cases hj
    |cons d ds=>exact⟨d,ds,rfl⟩
   have hs:=h3 0 (.string d.word) (by rw[hp,qR];rfl);have hs1:=h3 1 (.bool d.tabs) (by rw[hp,qR];rfl);rw[Nat.add_zero,hB.cell off]at hs;rw[hB.cell (off+1)]at hs1;exact hcs _ _ _ hs hs1
  ·exact(hF.cell (a:=⟨g,off+j,none⟩) h2 e).trans (h3 j u hj)
theorem zjK{b at' A f e:Nat}{T:ByteArray}{bd:Bool}{og:Option Addr}{ng cg:Nat}{df:Int}(j:Nat)(u:ByteArray)(v:Bool)(h:(#[.pointer (some ⟨b,0,none⟩),.string T,.int .i64 (at':Int),.int .i64 (A:Int),.bool bd,.int .i64 (f:Int),.int .i64 (e:Int),.slice og ng cg,.int .i64 df]:Array Value)[j]?=some (.string u)):(#[.pointer (some ⟨b,0,none⟩),.string T,.int .i64 (at':Int),.int .i64 (A:Int),.bool bd,.int .i64 (f:Int),.int .i64 (e:Int),.slice og ng cg,.int .i64 df]:Array Value)[j+1]?≠some (.bool v):=by
 match j,h with
 |0,h=>simp at h
 |1,h=>simp
 |2,h=>simp at h
 |3,h=>simp at h
 |4,h=>simp at h
 |5,h=>simp at h
 |6,h=>simp at h
 |7,h=>simp at h
 |8,h=>simp at h
 |k+9,h=>simp at h
theorem BN{W:World}{base b rb zt:Nat}{T:ByteArray}{te:Nat}{n:Mk}{F:List Dl}{og:Option Addr}{ng cg:Nat}{df:Int}(kr:zh W rb (yT b T te n (.slice og ng cg) df) 97)(hsrc:Src W (.slice og ng cg) ng (zx F))(hln:ng=F.length)(hen:n.en=F.length)(hle:n.zf≤n.en)(hcap:ng≤cg)
 (how:cg=ng∨W.ownsRow base 87 2 (.slice og ng cg) ng (zx F))(BO:∀g,(Value.slice og ng cg).ownBlock=some g→g≠rb∧g≠zt)(lq:rb≠zt)(v0 v1 v2 v3:Value):
  We ((((W.setCell ⟨zt,0,none⟩ v0).setCell ⟨zt,1,none⟩ v1).setCell ⟨zt,2,none⟩ v2).setCell ⟨zt,3,none⟩ v3) base b rb T te n F og ng cg df:=by
 have hF:zg (λk=>k=zt) W ((((W.setCell ⟨zt,0,none⟩ v0).setCell ⟨zt,1,none⟩ v1).setCell ⟨zt,2,none⟩ v2).setCell ⟨zt,3,none⟩ v3):=
  zg.setCell (p:=λk=>k=zt) (zg.setCell (p:=λk=>k=zt) (zg.setCell (p:=λk=>k=zt) (zg.setCell (p:=λk=>k=zt) (zg.refl _ W) 0 (.inl rfl) _) 1 (.inl rfl) _) 2 (.inl rfl) _) 3 (.inl rfl) _
 refine⟨kr.zf hF lq,hsrc.zf hF (λg hg e=>(BO g hg).2 e),hln,hen,hle,hcap,?_,λg hg=>(BO g hg).1⟩;rcases how with h|h
 ·exact .inl h
 ·exact .inr (zQ hF h (λg hg e=>(BO g hg).2 e))
section
variable(w:World)(base b rb:Nat)(T:ByteArray)(a:Nat)(m:Mk)(F:List Dl)(og:Option Addr)(ng cg:Nat)(df:Int)(hR:We w base b rb T a m F og ng cg df)(hs:T.size≤900)(ha:a<T.size)(hT:Tx w)(Vp:F.length≤900)(haw:m.await≤1000)(hbd:(zi m F).body=true→(zi m F).pend≠ [])(hbs:rb<base∧base≤w.heap.size)
include hR hs ha hT Vp haw hbd hbs
theorem ziV:Calls Tryz.prog 68 #[.pointer (some ⟨rb,0,none⟩)] w λe w'=>e=.returned (yJ (zo T a (zi m F)))∧∃(n:Mk) (F':List Dl) (jZ:Option Addr) (ZJ YP:Nat),We w' base b rb T (zo T a (zi m F)).en n F' jZ ZJ YP df∧Stp T F' a m n∧F'.take m.en=F∧n.await=(zy T a (zi m F)).await∧n.body=(zy T a (zi m F)).body∧zg (λk=>k=rb∨(base≤k∧(Value.slice og ng cg).ownBlock=some k)) w w'∧(∀g,(Value.slice jZ ZJ YP).ownBlock=some g→(Value.slice og ng cg).ownBlock=some g∨w.heap.size≤g):=by
 have Zc:=Vz (m:=m) (D:=F) (by have:=hR.en;omega);have hk2:=zaC (zi m F);have htw:zo T a (two (zi m F))=zo T a (zi m F):=zay;have hnx:=zjy (s:=T) (a:=a) hbd;have hok:=jB (zi m F) ha;have hnk:=dI (s:=T) (a:=a) (zjG hbd);have Qq:=λW (hW:Below w.heap.size w W)=>zao W m F og ng cg (hR.del.below hW) hR.ln hR.cap hR.le (by have:=hR.en;have:=hR.ln;omega);have hL1:(zi m F).await=m.await:=rfl;have hL2:(zi m F).body=m.body:=rfl;unfold zD at Qq;rw[hL1,hL2]at Qq;have HR:=hid hR;have VJ:=hid hT;obtain⟨X,hX⟩:∃X,zi m F=X:=⟨_,rfl⟩;rw[hX]at Zc hk2 htw hnx hok hnk Qq hL1 hL2 hbd ⊢;have HX:=hid hX;obtain⟨k,hk⟩:∃k,m.en-m.zf=k:=⟨_,rfl⟩;rw[hk]at Zc Qq;have hke:k≤900:=by have:=hR.en;omega
 obtain⟨Mt,hMt⟩:∃M,m=M:=⟨_,rfl⟩;have HMT:=hid hMt;have kr:=hR.blk;obtain⟨A,bd,f,e⟩:=m;unfold yT at kr;unfold jY at Qq;dsimp only at Qq kr hL1 hL2 hk haw;have Jq:=hid (λW hW=>(Qq W hW).mono (λe' w' h=>(by
  obtain⟨y8,c1,h1,h2,h3⟩:=h;exact⟨_,h1,y8,c1,rfl,h2,h3⟩:∃v,e'=.returned v∧(∃y8 c1,v=.agg #[.int .i64 (A:Int),.slice y8 k c1,.bool bd]∧yR w' (.slice y8 k c1) X∧Below W.heap.size W w'))))
 obtain⟨W0,hW0⟩:∃Z,w.alloc (.cells #[.int .i64 0,.int .i64 0,.int .i64 0,.bool false] 44)=Z:=⟨_,rfl⟩;have hB0:Below w.heap.size w W0:=by rw[←hW0];exact(Below.refl _ _).alloc (Nat.le_refl _) _
 have kz:zh W0 w.heap.size #[.int .i64 0,.int .i64 0,.int .i64 0,.bool false] 44:=by rw[←hW0];exact zh.new w _ _
 have Zi:=kr.below hB0;have hkp:∀W,Below W0.heap.size W0 W→W.cell? ⟨rb,3,none⟩=some (.int .i64 (A:Int))∧W.cell? ⟨rb,4,none⟩=some (.bool bd)∧W.cell? ⟨rb,5,none⟩=some (.int .i64 (f:Int))∧W.cell? ⟨rb,6,none⟩=some (.int .i64 (e:Int))∧W.cell? ⟨rb,7,none⟩=some (.slice og ng cg):=λW hW=>⟨(Zi.below hW).cell 3,(Zi.below hW).cell 4,(Zi.below hW).cell 5,(Zi.below hW).cell 6,(Zi.below hW).cell 7⟩;have yS:=hid hkp;have e0:=hkp _ (Below.refl W0.heap.size W0).drew;have ea:=λo=>hkp _ (((Below.refl W0.heap.size W0).alloc (Nat.le_refl _) o).drew);have hrw:rb<w.heap.size:=kr.lt;have hz0:w.heap.size<W0.heap.size:=kz.lt;have HW0:=hid hW0;have HB0:=hid hB0;have zjL:=hid Zi;have Qd:=hid kz;have NP:=hid (And.intro Zc (And.intro hk2 (And.intro htw (And.intro hnx (And.intro hok (And.intro hnk (And.intro hL1 (And.intro hL2 hk))))))));have Qr:=hid hbd;clear Qq hkp kr Zi kz hB0 hW0 hX hMt Zc hk2 htw hnx hok hnk hL1 hL2 hk hR hT hbd;go_enter Tryz.func68,Tryz.ntmps68
 go_upto_region 1 with fail
 rw[HW0.out]
 go_cut [3]from 6 to 14 (λv wx=>NI W0 wx A bd k X v)
 case first=>
  go_region_held_law (λW=>W.cell? ⟨rb,3,none⟩=some (.int .i64 (A:Int))∧W.cell? ⟨rb,4,none⟩=some (.bool bd)∧W.cell? ⟨rb,5,none⟩=some (.int .i64 (f:Int))∧W.cell? ⟨rb,6,none⟩=some (.int .i64 (e:Int))∧W.cell? ⟨rb,7,none⟩=some (.slice og ng cg)) (((repeat(with_reducible (refine zjI (by omega) ?_)));with_reducible (first|exact e0|exact ea _|exact s4|exact Z8 _))) (first
   |(refine um (by rfl) Tryz.func60 (by kernel_rfl) (by kernel_rfl) _ _ (by rfl) [.agg #[.int .i64 (A:Int),.bool bd,.int .i64 (f:Int),.int .i64 (e:Int)],.slice og ng cg] (by rfl) _ (Jq.out W0.drew HB0.out.drew) ?_;intro v w4 hh;obtain⟨o9,c9,hv4,uq,hb4⟩:=hh;subst hv4;have zA:Below W0.heap.size W0 w4:=(Below.refl W0.heap.size W0).drew.trans hb4;have s4:=yS.out _ zA;have Z8:=λo=>yS.out _ (zA.alloc zA.size o))
   |(refine um (by rfl) Tryz.func60 (by kernel_rfl) (by kernel_rfl) _ _ (by rfl) [.agg #[.int .i64 (A:Int),.bool bd,.int .i64 (f:Int),.int .i64 (e:Int)],.slice og ng cg] (by rfl) _ (Jq.out (W0.alloc (.cells #[.int .i64 0,.slice none 0 0,.bool false] 50)).drew (HB0.out.alloc HB0.out.size _).drew) ?_;intro v w4 hh;obtain⟨o9,c9,hv4,uq,hb4⟩:=hh;subst hv4;have hb0:=((Below.refl W0.heap.size W0).alloc (Nat.le_refl _) (.cells #[.int .i64 0,.slice none 0 0,.bool false] 50)).drew;have zA:Below W0.heap.size W0 w4:=hb0.trans (hb4.mono hb0.size);have s4:=yS.out _ zA;have Z8:=λo=>yS.out _ (zA.alloc zA.size o);have kx:=((zh.new W0 #[.int .i64 0,.slice none 0 0,.bool false] 50).drew).below hb4;have dm:=kx.cell 0;have dw:=kx.cell 1;have dB:=kx.cell 2;have dC:=kx.frozen 0;have dD:=kx.frozen 1;have dE:=kx.frozen 2))
  all_goals
   go_step;go_step;go_meet
   case rel=>
    first
     |with_reducible exact zaq zA uq
     |with_reducible exact zar zA uq kx (Nat.le_refl _)
 case rest=>
  obtain⟨bx,o9,c9,rfl,kx,uq,hb5,hge⟩:=hcut;generalize wc=W1 at*;have zjM:=uq;have ho9:(o9=none∧k=0∧c9=0)∨∃g off,o9=some ⟨g,off,none⟩:=by
   rcases uq.src with⟨h1,h2,_⟩|⟨g,off,c,h1,_⟩
   ·cases h1
    exact .inl ⟨rfl,by first|rfl|assumption|omega,rfl⟩
   ·cases h1
    exact .inr ⟨g,off,rfl⟩
  have hkc:k≤c9:=by
   obtain⟨o',c',e',hc⟩:=uq.cap;have hl:=uq.len;injection e' with _ _ e4;omega
  obtain⟨k2,zaD⟩:∃k2,min k 2=k2:=⟨_,rfl⟩;have zm5:min (k:Int) 2=(k2:Int):=by omega
  have zm6:k2≤k:=by omega
  have p0:(0:Int)≤(k2:Int):=by omega
  have p1:(k2:Int)≤(c9:Int):=by omega
  have x1:=kx.cell 1;have f1:=kx.frozen 1;have VB:=hid kx;have JL:=hid uq;have vX:=hid zaD;have qK:=hid hb5;have zm7:bx<W1.heap.size:=kx.lt;clear uq zjM kx zaD hb5 e0 ea
  go_upto_region 2 with fail
  go_cut []from 15 to 22 (λwx=>zh wx bx #[.int .i64 (A:Int),.slice o9 k2 c9,.bool bd] 50∧zg (λj=>j=bx) W1 wx)
  case first=>
   rcases ho9 with⟨rfl,rfl,rfl⟩|⟨g,off,rfl⟩
   ·have hz:k2=0:=by omega
    subst hz;go_wp2;go_meet;case rel=>exact⟨VB.out.set 1 (.slice none 0 0),zg.setCell (p:=λj=>j=bx) (zg.refl _ W1) 1 (.inl rfl) _⟩
   ·go_wp2
    go_meet;case rel=>exact⟨VB.out.set 1 (.slice (some ⟨g,off,none⟩) k2 c9),zg.setCell (p:=λj=>j=bx) (zg.refl _ W1) 1 (.inl rfl) _⟩
  case rest=>
   obtain⟨WG,hF2⟩:=hcut;generalize wc=W2 at*;have hM2:yR W2 (.slice o9 k2 c9) (two X):=by
    have:=(JL.out.Y9 VB.out NJ hF2).two
    rwa [vX.out]at this
   have zm8:w.heap.size<bx:=by omega
   have hB2:Below w.heap.size w W2:=(HB0.out.trans (qK.out.mono HB0.out.size)).trans (hF2.below (Nat.le_trans HB0.out.size qK.out.size) (λj hj=>by have e':j=bx:=hj;omega));have yh:=(zjL.out.below qK.out).zf hF2 (λe'=>by have NQ:rb=bx:=e';omega);have RP:=(Qd.out.below qK.out).zf hF2 (λe'=>by have NQ:w.heap.size=bx:=e';omega);obtain⟨Zc,hk2,htw,hnx,hok,hnk,hL1,hL2,hk⟩:=NP.out;have gp:=λW (hW:Below W2.heap.size W2 W)=>zjN W (two X) o9 k2 c9 (hM2.below hW) T hs (VJ.out.b (hB2.trans (hW.mono hB2.size))) (by rw[hk2];exact Nat.le_trans (Nat.min_le_right _ _) (by decide)) (by show X.await≤1000;rw[hL1];exact haw) a ha;rw[htw]at gp;obtain⟨Y,hY⟩:∃Y,zy T a (two X)=Y:=⟨_,rfl⟩;have hta:(two X).await=A:=hL1;have htb:(two X).body=bd:=hL2;unfold zD yJ at gp;rw[hY,hta,htb]at gp;rw[hY]at hnk;obtain⟨t,ht⟩:∃t,zo T a X=t:=⟨_,rfl⟩;rw[ht]at gp hok;have HT:=hid ht;have HY:=hid hY;obtain⟨tk,tf,te,top⟩:=t;dsimp only at gp hok;have Qs:=hid (λW hW=>(gp W hW).mono (λe' w' h=>(by
    obtain⟨yD,n',c',h1,h2,h3⟩:=h;exact⟨_,h1,yD,n',c',rfl,h2,h3⟩:∃v,e'=.returned v∧(∃yD n' c',v=.tuple #[.agg #[.int .i64 (tk:Int),.int .i64 (tf:Int),.int .i64 (te:Int),.bool top],.agg #[.int .i64 (Y.await:Int),.slice yD n' c',.bool Y.body]]∧yR w' (.slice yD n' c') Y∧Below W.heap.size W w'))))
   have hkp:∀W,Below W2.heap.size W2 W→W.cell? ⟨rb,1,none⟩=some (.string T)∧W.cell? ⟨rb,2,none⟩=some (.int .i64 (a:Int))∧W.cell? ⟨bx,0,none⟩=some (.int .i64 (A:Int))∧W.cell? ⟨bx,1,none⟩=some (.slice o9 k2 c9)∧W.cell? ⟨bx,2,none⟩=some (.bool bd):=λW hW=>⟨(yh.below hW).cell 1,(yh.below hW).cell 2,(WG.below hW).cell 0,(WG.below hW).cell 1,(WG.below hW).cell 2⟩;have hS0:=hkp _ (Below.refl W2.heap.size W2).drew;have hSa:=λo=>hkp _ (((Below.refl W2.heap.size W2).alloc (Nat.le_refl _) o).drew);have hSb:=λo p=>hkp _ ((((Below.refl W2.heap.size W2).alloc (Nat.le_refl _) o).alloc (by rw[World.size_alloc];exact Nat.le_succ _) p).drew);clear yS;have yS:=hid hkp;have zjO:rb<W2.heap.size:=yh.lt;have hbx2:bx<W2.heap.size:=WG.lt;have NM:=hid yh;have zjP:=hid WG;have zjQ:=hid RP;have HB2:=hid hB2;have HPQ:=hid (And.intro hok hnk);clear hkp gp hM2 hF2 yh WG RP hB2 Zc hk2 htw hnx hok hnk hL1 hL2 hk ht hY hta htb x1 f1
   go_upto_region 3 with fail
   go_cut [4,5]from 23 to 35 (λv4 v5 wx=>dK W2 wx (tk:Int) (tf:Int) (te:Int) top Y v4 v5)
   case first=>
    go_region_held_law (λW=>W.cell? ⟨rb,1,none⟩=some (.string T)∧W.cell? ⟨rb,2,none⟩=some (.int .i64 (a:Int))∧W.cell? ⟨bx,0,none⟩=some (.int .i64 (A:Int))∧W.cell? ⟨bx,1,none⟩=some (.slice o9 k2 c9)∧W.cell? ⟨bx,2,none⟩=some (.bool bd)) (((repeat(with_reducible (refine zjH (by omega) ?_)));with_reducible (first|exact hS0|exact hSa _|exact hSb _ _|exact s4|exact Z8 _|exact dL _ _))) (first
     |(refine um (by rfl) Tryz.func77 (by kernel_rfl) (by kernel_rfl) _ _ (by rfl) [.string T,.int .i64 (a:Int),.agg #[.int .i64 (A:Int),.slice o9 k2 c9,.bool bd]] (by rfl) _ (Qs.out W2.drew (Below.refl W2.heap.size W2).drew) ?_;intro v w4 hh;obtain⟨o6,n6,c6,hv4,uq,hb4⟩:=hh;subst hv4;have hb0:=(Below.refl W2.heap.size W2).drew;have zA:Below W2.heap.size W2 w4:=hb0.trans (hb4.mono hb0.size);have s4:=yS.out _ zA;have Z8:=λo=>yS.out _ (zA.alloc zA.size o);have dL:=λo p=>yS.out _ ((zA.alloc zA.size o).alloc (Nat.le_trans zA.size (by rw[World.size_alloc];exact Nat.le_succ _)) p))
     |(refine um (by rfl) Tryz.func77 (by kernel_rfl) (by kernel_rfl) _ _ (by rfl) [.string T,.int .i64 (a:Int),.agg #[.int .i64 (A:Int),.slice o9 k2 c9,.bool bd]] (by rfl) _ (Qs.out (W2.alloc (.cells #[.int .i64 0,.int .i64 0,.int .i64 0,.bool false] 44)).drew ((Below.refl W2.heap.size W2).alloc (Nat.le_refl _) (.cells #[.int .i64 0,.int .i64 0,.int .i64 0,.bool false] 44)).drew) ?_;intro v w4 hh;obtain⟨o6,n6,c6,hv4,uq,hb4⟩:=hh;subst hv4;have hb0:=((Below.refl W2.heap.size W2).alloc (Nat.le_refl _) (.cells #[.int .i64 0,.int .i64 0,.int .i64 0,.bool false] 44)).drew;have zA:Below W2.heap.size W2 w4:=hb0.trans (hb4.mono hb0.size);have s4:=yS.out _ zA;have Z8:=λo=>yS.out _ (zA.alloc zA.size o);have dL:=λo p=>yS.out _ ((zA.alloc zA.size o).alloc (Nat.le_trans zA.size (by rw[World.size_alloc];exact Nat.le_succ _)) p);have dM:W2.heap.size+1≤w4.heap.size:=(by have:=hb4.size;have e:((W2.alloc (.cells #[.int .i64 0,.int .i64 0,.int .i64 0,.bool false] 44)).drew).heap.size=W2.heap.size+1:=World.size_alloc _ _;omega);have kt0:=((zh.new W2 #[.int .i64 0,.int .i64 0,.int .i64 0,.bool false] 44).drew).below hb4;have kt:=kt0.alloc (.cells #[.int .i64 0,.slice none 0 0,.bool false] 50);have zaE:=kt.cell 0;have zaF:=kt.cell 1;have zaG:=kt.cell 2;have zjR:=kt.cell 3;have zaH:=kt.frozen 0;have zaI:=kt.frozen 1;have zaJ:=kt.frozen 2;have zjS:=kt.frozen 3;have kx:=zh.new w4 #[.int .i64 0,.slice none 0 0,.bool false] 50;have dm:=kx.cell 0;have dw:=kx.cell 1;have dB:=kx.cell 2;have dC:=kx.frozen 0;have dD:=kx.frozen 1;have dE:=kx.frozen 2;have ky:=((((kx).other 0 (.int .i64 (tk:Int)) (b':=W2.heap.size) (by omega)).other 1 (.int .i64 (tf:Int)) (b':=W2.heap.size) (by omega)).other 2 (.int .i64 (te:Int)) (b':=W2.heap.size) (by omega)).other 3 (.bool top) (b':=W2.heap.size) (by omega);have zm9:=ky.cell 0;have zna:=ky.cell 1;have znb:=ky.cell 2;have znc:=ky.frozen 0;have znd:=ky.frozen 1;have zne:=ky.frozen 2)
     |(refine um (by rfl) Tryz.func77 (by kernel_rfl) (by kernel_rfl) _ _ (by rfl) [.string T,.int .i64 (a:Int),.agg #[.int .i64 (A:Int),.slice o9 k2 c9,.bool bd]] (by rfl) _ (Qs.out (W2.alloc (.cells #[.int .i64 0,.slice none 0 0,.bool false] 50)).drew ((Below.refl W2.heap.size W2).alloc (Nat.le_refl _) (.cells #[.int .i64 0,.slice none 0 0,.bool false] 50)).drew) ?_;intro v w4 hh;obtain⟨o6,n6,c6,hv4,uq,hb4⟩:=hh;subst hv4;have hb0:=((Below.refl W2.heap.size W2).alloc (Nat.le_refl _) (.cells #[.int .i64 0,.slice none 0 0,.bool false] 50)).drew;have zA:Below W2.heap.size W2 w4:=hb0.trans (hb4.mono hb0.size);have s4:=yS.out _ zA;have Z8:=λo=>yS.out _ (zA.alloc zA.size o);have dL:=λo p=>yS.out _ ((zA.alloc zA.size o).alloc (Nat.le_trans zA.size (by rw[World.size_alloc];exact Nat.le_succ _)) p);have dM:W2.heap.size+1≤w4.heap.size:=(by have:=hb4.size;have e:((W2.alloc (.cells #[.int .i64 0,.slice none 0 0,.bool false] 50)).drew).heap.size=W2.heap.size+1:=World.size_alloc _ _;omega);have kx0:=((zh.new W2 #[.int .i64 0,.slice none 0 0,.bool false] 50).drew).below hb4;have kx:=kx0.alloc (.cells #[.int .i64 (tk:Int),.int .i64 (tf:Int),.int .i64 (te:Int),.bool top] 44);have dm:=kx.cell 0;have dw:=kx.cell 1;have dB:=kx.cell 2;have dC:=kx.frozen 0;have dD:=kx.frozen 1;have dE:=kx.frozen 2)
     |(refine um (by rfl) Tryz.func77 (by kernel_rfl) (by kernel_rfl) _ _ (by rfl) [.string T,.int .i64 (a:Int),.agg #[.int .i64 (A:Int),.slice o9 k2 c9,.bool bd]] (by rfl) _ (Qs.out ((W2.alloc (.cells #[.int .i64 0,.int .i64 0,.int .i64 0,.bool false] 44)).alloc (.cells #[.int .i64 0,.slice none 0 0,.bool false] 50)).drew ((((Below.refl W2.heap.size W2).alloc (Nat.le_refl _) (.cells #[.int .i64 0,.int .i64 0,.int .i64 0,.bool false] 44)).alloc (by rw[World.size_alloc];exact Nat.le_succ _) (.cells #[.int .i64 0,.slice none 0 0,.bool false] 50))).drew) ?_;intro v w4 hh;obtain⟨o6,n6,c6,hv4,uq,hb4⟩:=hh;subst hv4;have hb0:=((((Below.refl W2.heap.size W2).alloc (Nat.le_refl _) (.cells #[.int .i64 0,.int .i64 0,.int .i64 0,.bool false] 44)).alloc (by rw[World.size_alloc];exact Nat.le_succ _) (.cells #[.int .i64 0,.slice none 0 0,.bool false] 50))).drew;have zA:Below W2.heap.size W2 w4:=hb0.trans (hb4.mono hb0.size);have s4:=yS.out _ zA;have Z8:=λo=>yS.out _ (zA.alloc zA.size o);have dL:=λo p=>yS.out _ ((zA.alloc zA.size o).alloc (Nat.le_trans zA.size (by rw[World.size_alloc];exact Nat.le_succ _)) p);have kt:=((((zh.new W2 #[.int .i64 0,.int .i64 0,.int .i64 0,.bool false] 44).alloc (.cells #[.int .i64 0,.slice none 0 0,.bool false] 50)).drew)).below hb4;have zaE:=kt.cell 0;have zaF:=kt.cell 1;have zaG:=kt.cell 2;have zjR:=kt.cell 3;have zaH:=kt.frozen 0;have zaI:=kt.frozen 1;have zaJ:=kt.frozen 2;have zjS:=kt.frozen 3;have kx:=((xU W2 (.cells #[.int .i64 0,.int .i64 0,.int .i64 0,.bool false] 44) #[.int .i64 0,.slice none 0 0,.bool false] 50).drew).below hb4;have dm:=kx.cell 0;have dw:=kx.cell 1;have dB:=kx.cell 2;have dC:=kx.frozen 0;have dD:=kx.frozen 1;have dE:=kx.frozen 2)
     |(refine um (by rfl) Tryz.func77 (by kernel_rfl) (by kernel_rfl) _ _ (by rfl) [.string T,.int .i64 (a:Int),.agg #[.int .i64 (A:Int),.slice o9 k2 c9,.bool bd]] (by rfl) _ (Qs.out ((W2.alloc (.cells #[.int .i64 0,.slice none 0 0,.bool false] 50)).alloc (.cells #[.int .i64 0,.int .i64 0,.int .i64 0,.bool false] 44)).drew ((((Below.refl W2.heap.size W2).alloc (Nat.le_refl _) (.cells #[.int .i64 0,.slice none 0 0,.bool false] 50)).alloc (by rw[World.size_alloc];exact Nat.le_succ _) (.cells #[.int .i64 0,.int .i64 0,.int .i64 0,.bool false] 44))).drew) ?_;intro v w4 hh;obtain⟨o6,n6,c6,hv4,uq,hb4⟩:=hh;subst hv4;have hb0:=((((Below.refl W2.heap.size W2).alloc (Nat.le_refl _) (.cells #[.int .i64 0,.slice none 0 0,.bool false] 50)).alloc (by rw[World.size_alloc];exact Nat.le_succ _) (.cells #[.int .i64 0,.int .i64 0,.int .i64 0,.bool false] 44))).drew;have zA:Below W2.heap.size W2 w4:=hb0.trans (hb4.mono hb0.size);have s4:=yS.out _ zA;have Z8:=λo=>yS.out _ (zA.alloc zA.size o);have dL:=λo p=>yS.out _ ((zA.alloc zA.size o).alloc (Nat.le_trans zA.size (by rw[World.size_alloc];exact Nat.le_succ _)) p);have kt:=((((zh.new W2 #[.int .i64 0,.slice none 0 0,.bool false] 50).alloc (.cells #[.int .i64 0,.int .i64 0,.int .i64 0,.bool false] 44)).drew)).below hb4;have zaE:=kt.cell 0;have zaF:=kt.cell 1;have zaG:=kt.cell 2;have zaH:=kt.frozen 0;have zaI:=kt.frozen 1;have zaJ:=kt.frozen 2;have kx:=((xU W2 (.cells #[.int .i64 0,.slice none 0 0,.bool false] 50) #[.int .i64 0,.int .i64 0,.int .i64 0,.bool false] 44).drew).below hb4;have dm:=kx.cell 0;have dw:=kx.cell 1;have dB:=kx.cell 2;have znf:=kx.cell 3;have dC:=kx.frozen 0;have dD:=kx.frozen 1;have dE:=kx.frozen 2;have zng:=kx.frozen 3))
    all_goals
     go_step;go_step;go_meet
     case rel=>
      have hs4:=zA.size
      first
       |with_reducible exact zjT zA uq
       |with_reducible exact zjU zA uq
       |with_reducible exact BP (zA.alloc hs4 _) (uq.below ((Below.refl _ _).alloc (Nat.le_refl _) _)) kt kx (by omega) (Nat.le_refl _) hs4
       |with_reducible exact zaK (zA.alloc hs4 _) (uq.below ((Below.refl _ _).alloc (Nat.le_refl _) _)) (zh.new w4 _ _) kx (by omega) hs4 (Nat.le_refl _)
       |with_reducible exact BP zA uq kt kx (by omega) (Nat.le_refl _) (Nat.le_succ _)
       |with_reducible exact BP zA uq kx kt (by omega) (Nat.le_succ _) (Nat.le_refl _)
   case rest=>
    obtain⟨bt,by',o6,n6,c6,rfl,rfl,kt,ky,VK,hb3,NR,BF⟩:=hcut;generalize wc=W3 at*;have yK:=NM.out.below hb3;have kx3:=zjP.out.below hb3;have Wh:=zjQ.out.below hb3;have znh:rb<W2.heap.size:=zjO;have dN:bt≠rb:=by omega
    have zaL:by'≠rb:=by omega
    have zaM:bx≠rb:=by omega
    have Qu:w.heap.size≠rb:=by omega
    have jb:=yK.set 2 (.int .i64 (te:Int));have qU:=kt.other 2 (.int .i64 (te:Int)) (b':=rb) dN;have ZM:=ky.other 2 (.int .i64 (te:Int)) (b':=rb) zaL;have gq:=kx3.other 2 (.int .i64 (te:Int)) (b':=rb) zaM;have gu:=Wh.other 2 (.int .i64 (te:Int)) (b':=rb) Qu;have yZ:zg (λj=>j=rb) W3 (W3.setCell ⟨rb,2,none⟩ (.int .i64 (te:Int))):=zg.setCell (p:=λj=>j=rb) (zg.refl _ W3) 2 (.inl rfl) _;have t2:=kt.cell 2;have x2:=yK.cell 2;have f2:=yK.frozen 2;have H4:=hid (And.intro jb (And.intro qU (And.intro ZM (And.intro gq (And.intro gu (And.intro yZ (And.intro VK (And.intro yK (And.intro hb3 kt)))))))));have zni:rb<W3.heap.size:=yK.lt;clear yK kx3 Wh jb qU ZM gq gu yZ VK kt ky hb3 hS0 hSa hSb yS
    go_upto_region 5 with fail
    obtain⟨W4,Xp⟩:∃Z,W3.setCell ⟨rb,2,none⟩ (.int .i64 (te:Int))=Z:=⟨_,rfl⟩;rw[Xp]at H4 ⊢;have HW4:=hid Xp;clear Xp t2 x2 f2
    go_cut []from 41 to 52 (λwx=>zh wx rb #[.pointer (some ⟨b,0,none⟩),.string T,.int .i64 (te:Int),.int .i64 (Y.await:Int),.bool Y.body,.int .i64 (f:Int),.int .i64 (e:Int),.slice og ng cg,.int .i64 df] 97∧zg (λj=>j=rb) W4 wx)
    case first=>
     have y0:=H4.out.2.2.1.cell 0;have y2:=H4.out.2.2.1.cell 2;have x3:=H4.out.1.cell 3;have x4:=H4.out.1.cell 4;have f3:=H4.out.1.frozen 3;have f4:=H4.out.1.frozen 4;have x4':=(H4.out.1.set 3 (.int .i64 (Y.await:Int))).cell 4;have f4':=(H4.out.1.set 3 (.int .i64 (Y.await:Int))).frozen 4;have x3':=(H4.out.1.set 4 (.bool Y.body)).cell 3;have f3':=(H4.out.1.set 4 (.bool Y.body)).frozen 3
     go_region
     all_goals
      go_wp2_with fail
      go_meet
      case rel=>
       first
        |exact⟨((H4.out.1.set 3 (.int .i64 (Y.await:Int))).set 4 (.bool Y.body)).drew,(zg.setCell (p:=λj=>j=rb) (zg.setCell (p:=λj=>j=rb) (zg.refl _ W4) 3 (.inl rfl) _) 4 (.inl rfl) _).drew⟩
        |exact⟨((H4.out.1.set 4 (.bool Y.body)).set 3 (.int .i64 (Y.await:Int))).drew,(zg.setCell (p:=λj=>j=rb) (zg.setCell (p:=λj=>j=rb) (zg.refl _ W4) 4 (.inl rfl) _) 3 (.inl rfl) _).drew⟩
    case rest=>
     obtain⟨xy,yM⟩:=hcut;generalize wc=W5 at*;obtain⟨jb,qU,ZM,gq,gu,yZ,VK,yK,hb3,uP⟩:=H4.out;have jf:=qU.zf yM dN;have uO:=ZM.zf yM zaL;have dO:=gq.zf yM zaM;have vg:=gu.zf yM Qu;have dP:yR W5 (.slice o6 n6 c6) Y:=VK.zjJ yK zjK (yZ.trans yM (λ_ _ h=>h));have NS:=dP.len;obtain⟨Zc,hk2,htw,hnx,hok',BQ,hL1,hL2,hk⟩:=NP.out;have hcnt:=HPQ.out.2;have ha1:Y.await=(zy T a X).await:=by rw[←HY.out];exact hnx.1
     have hb1:Y.body=(zy T a X).body:=by rw[←HY.out];exact hnx.2.1
     have hpo:jq T a (two X)=jq T a X:=hnx.2.2.1;have hpu:uB T a (two X)=uB T a X:=hnx.2.2.2.1;have dQ:(two X).pend.length=k2:=by rw[hk2,Zc,vX.out]
     have kR:uB T a X=1→∃d,(zy T a X).pend=X.pend++ [d]∧Y.pend=(two X).pend++ [d]:=λh=>by
      obtain⟨d,h1,h2⟩:=hnx.2.2.2.2 h;exact⟨d,h1,by rw[←HY.out];exact h2⟩
     have YX:zg (λj=>j=rb) w W5:=(((zg.of_below (p:=λj=>j=rb) HB2.out).trans (zg.of_below (p:=λj=>j=rb) hb3) (λ_ _ h=>h)).trans yZ (λ_ _ h=>h)).trans yM (λ_ _ h=>h);have hdw:∀g,(Value.slice og ng cg).ownBlock=some g→g<w.heap.size:=λg hg=>by
      rcases HR.out.del with⟨h1,_⟩|⟨g',off',c',h1,h2,_⟩
      ·cases h1;cases hg
      ·cases h1;cases hg;exact h2
     have hdr:=HR.out.db;have gz:=HR.out.del.zf YX (λg hg e'=>hdr g hg e');have dR:cg=ng∨W5.ownsRow base 87 2 (.slice og ng cg) ng (zx F):=HR.out.ow.elim .inl (λh=> .inr (zQ YX h (λg hg e'=>hdr g hg e')));have hdz:∀g,(Value.slice og ng cg).ownBlock=some g→g≠rb∧g≠w.heap.size:=λg hg=>⟨hdr g hg,by have:=hdw g hg;omega⟩;have hln:=HR.out.ln;have hen:e=F.length:=HR.out.en;have hle:f≤e:=HR.out.le;have hcp:=HR.out.cap;have y1:=uO.cell 1;have x1:=dO.cell 1;rw[dQ]at hcnt;have HC:=hid (And.intro hcnt (And.intro hln (And.intro hen (And.intro hle (And.intro hcp (And.intro hpo hpu))))));have HN6:=hid NS;by_cases hpush:uB T a X=1
     ·obtain⟨d,hd1,hd2⟩:=kR hpush
      have hn7:n6=k2+1:=by omega
      have hlt:(k2:Int)<(n6:Int):=by omega
      have YY:=zjD (T:=T) (a:=a) (m:=⟨A,bd,f,e⟩) (F:=F) hen hle (by rw[HX.out];exact Qr.out) (by rw[HX.out];exact hpush) (d:=d) (by rw[HX.out];exact hd1);rw[HX.out]at YY;obtain⟨e1,he1⟩:∃e1,e+1=e1:=⟨_,rfl⟩;have hst:Stp T (F++ [d]) a ⟨A,bd,f,e⟩ ⟨(zy T a X).await,(zy T a X).body,f,e1⟩:=by rw[←he1];exact YY
      have hck:(zx (two X).pend).length=k2*2:=NT dQ.symm;have NU:zx Y.pend=zx (two X).pend++ [.string d.word,.bool d.tabs]:=by rw[hd2,Rj];rfl
      obtain⟨g6,WH,gB,VY,hd0,hd3⟩:∃g6 WH,o6=some ⟨g6,WH,none⟩∧g6<W5.heap.size∧W5.cell? ⟨g6,WH+k2*2,none⟩=some (.string d.word)∧W5.cell? ⟨g6,WH+k2*2+1,none⟩=some (.bool d.tabs):=by
       rcases dP.src with⟨h1,h2,h3⟩|⟨g,off,c',h1,h2,h3⟩
       ·rw[hd2]at h2;rw[List.length_append]at h2;simp at h2
       ·cases h1
        refine⟨g,off,rfl,h2,?_,?_⟩
        ·have:=h3 (k2*2) (.string d.word) (by rw[NU,List.getElem?_append_right (by omega),hck,Nat.sub_self];rfl)
         exact this
        ·have:=h3 (k2*2+1) (.bool d.tabs) (by rw[NU,List.getElem?_append_right (by omega),hck,show k2*2+1-k2*2=1 by omega];rfl)
         rw[←Nat.add_assoc]at this;exact this
      subst gB;have znj:rb<W5.heap.size:=xy.lt;have znk:w.heap.size≤W5.heap.size:=YX.size;obtain⟨i0,hi0,hz0',hs0,hb0⟩:=info_parts Jp;have hnews:∀X':World,zh X' W5.heap.size #[.string d.word,.bool d.tabs] 87→∀j u,([.string d.word,.bool d.tabs]:List Value)[j]?=some u→X'.cell? ((⟨W5.heap.size,0,none⟩:Addr).add j)=some u:=λX' hX' j u hj=>by
       rw[Addr.add_lit,Nat.zero_add,hX'.cell j];simpa using hj
      have holds:∀X':World,Below W5.heap.size W5 X'→∀b',og=some b'→∀j u,(zx F)[j]?=some u→X'.cell? (b'.add j)=some u:=λX' hX' b' hb' j u hj=>by
       rcases gz.below hX' with⟨h1,_⟩|⟨g,off,c',h1,_,h3⟩
       ·cases h1;cases hb'
       ·cases h1
        cases hb';rw[Addr.add_lit];exact h3 j u hj
      have hnone:og=none→ng=0∧cg=0:=λh=>by
       rcases gz with⟨h1,_⟩|⟨g,off,c',h1,_⟩
       ·injection h1 with _ h2 h3
        exact⟨h2,h3⟩
       ·injection h1 with h2
        rw[h]at h2;cases h2
      have hlF:(zx F).length=ng*2:=NT hln;have p0':(0:Int)≤(k2:Int):=by omega
      have x7:=xy.cell 7;have x7d:=xy.drew.cell 7;have y1d:=uO.drew.cell 1;have x1d:=dO.drew.cell 1;have zjV:W5.drew.cell? ⟨g6,WH+k2*2,none⟩=some (.string d.word):=hd0;have zjW:W5.drew.cell? ⟨g6,WH+k2*2+1,none⟩=some (.bool d.tabs):=hd3;have HP:=hid (And.intro hst (And.intro hen (And.intro hle (And.intro hln (And.intro he1 (And.intro hnews (And.intro holds (And.intro hnone (And.intro hlF (And.intro hdz (And.intro hdr hdw)))))))))));have HI0:=hid (And.intro hi0 (And.intro hz0' (And.intro hs0 hb0)));have Vr:=hid (And.intro xy (And.intro jf (And.intro vg YX)));have Vs:ng≤900:=by omega
      have gG:e≤900:=by omega
      have HE:=hid (And.intro hn7 (And.intro hcnt (And.intro hck NU)));clear YY hst he1 hck NU hd1 hd2 hi0 hz0' hs0 hb0 hnews holds hnone hlF hpush hn7 gz hcnt hln hen hle hcp hpo hpu hnx Zc hk2 htw hok' BQ hL1 hL2 hk dP VK NS yZ yM YX ZM gq gu qU uP yK jb hb3 kR hdw hdr hdz dQ
      go_upto_region 7 with fail
      go_cut []from 61 to 76 (λwx=>∃(jZ:Option Addr) (c':Nat),zh wx rb (yT b T te ⟨Y.await,Y.body,f,e⟩ (.slice jZ (ng+1) c') df) 97∧wx.ownsRow base 87 2 (.slice jZ (ng+1) c') (ng+1) (zx F++ [.string d.word,.bool d.tabs])∧zg (λj=>j=rb∨(base≤j∧(Value.slice og ng cg).ownBlock=some j)) W5 wx∧(∀g,(Value.slice jZ (ng+1) c').ownBlock=some g→(Value.slice og ng cg).ownBlock=some g∨W5.heap.size≤g))
      case first=>
       rcases dR with hfull|hown
       ·have HFU:=hid hfull
        clear hfull
        go_region_law (refine step_append_grows (by rfl) _ _ _ (by rfl) 87 i0 _ 2 24 Tryz.underlying48 HI0.out.1 HI0.out.2.1 HI0.out.2.2.1 HI0.out.2.2.2 rfl (by omega) og ng cg (zx F) (by rfl) HP.out.2.2.2.2.2.2.2.1 HP.out.2.2.2.2.2.2.2.2.1 (HP.out.2.2.2.2.2.2.1 _ (((Below.refl _ _).alloc (Nat.le_refl _) _).drew)) ⟨W5.heap.size,0,none⟩ 1 1 [.string d.word,.bool d.tabs] (by rfl) (by rfl) (HP.out.2.2.2.2.2.1 _ ((zh.new W5 _ _).drew)) (Qk [d]) (by have:=HFU.out;omega) (by unfold maxLen;omega) (by omega) ?_;intro v9 w9 jg Zj;obtain⟨uQ,c9',BR⟩:=JD jg;subst BR;have ZN:=((Vr.out.1.alloc (.cells #[.string d.word,.bool d.tabs] 87)).drew).grown Zj (λe=>by cases e);have u7:=ZN.cell 7;have f7:=ZN.frozen 7)
        all_goals
         go_wp2_with fail
         go_meet
         case rel=>
          have xw:zg (λj=>j=rb∨(base≤j∧(Value.slice og ng cg).ownBlock=some j)) W5 w9:=(((zg.refl _ W5).alloc _).drew).grown Zj (λk hk=>by cases hk);have BU:zg (λj=>j=rb) w9 (w9.setCell ⟨rb,7,none⟩ (.slice uQ (ng+1) c9')):=zg.setCell (p:=λj=>j=rb) (zg.refl _ w9) 7 (.inl rfl) _;have Qv:=yH jg;have Gy:(W5.alloc (.cells #[.string d.word,.bool d.tabs] 87)).drew.heap.size=W5.heap.size+1:=World.size_alloc _ _;exact⟨uQ,c9',ZN.set 7 _,zQ BU (JR jg (by rw[Gy];omega)) (λg hg e'=>by have h1:=Qv g hg;rw[Gy]at h1;have NQ:g=rb:=e';omega),xw.setCell 7 (.inl (.inl rfl)) _,λg hg=> .inr (by have h1:=Qv g hg;rw[Gy]at h1;omega)⟩
       ·have HOW:=hid hown
        clear hown
        go_region_law (refine Y0 (by rfl) _ _ 48 87 2 24 _ (by rfl) Tryz.underlying48 Jp rfl (by omega) (by omega) base (.slice og ng cg) ng (zx F) (by rfl) (GN (jS HOW.out _)) _ 1 [.string d.word,.bool d.tabs] (by rfl) (zaN (x:=d) ((zh.new W5 _ _).drew)) rfl (Qk [d]) (by omega) (by show base≤(W5.alloc _).heap.size;rw[World.size_alloc];omega) (ng+1) rfl ?_;intro uQ c9' w9 jg Zj Vw;have ZN:=((Vr.out.1.alloc (.cells #[.string d.word,.bool d.tabs] 87)).drew).grown Zj (λe=>HP.out.2.2.2.2.2.2.2.2.2.2.1 _ e.symm rfl);have u7:=ZN.cell 7;have f7:=ZN.frozen 7)
        all_goals
         go_wp2_with fail
         go_meet
         case rel=>
          have zjX:=yH HOW.out;have xw:zg (λj=>j=rb∨(base≤j∧(Value.slice og ng cg).ownBlock=some j)) W5 w9:=(((zg.refl _ W5).alloc _).drew).grown Zj (λk hk=> .inl (.inr ⟨zjX k hk,hk⟩));have BU:zg (λj=>j=rb) w9 (w9.setCell ⟨rb,7,none⟩ (.slice uQ (ng+1) c9')):=zg.setCell (p:=λj=>j=rb) (zg.refl _ w9) 7 (.inl rfl) _;have Qv:=yH jg;exact⟨uQ,c9',ZN.set 7 _,zQ BU jg (λg hg e'=>by have h1:=Qv g hg;have NQ:g=rb:=e';omega),xw.setCell 7 (.inl (.inl rfl)) _,λg hg=>by
           rcases Vw with q|q
           ·exact .inl (q.symm.trans hg)
           ·rw[q]at hg
            have Gy:(W5.alloc (.cells #[.string d.word,.bool d.tabs] 87)).drew.heap.size=W5.heap.size+1:=World.size_alloc _ _;injection hg with hg;exact .inr (by omega)⟩
      case rest=>
       obtain⟨jZ,c',uJ,Qo,qP,Z7⟩:=hcut;generalize wc=W7 at*;obtain⟨hst,hen,hle,hln,he1,_,_,_,_,zjY,hdr,hdw⟩:=HP.out;obtain⟨_,zaO,BV,YX⟩:=Vr.out;have hwl:w.heap.size<W5.heap.size:=BV.lt;have r1:IntKind.i64.wrap ((e:Int)+1)=(e1:Int):=by rw[IntWalk.i64_in _ (by omega)];omega
       have vY:zg (λj=>j=rb) W7 (W7.setCell ⟨rb,6,none⟩ (.int .i64 (e1:Int))):=zg.setCell (p:=λj=>j=rb) (zg.refl _ W7) 6 (.inl rfl) _;have hnt:¬(bt=rb∨(base≤bt∧(Value.slice og ng cg).ownBlock=some bt)):=λh=>h.elim dN (λhh=>by have:=hdw bt hh.2;omega);have hnz:¬(w.heap.size=rb∨(base≤w.heap.size∧(Value.slice og ng cg).ownBlock=some w.heap.size)):=λh=>h.elim Qu (λhh=>by have:=hdw _ hh.2;omega);have jo:=(zaO.zf qP hnt).zf vY dN;have xH:=(BV.zf qP hnz).zf vY Qu;have kS:zh (W7.setCell ⟨rb,6,none⟩ (.int .i64 (e1:Int))) rb (yT b T te ⟨Y.await,Y.body,f,e1⟩ (.slice jZ (ng+1) c') df) 97:=uJ.set 6 _;have BX:=yH Qo;have gB:=zQ vY Qo (λg hg e'=>by have h1:=BX g hg;have NQ:g=rb:=e';omega);have hcd:zx (F++ [d])=zx F++ [.string d.word,.bool d.tabs]:=by rw[Rj];rfl
       rw[←hcd]at gB;have jP:zg (λj=>j=rb∨(base≤j∧(Value.slice og ng cg).ownBlock=some j)) w (W7.setCell ⟨rb,6,none⟩ (.int .i64 (e1:Int))):=((YX.mono (λi _ h=> .inl h)).trans qP (λ_ _ h=>h)).trans vY (λ_ _ h=> .inl h);have Vx:ng+1=(F++ [d]).length:=by rw[List.length_append,←hln];rfl
       have hen':e1=(F++ [d]).length:=by rw[List.length_append,←he1,hen];rfl
       have hdz:∀g,(Value.slice jZ (ng+1) c').ownBlock=some g→g≠rb∧g≠w.heap.size:=λg hg=>by
        have h1:=BX g hg;refine⟨by omega,?_⟩;rcases Z7 g hg with q|q
        ·have:=hdw g q;omega
        ·omega
       have hown':∀g,(Value.slice jZ (ng+1) c').ownBlock=some g→(Value.slice og ng cg).ownBlock=some g∨w.heap.size≤g:=λg hg=>(Z7 g hg).imp id (λh=>by omega);have zaP:f≤e1:=by omega
       have htk:(F++ [d]).take e=F:=by rw[hen,List.take_append_of_le_length (Nat.le_refl _),List.take_length]
       have x6:W7.cell? ⟨rb,6,none⟩=some (.int .i64 (e:Int)):=uJ.cell 6;have f6:=uJ.frozen 6;have HS:=hid (And.intro hst (And.intro zaP (And.intro (Src.uT gB) (And.intro gB hdz))));have dS:=hid (And.intro Vx (And.intro hen' (And.intro hown' (And.intro htk (nU gB)))));clear hst hen hle hln he1 zjY hdr hdw zaO BV YX hnt hnz vY uJ Qo qP Z7 BX gB hcd Vx hen' hdz hown' htk xy jf uO dO vg hd0 hd3 zjV zjW x7 x7d y1d x1d y1 x1 zaP;have t0:=jo.cell 0;have t1:=jo.cell 1;have t2:=jo.cell 2;have t3:=jo.cell 3;have z0:=xH.cell 0;have z1:=xH.cell 1;have z2:=xH.cell 2;have z3:=xH.cell 3;have BD:=xH.frozen 0;have zN:=xH.frozen 1;have qm:=xH.frozen 2;have zf3:=xH.frozen 3;have H6:=hid (And.intro kS (And.intro xH jP));clear jo kS xH jP;go_wp2;obtain⟨kS,xH,jP⟩:=H6.out;obtain⟨hst,hfe,Qw,Qx,hdz⟩:=HS.out;obtain⟨hln,hen,hown',htk,hcp⟩:=dS.out;have qy:=(((xH.set 0 (.int .i64 (tk:Int))).set 1 (.int .i64 (tf:Int))).set 2 (.int .i64 (te:Int))).set 3 (.bool top);have v0:=qy.cell 0;have v1:=qy.cell 1;have v2:=qy.cell 2;have v3:=qy.cell 3;refine bodyPost_ret (v:=.agg #[.int .i64 (tk:Int),.int .i64 (tf:Int),.int .i64 (te:Int),.bool top]) (by simp[results,Tryz.results68,go_sem,v0,v1,v2,v3]) rfl ?_;rw[HT.out];rw[ha1,hb1]at kS;have yu:=BN (zt:=w.heap.size) kS Qw hln hen hfe hcp (.inr Qx) hdz Qu.symm (.int .i64 (tk:Int)) (.int .i64 (tf:Int)) (.int .i64 (te:Int)) (.bool top);refine⟨rfl,⟨(zy T a X).await,(zy T a X).body,f,e1⟩,F++ [d],jZ,ng+1,c',yu,hst,htk,rfl,rfl,?_,hown'⟩;exact zg.setCell (zg.setCell (zg.setCell (zg.setCell jP 0 (.inr (Nat.le_refl _)) _) 1 (.inr (Nat.le_refl _)) _) 2 (.inr (Nat.le_refl _)) _) 3 (.inr (Nat.le_refl _)) _
     ·have MG:¬(k2:Int)<(n6:Int):=by omega
      by_cases hpop:jq T a X=1
      ·have hlt:(n6:Int)<(k2:Int):=by omega
       obtain⟨hst,hfe⟩:=zjE (T:=T) (a:=a) (m:=⟨A,bd,f,e⟩) (F:=F) hen hle (by rw[HX.out];exact Qr.out) (by rw[HX.out];exact hpop);rw[HX.out]at hst;obtain⟨f1,hf1⟩:∃f1,f+1=f1:=⟨_,rfl⟩;replace hst:Stp T F a ⟨A,bd,f,e⟩ ⟨(zy T a X).await,(zy T a X).body,f1,e⟩:=by rw[←hf1];exact hst
       replace hfe:f1≤e:=by rw[←hf1];exact hfe
       have r1:IntKind.i64.wrap ((f:Int)+1)=(f1:Int):=by rw[IntWalk.i64_in _ (by omega)];omega
       have x5:=xy.cell 5;have f5:=xy.frozen 5;have kS:zh (W5.setCell ⟨rb,5,none⟩ (.int .i64 (f1:Int))) rb (yT b T te ⟨Y.await,Y.body,f1,e⟩ (.slice og ng cg) df) 97:=xy.set 5 _;have vY:zg (λj=>j=rb) W5 (W5.setCell ⟨rb,5,none⟩ (.int .i64 (f1:Int))):=zg.setCell (p:=λj=>j=rb) (zg.refl _ W5) 5 (.inl rfl) _;have jo:=jf.zf vY dN;have xH:=vg.zf vY Qu;have jP:=YX.trans vY (λ_ _ h=>h);have Qw:=gz.zf vY (λg hg e'=>hdr g hg e');have Qx:cg=ng∨(W5.setCell ⟨rb,5,none⟩ (.int .i64 (f1:Int))).ownsRow base 87 2 (.slice og ng cg) ng (zx F):=dR.elim .inl (λh=> .inr (zQ vY h (λg hg e'=>hdr g hg e')));have HS:=hid (And.intro hst (And.intro hfe (And.intro Qw (And.intro Qx hdz))));have dS:=hid (And.intro hcnt (And.intro hln (And.intro hen (And.intro hle hcp))));clear hf1 hst hfe Qw Qx gz dR hcnt hln hen hle hcp hpush hpop hpo hpu hnx Zc hk2 htw hok' BQ hL1 hL2 hk dP VK NS vY yZ yM YX ZM uO gq dO gu vg qU jf uP yK jb xy hb3 kR hdw hdr hdz dQ;have t0:=jo.cell 0;have t1:=jo.cell 1;have t2:=jo.cell 2;have t3:=jo.cell 3;have z0:=xH.cell 0;have z1:=xH.cell 1;have z2:=xH.cell 2;have z3:=xH.cell 3;have BD:=xH.frozen 0;have zN:=xH.frozen 1;have qm:=xH.frozen 2;have zf3:=xH.frozen 3;have H6:=hid (And.intro kS (And.intro xH jP));clear jo kS xH jP;go_wp2;obtain⟨kS,xH,jP⟩:=H6.out;obtain⟨hst,hfe,Qw,Qx,hdz⟩:=HS.out;obtain⟨hcnt,hln,hen,hle,hcp⟩:=dS.out;have qy:=(((xH.set 0 (.int .i64 (tk:Int))).set 1 (.int .i64 (tf:Int))).set 2 (.int .i64 (te:Int))).set 3 (.bool top);have v0:=qy.cell 0;have v1:=qy.cell 1;have v2:=qy.cell 2;have v3:=qy.cell 3;refine bodyPost_ret (v:=.agg #[.int .i64 (tk:Int),.int .i64 (tf:Int),.int .i64 (te:Int),.bool top]) (by simp[results,Tryz.results68,go_sem,v0,v1,v2,v3]) rfl ?_;rw[HT.out];rw[ha1,hb1]at kS;have yu:=BN (zt:=w.heap.size) kS Qw hln hen (by exact hfe) hcp Qx hdz Qu.symm (.int .i64 (tk:Int)) (.int .i64 (tf:Int)) (.int .i64 (te:Int)) (.bool top);refine⟨rfl,⟨(zy T a X).await,(zy T a X).body,f1,e⟩,F,og,ng,cg,yu,hst,by show F.take e=F;rw[hen,List.take_length],rfl,rfl,?_,λg hg=> .inl hg⟩;exact zg.setCell (zg.setCell (zg.setCell (zg.setCell (jP.mono (λi _ h=> .inl h)) 0 (.inr (Nat.le_refl _)) _) 1 (.inr (Nat.le_refl _)) _) 2 (.inr (Nat.le_refl _)) _) 3 (.inr (Nat.le_refl _)) _
      ·have hlt:¬(n6:Int)<(k2:Int):=by omega
       have hst:=zjF (T:=T) (a:=a) (m:=⟨A,bd,f,e⟩) (F:=F) hen hle (by rw[HX.out];exact Qr.out) (by rw[HX.out];omega) (by rw[HX.out];omega);rw[HX.out]at hst;have kS:zh W5 rb (yT b T te ⟨Y.await,Y.body,f,e⟩ (.slice og ng cg) df) 97:=xy;have jo:=jf;have xH:=vg;have jP:=YX;have HS:=hid (And.intro hst (And.intro trivial (And.intro gz (And.intro dR hdz))));have dS:=hid (And.intro hcnt (And.intro hln (And.intro hen (And.intro hle hcp))));clear hst gz dR hcnt hln hen hle hcp hpush hpop hpo hpu hnx Zc hk2 htw hok' BQ hL1 hL2 hk dP VK NS yZ yM YX ZM uO gq dO gu vg qU jf uP yK jb xy hb3 kR hdw hdr hdz dQ;have t0:=jo.cell 0;have t1:=jo.cell 1;have t2:=jo.cell 2;have t3:=jo.cell 3;have z0:=xH.cell 0;have z1:=xH.cell 1;have z2:=xH.cell 2;have z3:=xH.cell 3;have BD:=xH.frozen 0;have zN:=xH.frozen 1;have qm:=xH.frozen 2;have zf3:=xH.frozen 3;have H6:=hid (And.intro kS (And.intro xH jP));clear jo kS xH jP;go_wp2;obtain⟨kS,xH,jP⟩:=H6.out;obtain⟨hst,hfe,Qw,Qx,hdz⟩:=HS.out;obtain⟨hcnt,hln,hen,hle,hcp⟩:=dS.out;have qy:=(((xH.set 0 (.int .i64 (tk:Int))).set 1 (.int .i64 (tf:Int))).set 2 (.int .i64 (te:Int))).set 3 (.bool top);have v0:=qy.cell 0;have v1:=qy.cell 1;have v2:=qy.cell 2;have v3:=qy.cell 3;refine bodyPost_ret (v:=.agg #[.int .i64 (tk:Int),.int .i64 (tf:Int),.int .i64 (te:Int),.bool top]) (by simp[results,Tryz.results68,go_sem,v0,v1,v2,v3]) rfl ?_;rw[HT.out];rw[ha1,hb1]at kS;have yu:=BN (zt:=w.heap.size) kS Qw hln hen (by exact hle) hcp Qx hdz Qu.symm (.int .i64 (tk:Int)) (.int .i64 (tf:Int)) (.int .i64 (te:Int)) (.bool top);refine⟨rfl,⟨(zy T a X).await,(zy T a X).body,f,e⟩,F,og,ng,cg,yu,hst,by show F.take e=F;rw[hen,List.take_length],rfl,rfl,?_,λg hg=> .inl hg⟩;exact zg.setCell (zg.setCell (zg.setCell (zg.setCell (jP.mono (λi _ h=> .inl h)) 0 (.inr (Nat.le_refl _)) _) 1 (.inr (Nat.le_refl _)) _) 2 (.inr (Nat.le_refl _)) _) 3 (.inr (Nat.le_refl _)) _
end
end Go.Proofs.YtdjcidackkogjaaGreatDoor

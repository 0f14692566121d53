/- What an iterator of pieces yields (between$1 of la -/
import Derived.Laws.EntriesVeiled
import Derived.Test.YtkolpaonccmgiaaGreatDoorLp
namespace Go.Proofs.YtkolpaonccmgiaaGreatDoor
set_option linter.unusedSectionVars false
set_option linter.unusedVariables false
open Go.Proofs.Tryz
open _root_.Nat renaming le_refl->waa,zero_le->wab
open _root_.ByteArray renaming empty->war,size_append->wat
open Lib(hid)
set_option maxHeartbeats 8000000
set_option maxRecDepth 100000
open Go.RowKit Go.Shelf
attribute [local go_sem] Oper.semAt_some
def RH(mb:Nat)(L:List Pc)(w:World)(e:Ending)(w':World):Prop:=
 ∃(gf:Nat) (lb:Array Value) (C':Nat->Prop),e=.returned (.func (.func gf) #[] lb)/\Below w.heap.size w w'/\(∀args W,(callFunc gf args).run prog W=.ok (.enter gf args) W)/\(∀b,C' b->b<w'.heap.size/\(b=mb\/w.heap.size<=b))/\
  ∀(n:Nat) (W:World),1<=n->Below w'.heap.size w' W->Yw n prog gf lb Y3 C' L W
def lu(zi:Bool)(h:ByteArray)(pin:List Pc):List Pc:=if pin=[]then []else fl zi h false++pin
def hIn(h:ByteArray)(pin:List Pc):ByteArray:=if pin=[]then h else war
def lC(s:ByteArray)(zi:Bool)(e:Nat)(J:List Pc->(Nat->Prop)->World->Prop)(B0 Bp Bw By Bl Bd Bt Br mb l:Nat)(h:ByteArray)(pre:List Pc)(ds:List Deferred)(z:Nat)(C':Nat->Prop)(pin:List Pc)(yK:Nat->Prop)(W:World):Prop:=
 ∃T,J (pre++lu zi h pin) T W/\V7 B0 Bp Bw By Bl Bd l W (hIn h pin) false T (λb=>yK b\/b=z\/b=z+1)/\Cap W Bd Bt Br mb s zi e/\qO ds W T (λb=>yK b\/b=z\/b=z+1)/\(∀b,yK b->T b)/\T z/\T (z+1)/\(∀b,C' b->b=mb\/T b)/\(∀b,Zd Bd Bt Br mb b->¬yK b/\b<z)
def SA(Jx:List Pc->(Nat->Prop)->World->Prop)(ds:List Deferred)(z:Nat)(c:Code)(pin:List Pc)(yK:Nat->Prop)(W:World):Prop:=
 c=.ret/\∃T,(∃pp,Jx pp T W)/\qO ds W T (λb=>yK b\/b=z\/b=z+1)/\(∀b,yK b->T b)/\T z/\T (z+1)
theorem lC.Ze{s:ByteArray}{zi:Bool}{e:Nat}{J:List Pc->(Nat->Prop)->World->Prop}{B0 Bp Bw By Bl Bd Bt Br mb l:Nat}{h:ByteArray}{pre:List Pc}{ds:List Deferred}{z:Nat}{C':Nat->Prop}(hJ:Y4 J):Yx (z+1) (lC s zi e J B0 Bp Bw By Bl Bd Bt Br mb l h pre ds z C'):=by
 rintro pin yK W W' QI ⟨T,h1,h2,h3,h4,h5,h6,h7,h8,h9⟩ hf hT;have hsub:∀b,b<W.heap.size->(QI b\/b=z\/b=z+1)->(yK b\/b=z\/b=z+1):=by
  intro b hb hh;rcases hh with hh|hh
  ·rcases hT b hh with g|g
   ·exact .inl g
   ·omega
  ·exact .inr hh
 have hpp:∀b,b<W.heap.size->T b->(yK b\/b=z+1)->(yK b\/b=z\/b=z+1):=λb _ _ hh=>by rcases hh with g|g;exact .inl g;exact .inr (.inr g)
 refine⟨λb=>T b\/W.heap.size<=b,hJ _ T W W' _ h1 (hf.mono (λb _ hb=>by rcases hb with g|g;exact h5 b g;subst g;exact h7)) (λb hb=>hb),h2.zh hf hpp (λb _ hb=> .inl hb) hsub,h3.zh hf (λb hb hp=>?_),h4.zh hf hpp (λb _ hb=> .inl hb) hsub,?_,.inl h6,.inl h7,λb hb=>(h8 b hb).imp id .inl,λb hb=>⟨λhh=>?_,(h9 b hb).2⟩⟩
 ·rcases hp with g|g
  ·exact(h9 b hb).1 g
  ·have:=(h9 b hb).2;omega
 ·intro b hb
  rcases hT b hb with g|g
  ·exact .inl (h5 b g)
  ·exact .inr g
 ·rcases hT b hh with g|g
  ·exact(h9 b hb).1 g
  ·have:=h3.lt b hb;omega
theorem SA.Ze{Jx:List Pc->(Nat->Prop)->World->Prop}{ds:List Deferred}{z:Nat}(hJ:Y4 Jx)(c:Code):Yx (z+1) (SA Jx ds z c):=by
 rintro pin yK W W' QI ⟨rfl,T,⟨pp,h1⟩,h4,h5,h6,h7⟩ hf hT;have hsub:∀b,b<W.heap.size->(QI b\/b=z\/b=z+1)->(yK b\/b=z\/b=z+1):=by
  intro b hb hh;rcases hh with hh|hh
  ·rcases hT b hh with g|g
   ·exact .inl g
   ·omega
  ·exact .inr hh
 have hpp:∀b,b<W.heap.size->T b->(yK b\/b=z+1)->(yK b\/b=z\/b=z+1):=λb _ _ hh=>by rcases hh with g|g;exact .inl g;exact .inr (.inr g)
 refine⟨rfl,λb=>T b\/W.heap.size<=b,⟨pp,hJ _ T W W' _ h1 (hf.mono (λb _ hb=>by rcases hb with g|g;exact h5 b g;subst g;exact h7)) (λb hb=>hb)⟩,h4.zh hf hpp (λb _ hb=> .inl hb) hsub,?_,.inl h6,.inl h7⟩;intro b hb;rcases hT b hb with g|g
 ·exact .inl (h5 b g)
 ·exact .inr g
structure KY(s:ByteArray)(zi:Bool)(e:Nat)(sub:Nat->List Pc)(L:List Pc)(uu:Nat->Prop)(J:List Pc->(Nat->Prop)->World->Prop)(B0 Bp Bw By Bl Bd Bt Br mb l:Nat)(a:Nat)(h:ByteArray)(wv:Bool)(pre:List Pc)(T:Nat->Prop)(ds:List Deferred)(wr:World):Prop where
 hL:L=pre++Rm s zi sub e a h wv
 hJ:J pre T wr
 st:V7 B0 Bp Bw By Bl Bd l wr h wv T (λ_=>False)
 cap:Cap wr Bd Bt Br mb s zi e
 RI:qO ds wr T (λ_=>False)
 ha:a<=s.size
 hr:uu a
 hh:h.size<=a
section
variable{s:ByteArray}{zi:Bool}{e:Nat}{sub:Nat->List Pc}{L:List Pc}{uu:Nat->Prop}{J:List Pc->(Nat->Prop)->World->Prop}{B0 Bp Bw By Bl Bd Bt Br mb l a:Nat}{h:ByteArray}{wv:Bool}{pre:List Pc}{T:Nat->Prop}{ds:List Deferred}{wr W1 W3:World}
theorem KY.below(hJ:Y4 J)(I:KY s zi e sub L uu J B0 Bp Bw By Bl Bd Bt Br mb l a h wv pre T ds wr)(hb:Below wr.heap.size wr W1):KY s zi e sub L uu J B0 Bp Bw By Bl Bd Bt Br mb l a h wv pre (λb=>T b\/wr.heap.size<=b) ds W1:=
 ⟨I.hL,hJ.below I.hJ hb (λb h=>h),I.st.zh (p:=λ_=>False) (zg.of_below hb) (λ_ _ _ h=>h) (λ_ _ h=> .inl h) (λ_ _ h=>h),I.cap.zh (p:=λ_=>False) (zg.of_below hb) (λ_ _ h=>h),I.RI.zh (p:=λ_=>False) (zg.of_below hb) (λ_ _ _ h=>h) (λ_ _ h=> .inl h) (λ_ _ h=>h),I.ha,I.hr,I.hh⟩
theorem KY.put(hJ:Y4 J)(I:KY s zi e sub L uu J B0 Bp Bw By Bl Bd Bt Br mb l a h wv pre T ds wr){v v':Value}(hv:zf wr Bp #[v] 127)(hrow:wr.ownsRow B0 5 1 v h.size (Lib.strCells h))(Xr:∀g,v.ownBlock=some g->T g)
 (hne:Bp≠Bw/\Bp≠By/\Bp≠Bl)(hB0:B0<=Bp)(lq:∀b,Zd Bd Bt Br mb b->b<B0)(hf:zg (λb=>b=Bp\/v.ownBlock=some b) wr W3){a2:Nat}{h2:ByteArray}
 (h1:zf W3 Bp #[v'] 127)(h3:W3.ownsRow B0 5 1 v' h2.size (Lib.strCells h2))(h4:∀g,v'.ownBlock=some g->v.ownBlock=some g\/wr.heap.size<=g)
 (hL:Rm s zi sub e a h wv=Rm s zi sub e a2 h2 wv)(ha2:a2<=s.size)(hr2:uu a2)(hh2:h2.size<=a2):
  KY s zi e sub L uu J B0 Bp Bw By Bl Bd Bt Br mb l a2 h2 wv pre (λb=>T b\/wr.heap.size<=b) ds W3:=by
 have tp:∀{b:Nat} {cs:Array Value} {t:TypeId},zf wr b cs t->t≠5->¬v.ownBlock=some b:=by
  intro b cs t hb ht e2;rcases hrow.2 with⟨g1,_⟩|⟨g,cap,cur,g1,_,g3,_⟩
  ·rw[g1]at e2;cases e2
  ·rw[g1]at e2
   have e':g=b:=by simpa[Value.ownBlock]using e2
   subst e';rw[show wr.heap[g]?=_ from hb]at g3;injection g3 with g3;injection g3 with _ g5 _;exact ht g5
 have RG:∀b,(b=Bp\/v.ownBlock=some b)->T b:=by
  rintro b (rfl|hb)
  ·exact(I.st.own b (.inl rfl)).1
  ·exact Xr b hb
 have hW:zf W3 Bw #[.bool wv] 4:=I.st.w.zh hf (λh=>by rcases h with h|h;exact hne.1 h.symm;exact tp I.st.w (by decide) h);have hY:zf W3 By _ 207:=I.st.y.zh hf (λh=>by rcases h with h|h;exact hne.2.1 h.symm;exact tp I.st.y (by decide) h);have hF:zf W3 Bl _ 23:=I.st.f.zh hf (λh=>by rcases h with h|h;exact hne.2.2 h.symm;exact tp I.st.f (by decide) h);refine⟨by rw[←hL];exact I.hL,hJ pre T wr W3 _ I.hJ (hf.mono (λb _ hb=>RG b hb)) (λb h=>h),⟨⟨v',h1,h3,λg hg=>⟨?_,λh=>h⟩⟩,hW,hY,hF,λb hb=>⟨.inl (I.st.own b hb).1,λh=>h⟩⟩,?_,?_,ha2,hr2,hh2⟩
 ·rcases h4 g hg with h|h
  ·exact .inl (Xr g h)
  ·exact .inr h
 ·refine I.cap.zh hf (λb hb h=>?_)
  have:=lq b hb;rcases h with rfl|h
  ·omega
  ·have:=xx hrow b h
   omega
 ·obtain⟨Ds,e1,e2,e3⟩:=I.RI
  refine⟨Ds,e1,e2,λD hD=>?_⟩;obtain⟨d1,d2,d3⟩:=e3 D hD;refine⟨.inl d1,λh=>h,(hf.block D (Array.getElem?_eq_some_iff.1 d3).1 (λh=>?_)).trans d3⟩;rcases h with rfl|h
  ·rw[show wr.heap[D]?=_ from hv]at d3;cases d3
  ·rcases hrow.2 with⟨g1,_⟩|⟨g,cap,cur,g1,_,g3,_⟩
   ·rw[g1]at h;cases h
   ·rw[g1]at h
    have e':g=D:=by simpa[Value.ownBlock]using h
    subst e';rw[d3]at g3;cases g3
end
theorem zeb(h:ByteArray){s:ByteArray}{a bb:Nat}(ha:a<s.size)(hb:by8 s a=bb):Lib.strCells (h++s.extract a (a+1))=Lib.strCells h++ [Value.int .u8 (bb:Int)]:=by
 have e:(s.extract a (a+1)).data.toList=[bt s a]:=by
  rw[zT ha];have h1:a<s.data.size:=ha;simp only[ByteArray.data_extract,Array.toList_extract,List.extract_eq_take_drop,Nat.add_sub_cancel_left];rw[List.drop_eq_getElem_cons (by simpa using h1)];rfl
 subst hb;unfold by8;simp only[Lib.strCells,ByteArray.data_append,Array.toList_append,List.map_append,e];rfl
theorem zec{P:Program}{c:Code}{K:Act->World->Prop}{Q:Exit->Act->World->Prop}{a:Act}{w:World}(h:c.wp P (Exit.then K (λ_ _ _=>False)) a w):c.wp P (Exit.then K Q) a w:=by
 refine wp_mono h ?_;intro e a' w' hq
 cases e with
 |normal=>exact hq
 |exit id=>exact hq.elim
 |goto l=>exact hq.elim
 |ret=>exact hq.elim
 |panic ch=>exact hq.elim
 |outgrown=>exact hq.elim
theorem ak{w:World}{base n Bp:Nat}{v x:Value}{xs:List Value}(h:w.ownsRow base 5 1 v n xs)(hv:zf w Bp #[x] 127):some Bp≠v.ownBlock:=λe2=>by
 rcases h.2 with⟨g1,_⟩|⟨g,cap,cur,g1,_,g3,_⟩
 ·rw[g1]at e2;cases e2
 ·rw[g1]at e2
  have e':g=Bp:=by simpa[Value.ownBlock]using e2.symm
  subst e';rw[show w.heap[g]?=_ from hv]at g3;injection g3 with g3;injection g3 with _ g5 _;exact absurd g5 (by decide)
theorem au{s:ByteArray}{p:zQ}{zi:Bool}{X:ByteArray}(h:yG s p zi=(if true=true then some X else none)):X.size<=p.to-p.zh:=by
 simp at h;unfold yG at h;have e1:(s.extract p.zh p.to).size<=p.to-p.zh:=by simp;omega
 have e2:(s.extract (p.zh+1) p.to).size<=p.to-p.zh:=by simp;omega
 repeat' split at h
 all_goals first|(cases h;done)|(injection h with h;rw[←h];first|exact e1|exact e2|exact wab _)
theorem ax:(prog.info? 5).map (λi=>(i.zero,i.size,i.bytes))=some (some (.int .u8 0),1,1):=by kernel_rfl
theorem zed{ops:Array Oper}{o:Oper}{a:Act}{w:World}{K:Act->World->Prop}{Q:Exit->Act->World->Prop}{E:Prop}(hgd:o.guard=none)(s x:Operand)
 (ho:o.op=.call {callee:=.builtin .append,args:=#[s,x],argTypes:=#[127,127]})
 (B0 z:Nat)(v:Value)(yI:List Value)(hs:a.eval s=v)(hown:w.ownsRow B0 5 1 v z yI)(hB:B0<=w.heap.size)(b c:Nat)
 (hx:a.eval x=.slice (some ⟨b,0,none⟩) 1 1)(hb:zf w b #[.int .u8 (c:Int)] 5)(hl:z<=1000000)
 (h:∀g' c' w',w'.ownsRow B0 5 1 (.slice (some ⟨g',0,none⟩) (z+1) c') (z+1) (yI++ [.int .u8 (c:Int)])->w.grownBy w' v.ownBlock->(some g'=v.ownBlock\/g'=w.heap.size)->K (a.put o.dst (.slice (some ⟨g',0,none⟩) (z+1) c')) w'):
  if Region.wanted o (yielded ops a.tmps)=true then Oper.wp prog o a w K Q else E:=by
 have hw:Region.wanted o (yielded ops a.tmps)=true:=by simp[Region.wanted,hgd]
 rw[if_pos hw];obtain⟨i,hi,hz,hsize,hby⟩:=info_parts ax;have hnews:∀j u,[Value.int .u8 (c:Int)][j]?=some u->w.cell? ((⟨b,0,none⟩:Addr).add j)=some u:=by
  intro j u hj;rw[Addr.add_lit,hb.cell,Nat.zero_add];simpa using hj
 obtain⟨v',w',hr',h2,h3,h4,h5⟩:=run_append_own_at (P:=prog) w B0 127 o.type 5 i _ 1 1 underlying127 hi hz hsize hby rfl (by omega) _ z yI hown ⟨b,0,none⟩ 1 1 [.int .u8 (c:Int)] rfl hnews
  (by intro u hu;simp at hu;subst hu;rfl) (by unfold maxLen;omega) (by omega) hB
 unfold Oper.wp execOp;simp only[ho,resolve,invoke,builtin,Sem.run_bind,Sem.run_pure,Result.andThen_ok,List.map_toArray,List.map_cons,List.map_nil,hs,hx,hr'];rcases h2.2 with⟨hv,hn⟩|⟨g',c',cur,hv,h6⟩
 ·omega
 ·subst hv
  refine h g' c' w' h2 h3 ?_;rcases h5 with h5|h5
  ·exact .inl h5
  ·exact .inr (by simpa[Value.ownBlock]using h5)
theorem ay{ops:Array Oper}{rest:List Oper}{o:Oper}{a:Act}{Q:Exit->Act->World->Prop}{w:World}(hgd:o.guard=none)(s x:Operand)
 (ho:o.op=.call {callee:=.builtin .append,args:=#[s,x],argTypes:=#[127,9]})
 (B0 z:Nat)(v:Value)(yI:List Value)(X:ByteArray)(hs:a.eval s=v)(hx:a.eval x=.string X)(hown:w.ownsRow B0 5 1 v z yI)(hB:B0<=w.heap.size)(hl:z<=1000000)(hX:X.size<=1000000)
 (h:∀xC oc' w',w'.ownsRow B0 5 1 (.slice xC (z+X.size) oc') (z+X.size) (yI++Lib.strCells X)->w.grownBy w' v.ownBlock->((Value.slice xC (z+X.size) oc').ownBlock=v.ownBlock\/(Value.slice xC (z+X.size) oc').ownBlock=some w.heap.size)->wpList prog ops Q rest (a.put o.dst (.slice xC (z+X.size) oc')) w'):
  wpList prog ops Q (o::rest) a w:=by
 refine wpList_plain hgd λK hK=>?_;obtain⟨i,hi,hz,hsize,hby⟩:=info_parts ax;obtain⟨v',w',hr,h2,h3,h4⟩:=Lib.run_append_own_string (P:=prog) w B0 127 9 o.type 5 i underlying127 underlying9 hi hz hsize hby v z yI hown X (by unfold maxLen;omega) (by omega) hB;have hv:∃xC oc',v'=.slice xC (z+X.size) oc':=by
  rcases h2.2 with⟨e,e2⟩|⟨g,cap,cur,e,_⟩
  ·exact⟨none,0,by rw[e,e2]⟩
  ·exact⟨_,_,e⟩
 have hat:v'.ownBlock=v.ownBlock\/v'.ownBlock=some w.heap.size:=by
  rcases hown.2 with⟨rfl,rfl⟩|⟨g,cap,cur,rfl,hbg,hg,hnc,hcm,hcs,htake⟩
  ·by_cases hm:X.size=0
   ·left;rw[h4.2 ⟨rfl,hm⟩]
   ·right
    have:=run_append_nil_string (P:=prog) w 127 9 o.type 5 i (.int .u8 0) underlying127 underlying9 hi hz X (by omega) (by omega) (by rw[hby];omega);rw[hr]at this;injection this with e1 _;rw[e1];rfl
  ·by_cases hroom:z+X.size<=cap
   ·left
    have:=Lib.run_append_room_string (P:=prog) w 127 9 o.type 5 i underlying127 underlying9 hi hsize g z cap cur hg X hroom (by omega);rw[hr]at this;injection this with e1 _;rw[e1];rfl
   ·right
    have holds:∀j u,yI[j]?=some u->w.cell? ((⟨g,0,none⟩:Addr).add j)=some u:=hown.cells (g:=g) rfl;have:=Lib.run_append_grow_string (P:=prog) w 127 9 o.type 5 i (.int .u8 0) underlying127 underlying9 hi hz ⟨g,0,none⟩ z cap yI (by rw[hsize];exact hown.1) holds X (by omega) (by omega) (by rw[hby];exact growslice_fits (by omega) (by omega));rw[hr]at this;injection this with e1 _;rw[e1];rfl
 obtain⟨xC,oc',rfl⟩:=hv;unfold Oper.wp execOp;simp only[ho,resolve,invoke,builtin,Sem.run_bind,Sem.run_pure,Result.andThen_ok,List.map_toArray,List.map_cons,List.map_nil,hs,hx,hr];exact hK _ _ (h xC oc' w' h2 h3 hat)
theorem aA(n:Nat)(hn:3<=n)(s:ByteArray)(hs:s.size<=60000)(zi:Bool)(f0 e:Nat)(hf0:f0<=s.size)(he:e<=s.size)(sub:Nat->List Pc)(uu:Nat->Prop)(hR0:uu f0)(hR1:∀a,uu a->a<e->born s a=false->uu (a+1))(hR2:∀a,uu a->a<e->born s a=true->uu (prt s a).to)
 (mb Bd Bf Bt Br:Nat)(W:World)(hcap:Cap W Bd Bt Br mb s zi e)(hbf:zf W Bf #[.int .i64 (f0:Int)] 3)
 (hsub:∀a,sub a≠ [])
 (hT:∀a w,uu a->a<e->born s a=true->yG s (prt s a) zi=none->GY w mb s->
   Calls prog 230 #[.agg #[.string s,.map (some mb)],.agg #[.int .i64 ((prt s a).mode:Int),.int .i64 ((prt s a).zh:Int),.int .i64 ((prt s a).to:Int),.int .i64 (prt s a).up,.bool (prt s a).op],.bool zi] w (RH mb (sub a) w)):
  Yw n prog 227 #[.pointer (some ⟨Bd,0,none⟩),.pointer (some ⟨Bf,0,none⟩),.pointer (some ⟨Bt,0,none⟩),.pointer (some ⟨Br,0,none⟩)] Y3 (Zd Bd Bt Br mb) (Rm s zi sub e f0 war zi) W:=by
 intro l J Jx hJ hJx hY hJ0;obtain⟨L,GZ⟩:∃L,Rm s zi sub e f0 war zi=L:=⟨_,rfl⟩;rw[GZ]at hY ⊢;have HJ:=hid hJ;have Sr:=hid hJx;have HY:=hid hY;have HT:=hid hT;have HCAP:=hid hcap;have HR1:=hid hR1;have HR2:=hid hR2;have V8:=hid hsub;have kL:=hid GZ;have mD:=hid hJ0;have cd:=hcap.d.cell 0;have cf:=hbf.cell 0;have ld:=hcap.d.lt;have lf:=hbf.lt;have hfn:Fence.wide.fn 227:=trivial;clear hJ hJx hY hT hcap hR1 hR2 hsub GZ hJ0 hbf;refine callsIn_of_wp_marks func227 rfl hfn ?_ rfl;refine wpIn_wide.2 ?_;have hb3:=zf.new (((W.alloc (.cells #[.func (.yield l) #[] #[]] 207)).alloc (.cells #[.slice none 0 0] 127)).alloc (.cells #[.bool zi] 4)) #[.nilFunc] 23;have yB:=(((zf.new W #[.func (.yield l) #[] #[]] 207).alloc (.cells #[.slice none 0 0] 127)).alloc (.cells #[.bool zi] 4)).alloc (.cells #[(Value.func (.func 228) #[] #[.pointer (some ⟨W.heap.size+1,0,none⟩),.pointer (some ⟨W.heap.size+1+1,0,none⟩),.pointer (some ⟨W.heap.size,0,none⟩),.pointer (some ⟨Bd,0,none⟩)])] 23);have pB:=((zf.new (W.alloc (.cells #[.func (.yield l) #[] #[]] 207)) #[.slice none 0 0] 127).alloc (.cells #[.bool zi] 4)).alloc (.cells #[(Value.func (.func 228) #[] #[.pointer (some ⟨W.heap.size+1,0,none⟩),.pointer (some ⟨W.heap.size+1+1,0,none⟩),.pointer (some ⟨W.heap.size,0,none⟩),.pointer (some ⟨Bd,0,none⟩)])] 23);have wB:=(zf.new ((W.alloc (.cells #[.func (.yield l) #[] #[]] 207)).alloc (.cells #[.slice none 0 0] 127)) #[.bool zi] 4).alloc (.cells #[(Value.func (.func 228) #[] #[.pointer (some ⟨W.heap.size+1,0,none⟩),.pointer (some ⟨W.heap.size+1+1,0,none⟩),.pointer (some ⟨W.heap.size,0,none⟩),.pointer (some ⟨Bd,0,none⟩)])] 23);have fB:=zf.new (((W.alloc (.cells #[.func (.yield l) #[] #[]] 207)).alloc (.cells #[.slice none 0 0] 127)).alloc (.cells #[.bool zi] 4)) #[(Value.func (.func 228) #[] #[.pointer (some ⟨W.heap.size+1,0,none⟩),.pointer (some ⟨W.heap.size+1+1,0,none⟩),.pointer (some ⟨W.heap.size,0,none⟩),.pointer (some ⟨Bd,0,none⟩)])] 23;have hB0:Below W.heap.size W ((((W.alloc (.cells #[.func (.yield l) #[] #[]] 207)).alloc (.cells #[.slice none 0 0] 127)).alloc (.cells #[.bool zi] 4)).alloc (.cells #[(Value.func (.func 228) #[] #[.pointer (some ⟨W.heap.size+1,0,none⟩),.pointer (some ⟨W.heap.size+1+1,0,none⟩),.pointer (some ⟨W.heap.size,0,none⟩),.pointer (some ⟨Bd,0,none⟩)])] 23)):=((((Below.refl _ W).alloc (waa _) _).alloc (by simp) _).alloc (by simp;omega) _).alloc (by simp;omega) _;have hz0:((((W.alloc (.cells #[.func (.yield l) #[] #[]] 207)).alloc (.cells #[.slice none 0 0] 127)).alloc (.cells #[.bool zi] 4)).alloc (.cells #[(Value.func (.func 228) #[] #[.pointer (some ⟨W.heap.size+1,0,none⟩),.pointer (some ⟨W.heap.size+1+1,0,none⟩),.pointer (some ⟨W.heap.size,0,none⟩),.pointer (some ⟨Bd,0,none⟩)])] 23)).heap.size=W.heap.size+1+1+1+1:=by simp
 simp only[World.size_alloc]at hb3 pB wB fB;have hs3:=hb3.cell 0;have hs4:=hb3.frozen 0;simp only[ntmps227,List.size_toArray,List.length_cons,List.length_nil,Nat.reduceAdd,Nat.reduceSub,Array.replicate_succ,Array.replicate_zero,List.push_toArray,List.append_toArray,List.nil_append,List.cons_append];go_wp2
 go_step3
 go_wp2;clear hs3 hs4 hb3 cd ld;obtain⟨W0,hW0⟩:∃X,(((W.alloc (.cells #[.func (.yield l) #[] #[]] 207)).alloc (.cells #[.slice none 0 0] 127)).alloc (.cells #[.bool zi] 4)).alloc (.cells #[(Value.func (.func 228) #[] #[.pointer (some ⟨W.heap.size+1,0,none⟩),.pointer (some ⟨W.heap.size+1+1,0,none⟩),.pointer (some ⟨W.heap.size,0,none⟩),.pointer (some ⟨Bd,0,none⟩)])] 23)=X:=⟨_,rfl⟩;rw[hW0]at yB pB wB fB hB0 hz0 ⊢;clear hW0;obtain⟨By,qp⟩:∃x,W.heap.size=x:=⟨_,rfl⟩;rw[qp]at yB pB wB fB hB0 hz0 ⊢;obtain⟨Bp,aB⟩:∃x,By+1=x:=⟨_,rfl⟩;rw[aB]at pB wB fB hz0 ⊢;obtain⟨Bw,hBw⟩:∃x,Bp+1=x:=⟨_,rfl⟩;rw[hBw]at wB fB hz0 ⊢;obtain⟨Bl,hBl⟩:∃x,Bw+1=x:=⟨_,rfl⟩;rw[hBl]at fB hz0 ⊢;have hcap0:Cap W0 Bd Bt Br mb s zi e:=HCAP.out.same (λb hb=>hB0.block b (by have:=HCAP.out.lt b hb;omega));have hInv:KY s zi e sub L uu J By Bp Bw By Bl Bd Bt Br mb l f0 war zi [] (λb=>By<=b/\b<W0.heap.size) [] W0:=by
  refine⟨kL.out.symm,?_,⟨⟨_,pB,World.ownsRow_nil _ _ _ _,λg hg=>by cases hg⟩,wB,yB,fB,?_⟩,hcap0,qO.nil _ _ _,hf0,hR0,wab _⟩
  ·exact HJ.out.below mD.out (qp▸hB0) (λb hb=> .inr (by rw[qp];exact hb.1))
  ·intro b hb
   refine⟨?_,λh=>h⟩;show By<=b/\b<W0.heap.size;omega
 have hne:(Bp≠Bw/\Bp≠By/\Bp≠Bd)/\(Bw≠By/\Bw≠Bd)/\(Bp≠Bw/\Bp≠By/\Bp≠Bl)/\By<=Bp/\Bw≠Bl/\By<Bw:=by
  have:=HCAP.out.lt Bd (.inl rfl);omega
 have lq:∀b,Zd Bd Bt Br mb b->b<By:=λb hb=>by have:=HCAP.out.lt b hb;omega
 have G5:=hid lq;have jF:=hid hne;have cf0:W0.cell? ⟨Bf,0,none⟩=some (.int .i64 (f0:Int)):=(hB0.cell (p:=⟨Bf,0,none⟩) (by rw[←qp];exact lf)).trans cf;have zee:=hid hInv;clear hInv lq hcap0 yB pB wB fB hB0 hz0 aB hBw hBl mD kL HCAP cf lf
 go_step3
 go_wp2;refine wp_loop (λa' wr=>∃(ds:List Deferred) (a:Nat) (h:ByteArray) (wv:Bool) (pre:List Pc) (T:Nat->Prop) (u10 u11 u12 u13 u14 aC aF u20 u21 u22 u23 u24 u25 u26 u27 u28 u29 u30 u31 u32 u33 u34 u35 u36 u37 u38 aG u40 aH u42 aI u44 u45 u46 aJ u48 u49 aK u51 aN u53 aO u55 aP aQ u58 u59 u60 u61 aS u63 u64 aT:Value),a'={tmps:=#[.func (.yield l) #[] #[],.pointer (some ⟨Bd,0,none⟩),.pointer (some ⟨Bf,0,none⟩),.pointer (some ⟨Bt,0,none⟩),.pointer (some ⟨Br,0,none⟩),.pointer (some ⟨By,0,none⟩),.pointer (some ⟨Bp,0,none⟩),.pointer (some ⟨Bw,0,none⟩),.pointer (some ⟨Bl,0,none⟩),.int .i64 (a:Int),u10,u11,u12,u13,u14,.bool zi,.func (.func 228) #[] #[.pointer (some ⟨Bp,0,none⟩),.pointer (some ⟨Bw,0,none⟩),.pointer (some ⟨By,0,none⟩),.pointer (some ⟨Bd,0,none⟩)],.int .i64 (f0:Int),aC,aF,u20,u21,u22,u23,u24,u25,u26,u27,u28,u29,u30,u31,u32,u33,u34,u35,u36,u37,u38,aG,u40,aH,u42,aI,u44,u45,u46,aJ,u48,u49,aK,u51,aN,u53,aO,u55,aP,aQ,u58,u59,u60,u61,aS,u63,u64,aT,undef,undef],defers:=ds}/\KY s zi e sub L uu J By Bp Bw By Bl Bd Bt Br mb l a h wv pre T ds wr)
  (λa' _=>e-(intOf (a'.tmps.getD 9 undef)).toNat) ?_ ?_
 ·refine⟨[],f0,war,zi,[],(λb=>By<=b/\b<W0.heap.size),?_⟩
  (repeat apply Exists.intro)
  refine⟨rfl,zee.out⟩
 ·intro a' wr hx
  obtain⟨ds,a,h,wv,pre,T,hx⟩:=hx;obtain⟨u10,hx⟩:=hx;obtain⟨u11,hx⟩:=hx;obtain⟨u12,hx⟩:=hx;obtain⟨u13,hx⟩:=hx;obtain⟨u14,hx⟩:=hx;obtain⟨aC,hx⟩:=hx;obtain⟨aF,hx⟩:=hx;obtain⟨u20,hx⟩:=hx;obtain⟨u21,hx⟩:=hx;obtain⟨u22,hx⟩:=hx;obtain⟨u23,hx⟩:=hx;obtain⟨u24,hx⟩:=hx;obtain⟨u25,hx⟩:=hx;obtain⟨u26,hx⟩:=hx;obtain⟨u27,hx⟩:=hx;obtain⟨u28,hx⟩:=hx;obtain⟨u29,hx⟩:=hx;obtain⟨u30,hx⟩:=hx;obtain⟨u31,hx⟩:=hx;obtain⟨u32,hx⟩:=hx;obtain⟨u33,hx⟩:=hx;obtain⟨u34,hx⟩:=hx;obtain⟨u35,hx⟩:=hx;obtain⟨u36,hx⟩:=hx;obtain⟨u37,hx⟩:=hx;obtain⟨u38,hx⟩:=hx;obtain⟨aG,hx⟩:=hx;obtain⟨u40,hx⟩:=hx;obtain⟨aH,hx⟩:=hx;obtain⟨u42,hx⟩:=hx;obtain⟨aI,hx⟩:=hx;obtain⟨u44,hx⟩:=hx;obtain⟨u45,hx⟩:=hx;obtain⟨u46,hx⟩:=hx;obtain⟨aJ,hx⟩:=hx;obtain⟨u48,hx⟩:=hx;obtain⟨u49,hx⟩:=hx;obtain⟨aK,hx⟩:=hx;obtain⟨u51,hx⟩:=hx;obtain⟨aN,hx⟩:=hx;obtain⟨u53,hx⟩:=hx;obtain⟨aO,hx⟩:=hx;obtain⟨u55,hx⟩:=hx;obtain⟨aP,hx⟩:=hx;obtain⟨aQ,hx⟩:=hx;obtain⟨u58,hx⟩:=hx;obtain⟨u59,hx⟩:=hx;obtain⟨u60,hx⟩:=hx;obtain⟨u61,hx⟩:=hx;obtain⟨aS,hx⟩:=hx;obtain⟨u63,hx⟩:=hx;obtain⟨u64,hx⟩:=hx;obtain⟨aT,hx⟩:=hx;obtain⟨hx,I⟩:=hx;subst hx;try dsimp only
  have ct:=I.cap.t.cell 0;have RJ:=I.cap.r.cell 0;have mF:=I.cap.r.cell 1;have cd:=I.cap.d.cell 0;have HI:=hid I;have hal:=I.ha;clear I;by_cases hlt:a<e
  ·have hlt2:(a:Int)<(e:Int):=by omega
   have hm:=HI.out.cap.m
   cases hbn:born s a with
   |false=>
    have ZJ:=hid hbn;clear hbn
    go_wp2_with (at_lookup;refine zd7 rfl _ _ rfl rfl hm a rfl (by omega) ZJ ?_)
    have hI1:=HI.out.below HJ.out (W1:=wr.alloc (.cells #[.int .i64 0,.int .i64 0,.int .i64 0,.int .i64 0,.bool false] 136)) ((Below.refl _ _).alloc (waa _) _);obtain⟨W1,hW1⟩:∃X,wr.alloc (.cells #[.int .i64 0,.int .i64 0,.int .i64 0,.int .i64 0,.bool false] 136)=X:=⟨_,rfl⟩;rw[hW1]at hI1 ⊢;clear hW1 ct RJ mF cd hm;have RJ:=hI1.cap.r.cell 0;obtain⟨v,hv,hrow,Xr⟩:=hI1.st.p;obtain⟨oa,oc,rfl⟩:∃oa oc,v=.slice oa h.size oc:=by
     rcases hrow.2 with⟨h1,h2⟩|⟨g,cap,cur,h1,_⟩
     ·exact⟨none,0,by rw[h1,h2]⟩
     ·exact⟨_,_,h1⟩
    obtain⟨z,hz⟩:∃z,h.size=z:=⟨_,rfl⟩;have HZ:=hid hz;rw[hz]at hrow hv Xr;have cp:=hv.cell 0;have fp:=hv.frozen 0;have lp:=hv.lt;have lr:=hI1.cap.r.lt;have hzl:z<=60000:=by have:=HI.out.hh;omega
    obtain⟨bb,hbb⟩:∃bb,by8 s a=bb:=⟨_,rfl⟩;have Va:=hid hbb;have has:a<s.size:=by omega
    have zoc:(a:Int)<(s.size:Int):=by omega
    have zod:(0:Int)<=(a:Int):=by omega
    have hix:∀hh:a<s.size,(s[a]'hh).toNat=bb:=λhh=>by rw[←hbb];unfold by8;rw[zT hh]
    have aU:By<=W1.heap.size:=by have:=hI1.st.y.lt;omega
    have hB2:∀o,By<=(W1.alloc o).drew.heap.size:=λo=>by show By<=(W1.alloc o).heap.size;rw[World.size_alloc];omega
    have hR:∀X,zg (λ_=>False) W1 X->X.ownsRow By 5 1 (.slice oa z oc) z (Lib.strCells h):=λX hX=>xq hX hrow (λ_ _ h=>h);have hgm:some Bp≠(Value.slice oa z oc).ownBlock:=λe2=>by
     rcases hrow.2 with⟨g1,_⟩|⟨g,cap,cur,g1,_,g3,_⟩
     ·rw[g1]at e2;cases e2
     ·rw[g1]at e2
      have e':g=Bp:=by simpa[Value.ownBlock]using e2.symm
      subst e';rw[show W1.heap[g]?=_ from hv]at g3;injection g3 with g3;injection g3 with _ g5 _;exact absurd g5 (by decide)
    have HV:=hid hv;have Yb:=hid hrow;have OG:=hid Xr;have HI1:=hid hI1;clear hz hbb hrow Xr hI1;go_wp2;refine zec ?_
    go_region_law (refine zed (by rfl) _ _ (by rfl) By z (.slice oa z oc) (Lib.strCells h) (by rfl) (hR _ (((zg.refl _ _).alloc _).drew)) (hB2 _) W1.heap.size bb (by rfl) ((zf.new W1 _ _).drew) (by omega) ?_;intro g' c' w' hown hgr hg';have o7:=((hv.alloc (.cells #[.int .u8 (bb:Int)] 5)).drew).grown hgr hgm;have d0:w'.cell? ⟨Bp,0,none⟩=some (.slice oa z oc):=o7.cell 0;have df:=o7.frozen 0)
    all_goals
     go_wp2;have hFr:zg (λb=>b=Bp\/(Value.slice oa z oc).ownBlock=some b) W1 w':=(((zg.refl _ W1).alloc _).drew).grown hgr (λk hk=> .inl (.inr hk));have hg':some g'=(Value.slice oa z oc).ownBlock\/g'=W1.heap.size+1:=by
      rcases hg' with h1|h1
      ·exact .inl h1
      ·exact .inr (h1.trans (World.size_alloc _ _))
     have hgb:g'≠Bp:=by
      rcases hg' with e1|e1
      ·intro e2
       subst e2;exact hgm e1
      ·omega
     have hes:(h++s.extract a (a+1)).size=z+1:=by rw[wat,HZ.out];simp;omega
     have OH:Lib.strCells (h++s.extract a (a+1))=Lib.strCells h++ [Value.int .u8 (bb:Int)]:=zeb h has Va.out;refine⟨⟨ds,a+1,h++s.extract a (a+1),wv,pre,λb=>(T b\/wr.heap.size<=b)\/W1.heap.size<=b,?_⟩,?_⟩
     ·repeat apply Exists.intro
      refine⟨rfl,HI1.out.put HJ.out HV.out (by rw[HZ.out];exact Yb.out) (λg hg=>(OG.out g hg).1) jF.out.2.2.1 jF.out.2.2.2.1 G5.out (hFr.setCell 0 (.inl (.inl rfl)) _) (o7.set 0 _) ?_ ?_ ?_ ?_ ?_ ?_⟩
      ·rw[hes,OH]
       exact xq (zg.setCell (p:=λb=>b=Bp) (zg.refl _ w') 0 (.inl rfl) _) hown (λk hk e2=>hgb (by simp[Value.ownBlock]at hk;omega))
      ·intro g hg
       have e2:g'=g:=by simpa[Value.ownBlock]using hg
       subst e2;rcases hg' with e1|e1
       ·exact .inl e1.symm
       ·exact .inr (by omega)
      ·exact OI he hlt ZJ.out
      ·omega
      ·exact HR1.out a HI.out.hr hlt ZJ.out
      ·rw[hes];have:=HI.out.hh;rw[HZ.out]at this;omega
     ·simp[intOf];omega
   |true=>
    have has:a<s.size:=by omega
    have Vb:=Yc s a;have hto:=qP hbn has;have hle:=Xt has hbn;have SB:=OJ hbn has;obtain⟨p,hp⟩:∃p,prt s a=p:=⟨_,rfl⟩;rw[hp]at Vb hto hle SB;obtain⟨md,f,t,up,op⟩:=p;simp only at Vb hto hle SB;obtain rfl:a=f:=Vb.symm;have ZJ:=hid hbn;have HP:=hid hp;have HQ:Hid (a<s.size/\born s a=true/\prt s a=⟨md,a,t,up,op⟩):=hid ⟨has,hbn,hp⟩;have h13:md=13->t=a+1\/t=a+2:=λh=>by have:=SB h;split at this<;>omega
    have H13:=hid h13;have ht1:=hto;have ht2:=hle.1;clear hbn hp SB h13 hto hle Vb;have hbt:∀o:Obj,Below wr.heap.size wr (wr.alloc o):=λo=>(Below.refl _ _).alloc (waa _) o;have lr:=HI.out.cap.r.lt;have lt':=HI.out.cap.t.lt;have ld:=HI.out.cap.d.lt
    go_wp2_with (at_lookup;refine zd6 rfl _ _ rfl rfl hm a md a t up op rfl (by omega) HQ ?_)
    refine(zd0 _ s mb md a t up op zi ht1 ht2 (by omega) H13.out).mono ?_;rintro e2 w3 ⟨⟨X,b,rfl,hX⟩,hB3⟩;have hB4:Below wr.heap.size wr w3:=(hbt (.cells #[.int .i64 (md:Int),.int .i64 (a:Int),.int .i64 (t:Int),.int .i64 up,.bool op] 136)).trans (hB3.mono (by rw[World.size_alloc];omega));have kP:zf w3 wr.heap.size #[.int .i64 (md:Int),.int .i64 (a:Int),.int .i64 (t:Int),.int .i64 up,.bool op] 136:=(zf.new wr _ _).below hB3;have Y5:=HI.out.below HJ.out hB4;have mG:=hid hX;clear hX hB3 ct RJ mF cd hm lr lt' ld
    cases b with
    |true=>
     obtain⟨v,hv,hrow,Xr⟩:=Y5.st.p;obtain⟨oa,oc,rfl⟩:∃oa oc,v=.slice oa h.size oc:=by
      rcases hrow.2 with⟨h1,h2⟩|⟨g,cap,cur,h1,_⟩
      ·exact⟨none,0,by rw[h1,h2]⟩
      ·exact⟨_,_,h1⟩
     obtain⟨z,hz⟩:∃z,h.size=z:=⟨_,rfl⟩;have HZ:=hid hz;rw[hz]at hrow hv Xr;have cp:=hv.cell 0;have fp:=hv.frozen 0;have hzl:z<=60000:=by have:=HI.out.hh;omega
     have SC:X.size<=t-a:=au mG.out;have aU:By<=w3.heap.size:=by have:=Y5.st.y.lt;omega
     have Yb:=hid hrow;have HV:=hid hv;have OG:=hid Xr;have HI3:=hid Y5;clear hz hrow Xr Y5
     go_wp2_with (at_builtin;refine ay rfl _ _ rfl By z _ (Lib.strCells h) X rfl rfl Yb.out aU (by omega) (by omega) ?_;intro xC oc' w' hown hgr hg';have o7:=hv.grown hgr (ak Yb.out HV.out);have d0:=o7.cell 0;have df:=o7.frozen 0)
     have hFr:zg (λb=>b=Bp\/(Value.slice oa z oc).ownBlock=some b) w3 w':=(zg.refl _ w3).grown hgr (λk hk=> .inl (.inr hk));have hgb:∀g,(Value.slice xC (z+X.size) oc').ownBlock=some g->g≠Bp:=by
      intro g hg e2;subst e2;rcases hg' with e1|e1
      ·exact ak Yb.out HV.out (hg.symm.trans e1)
      ·rw[e1]at hg
       have:=HV.out.lt;injection hg with hg;omega
     have hes:(h++X).size=z+X.size:=by rw[wat,HZ.out]
     have OH:Lib.strCells (h++X)=Lib.strCells h++Lib.strCells X:=by simp[Lib.strCells]
     refine⟨⟨ds,t,h++X,wv,pre,λb=>(T b\/wr.heap.size<=b)\/w3.heap.size<=b,?_⟩,?_⟩
     ·repeat apply Exists.intro
      refine⟨rfl,HI3.out.put HJ.out HV.out (by rw[HZ.out];exact Yb.out) (λg hg=>(OG.out g hg).1) jF.out.2.2.1 jF.out.2.2.2.1 G5.out (hFr.setCell 0 (.inl (.inl rfl)) _) (o7.set 0 _) ?_ ?_ ?_ ?_ ?_ ?_⟩
      ·rw[hes,OH]
       exact xq (zg.setCell (p:=λb=>b=Bp) (zg.refl _ w') 0 (.inl rfl) _) hown (λk hk e2=>hgb k hk e2)
      ·intro g hg
       rcases hg' with e1|e1
       ·exact .inl (e1.symm.trans hg)
       ·rw[e1]at hg
        injection hg with hg;exact .inr (by omega)
      ·have:=OL (sub:=sub) (h:=h) (w:=wv) he hlt ZJ.out (t:=X) (by rw[HP.out];simpa using mG.out)
       rw[HP.out]at this;exact this
      ·omega
      ·have:=HR2.out a HI.out.hr hlt ZJ.out
       rw[HP.out]at this;exact this
      ·rw[hes];have:=HI.out.hh;rw[HZ.out]at this;omega
     ·simp[intOf];omega
    |false=>
     have hit:yG s (prt s a) zi=none:=by rw[HP.out];simpa using mG.out
     have mJ:L=pre++(fl zi h false++(sub a++Rm s zi sub e t war false)):=by
      have h1:=Y5.hL;rw[OM he hlt ZJ.out hit,HP.out]at h1;exact h1
     have nr:Br<By/\Bd<By:=⟨G5.out Br (.inr (.inr (.inl rfl))),G5.out Bd (.inl rfl)⟩;have nw:=HI.out.st.w.lt;have hne5:=jF.out;have cw:=Y5.st.w.cell 0;have fw:=Y5.st.w.frozen 0;have RJ:=Y5.cap.r.cell 0;have mF:=Y5.cap.r.cell 1;have cd:=Y5.cap.d.cell 0;have p0:=kP.cell 0;have p1:=kP.cell 1;have p2:=kP.cell 2;have p3:=kP.cell 3;have p4:=kP.cell 4;have n1:Br≠Bw:=by omega
     have n2:Bd≠Bw:=by omega
     have n3:wr.heap.size≠Bw:=by omega
     have OO:zg (λb=>b=Bw) w3 (w3.setCell ⟨Bw,0,none⟩ (.bool false)):=zg.setCell (p:=λb=>b=Bw) (zg.refl _ w3) 0 (.inl rfl) _;have Y6:(w3.setCell ⟨Bw,0,none⟩ (.bool false)).heap.size=w3.heap.size:=by simp[World.setCell]
     have w5:=Y5.st.w.set 0 (.bool false);have aV:=HJ.out.same Y5.hJ (OO.mono (λb _ hb=>hb▸(Y5.st.own Bw (.inr (.inl rfl))).1));have QJ:=HT.out a (w3.setCell ⟨Bw,0,none⟩ (.bool false)) HI.out.hr hlt ZJ.out hit (Y5.cap.zh OO (λb hb e2=>by have:=G5.out b hb;omega)).m;rw[HP.out]at QJ;have HT5:=hid QJ;have HI3:=hid Y5;clear QJ Y5 hit
     go_wp2_with fail
     refine(HT5.out).mono ?_;intro e5 Wt hTd;obtain⟨gf,lb,C',rfl,hBt,henter,hC',hseq⟩:=hTd;have aW:zg (λ_=>False) (w3.setCell ⟨Bw,0,none⟩ (.bool false)) Wt:=zg.of_below hBt;have hft:zg (λb=>b=Bw) w3 Wt:=OO.trans aW (λ_ _ h=>h.elim);have OQ:w3.heap.size<=Wt.heap.size:=hft.size;obtain⟨v,hv,hrow,Xr⟩:=HI3.out.st.p;have hvb:¬v.ownBlock=some Bw:=λe2=>by
      rcases hrow.2 with⟨g1,_⟩|⟨g,cap,cur,g1,_,g3,_⟩
      ·rw[g1]at e2;cases e2
      ·rw[g1]at e2
       have e':g=Bw:=by simpa[Value.ownBlock]using e2
       subst e';rw[show w3.heap[g]?=_ from HI3.out.st.w]at g3;injection g3 with g3;injection g3 with _ g5 _;exact absurd g5 (by decide)
     have aX:lC s zi e J By Bp Bw By Bl Bd Bt Br mb l h pre ds Wt.heap.size C' [] (λ_=>False) Wt:=by
      have hown:∀b,b<w3.heap.size->(T b\/wr.heap.size<=b)->((T b\/wr.heap.size<=b)\/w3.heap.size<=b)/\¬(False\/b=Wt.heap.size\/b=Wt.heap.size+1):=λb hb ht=>⟨.inl ht,λhh=>by rcases hh with h|h|h;exact h;omega;omega⟩;refine⟨λb=>(T b\/wr.heap.size<=b)\/w3.heap.size<=b,?_,⟨⟨v,hv.zh hft (λe=>hne5.1.1 e),xq hft hrow (λk hk e2=>hvb (e2▸hk)),λg hg=>hown g (kK hrow g hg) (Xr g hg).1⟩,w5.zh aW (λh=>h),HI3.out.st.y.zh hft (λe=>hne5.2.1.1 e.symm),HI3.out.st.f.zh hft (λe=>hne5.2.2.2.2.1 e.symm),?_⟩,?_,?_,(λb hb=>hb.elim),.inr OQ,.inr (by omega),?_,?_⟩
      ·show J (pre++ []) _ Wt
       rw[List.append_nil];exact HJ.out.below aV hBt (λb hb=>by rw[Y6];exact hb)
      ·rintro b (rfl|rfl|rfl|rfl)
       ·exact hown _ hv.lt (HI3.out.st.own _ (.inl rfl)).1
       ·exact hown _ HI3.out.st.w.lt (HI3.out.st.own _ (.inr (.inl rfl))).1
       ·exact hown _ HI3.out.st.y.lt (HI3.out.st.own _ (.inr (.inr (.inl rfl)))).1
       ·exact hown _ HI3.out.st.f.lt (HI3.out.st.own _ (.inr (.inr (.inr rfl)))).1
      ·exact HI3.out.cap.zh hft (λb hb e2=>by have:=G5.out b hb;omega)
      ·obtain⟨Ds,e1,e2,e3⟩:=HI3.out.RI
       refine⟨Ds,e1,e2,λD hD=>?_⟩;obtain⟨d1,d2,d3⟩:=e3 D hD;have hDl:=(Array.getElem?_eq_some_iff.1 d3).1;exact⟨(hown D hDl d1).1,(hown D hDl d1).2,(hft.block D hDl (λe=>by subst e;rw[show w3.heap[D]?=_ from HI3.out.st.w]at d3;cases d3)).trans d3⟩
      ·intro b hb
       rcases(hC' b hb).2 with h|h
       ·exact .inl h
       ·rw[Y6]at h
        exact .inr (.inr h)
      ·intro b hb
       have:=HI3.out.cap.lt b hb;exact⟨λh=>h,by omega⟩
     clear cw fw RJ mF cd p0 p1 p2 p3 p4;have HIT:=hid aX;have Jo:=hid hseq;have uw:=hid hC';clear aX hseq hC' aV w5;go_wp2;refine(wpIn_wide (n:=n)).1 (mM (L:=sub a) (encs:=Y3) (C:=C') (gf:=gf) (lb:=lb) rfl henter (λW hW=>Jo.out (n-1) W (by omega) hW) (λb hb=>(uw.out b hb).1) ?hps
      (lC s zi e J By Bp Bw By Bl Bd Bt Br mb l h pre ds Wt.heap.size C') (SA Jx ds Wt.heap.size) (lC.Ze HJ.out) (SA.Ze Sr.out) ?start ?round ?fin ?stop)
     case hps=>intro x;rfl
     case start=>
      intro W hB _;exact lC.Ze HJ.out [] _ Wt W _ HIT.out (zg.of_below hB) (λb hb=> .inl hb)
     case round=>
      rintro pin x rest yK W hLx ⟨T9,h1,h2,h3,h4,h5,h6,h7,h8,h9⟩ jG Vd hrec hdef t1 t2;simp only[Y3,Rz]
      gi_wp2
      obtain⟨W2,hW2⟩:∃X,W.alloc (.cells #[.bool x.ex,.bool x.q,.string x.t] 119)=X:=⟨_,rfl⟩;have hB2:Below W.heap.size W W2:=by rw[←hW2];exact(Below.refl _ _).alloc (waa _) _
      have kX:zf W2 W.heap.size #[.bool x.ex,.bool x.q,.string x.t] 119:=by rw[←hW2];exact zf.new W _ _
      have z2:W2.heap.size=W.heap.size+1:=by rw[←hW2];simp
      rw[hW2];clear hW2;refine⟨hB2.block _ (by omega),hB2.block _ (by omega),⟨hB2.size,λb hb _=>hB2.block b hb⟩,λr=>?_⟩;obtain⟨W3,hW3⟩:∃X,W2.putObj (Wt.heap.size+1) (.loop r)=X:=⟨_,rfl⟩;have z3:W3.heap.size=W.heap.size+1:=by rw[←hW3,←z2];simp
      have hF3:zg (λb=>b=Wt.heap.size+1) W W3:=by
       rw[←hW3];exact(zg.of_below hB2).trans (jA (p:=λb=>b=Wt.heap.size+1) W2 _ rfl) (λ_ _ h=>h)
      have mO:zf W3 W.heap.size #[.bool x.ex,.bool x.q,.string x.t] 119:=by
       rw[←hW3];exact(World.putObj_heap_other (by omega)).trans kX
      rw[hW3];clear hW3 kX hB2 z2 hrec hdef;obtain⟨T3,Jp⟩:∃T3:Nat->Prop,T3=λb=>(T9 b\/W.heap.size<=b)/\b<W3.heap.size:=⟨_,rfl⟩;have t3:∀b,b<W.heap.size->T9 b->T3 b:=λb hb ht=>by rw[Jp];exact⟨.inl ht,by omega⟩
      have aY:∀b,T3 b->b<W3.heap.size:=λb hb=>by rw[Jp]at hb;exact hb.2
      have t3X:T3 W.heap.size:=by rw[Jp];exact⟨.inr (waa _),by omega⟩
      have j3:J (pre++lu zi h pin) T3 W3:=HJ.out _ T9 W W3 _ h1 (hF3.mono (λb _ hb=>hb▸h7)) (λb hb=>by rw[Jp]at hb;exact hb.1);have S3:=h2.zh (T':=T3) hF3 (λb _ _ hb=> .inr (.inr hb)) t3 (λ_ _ hh=>hh);have c3:=h3.zh hF3 (λb hb e2=>by have:=(h9 b hb).2;omega);have m3:=h4.zh (T':=T3) hF3 (λb _ _ hb=> .inr (.inr hb)) t3 (λ_ _ hh=>hh);have hQ:(pre++lu zi h pin)++fl zi (hIn h pin) false=pre++(fl zi h false++pin):=by
       unfold lu hIn;by_cases hp0:pin=[]
       ·rw[if_pos hp0,if_pos hp0,hp0];simp
       ·rw[if_neg hp0,if_neg hp0]
        have e0:fl zi war false=[]:=rfl;rw[e0,List.append_nil]
      have aZ:L=(pre++(fl zi h false++pin))++x::(rest++Rm s zi sub e t war false):=by
       rw[mJ,hLx];simp[List.append_assoc]
      have hhI:(hIn h pin).size<=1000000:=by
       unfold hIn;split
       ·have:=HI.out.hh;omega
       ·exact wab _
      have LET:=aj n (by omega) HJ.out HY.out S3 c3 m3 j3 aY hhI jF.out.1 ⟨jF.out.2.2.1.2.2,jF.out.2.2.2.1⟩ G5.out ⟨x::(rest++Rm s zi sub e t war false),by rw[hQ];exact aZ⟩;rw[hQ]at LET;have OT:=hid (CallsIn.inRound (Wt.heap.size+1) ((callsIn_wide (n:=n-1-1-1)).2 ((callsIn_wide (n:=n)).1 LET)));have zoe:Bp<Wt.heap.size:=by have:=hv.lt;omega
      have zef:¬yK Bp:=λhh=>(S3.own Bp (.inl rfl)).2 (.inl hh);have hkp:∀X,zO (Zd Bd Bt Br mb) (λb=>T3 b/\b≠Bp) W3 X->X.heap[Wt.heap.size+1]?=W3.heap[Wt.heap.size+1]?/\X.heap[Wt.heap.size]?=W3.heap[Wt.heap.size]?/\zO C' yK W3 X:=by
       intro X hk;refine⟨hk.same _ (by omega) (.inl ⟨t3 _ (by omega) h7,by omega⟩),hk.same _ (by omega) (.inl ⟨t3 _ (by omega) h6,by omega⟩),hk.size,λb hb hh=>?_⟩;rcases hh with hh|hh
       ·have hbl:=jG b hh
        exact hk.same b hb (.inl ⟨t3 b hbl (h5 b hh),λe=>zef (e▸hh)⟩)
       ·have hc:=uw.out b hh
        rcases hc.2 with e|e
        ·exact hk.same b hb (.inr (.inr (.inr (.inr e))))
        ·rcases h8 b hh with e2|e2
         ·exact hk.same b hb (.inr (.inr (.inr (.inr e2))))
         ·refine hk.same b hb (.inl ⟨t3 b (by omega) e2,λe3=>?_⟩)
          have:=hv.lt;rw[Y6]at e;omega
      have Aa:=hid hkp;have hcl:=S3.f.cell 0;have h11:1<=n-1-1:=by omega
      clear hkp LET S3 j3 h1 h2 h3 h4 c3
      gi_wp2_with fail
      refine⟨trivial,(OT.out).mono ?_⟩;rintro en W9 ⟨⟨hk,vz,zeg⟩,hr⟩;obtain⟨g1,g2,g3⟩:=Aa.out W9 hk;rcases hr with⟨rfl,Jq,OU,lD⟩|⟨rfl,pp,Jq⟩
      ·have OV:zf W9 W.heap.size #[.bool x.ex,.bool x.q,.string x.t] 119:=(hk.same _ (by omega) (.inl ⟨t3X,by omega⟩)).trans mO
       have x0:=OV.cell 0;have x1:=OV.cell 1;have x2:=OV.cell 2;have cy9:=OU.y.cell 0;obtain⟨fn9,zof,zog,body9,hy9,hR9⟩:=YieldAt.any (m:=n-1-1-1) (HY.out _ x _ T3 W9 aZ Jq (λb hb=>by have:=aY b hb;omega));dsimp only[Y3,Rz]at hy9;have HK:=hid hk;have yl:=hid vz;have HS9:=hid OU;have Jr:=hid lD;clear hk vz OU lD Jq g1 g2 g3 hcl
       gi_wp2_with fail
       refine RoundIn.mono (F:=Fence.wide) hR9 ?_;rintro e9 WA ⟨mP,hrA⟩;have hk2:zO (Zd Bd Bt Br mb) (λb=>T3 b/\b≠Bp) W3 WA:=HK.out.trans ⟨mP.size,λb hb hh=>mP.same b hb (hh.imp (λh=>h.1) id)⟩;obtain⟨g1,g2,g3⟩:=Aa.out WA hk2;have HG:=hid (show _/\_/\_ from⟨g1,g2,g3⟩);have mA:=yl.out.kept mP;have SE:=hid mA;have SG:∀b,yK b->T3 b:=λb hb=>t3 b (jG b hb) (h5 b hb);have Zf:T3 Wt.heap.size:=t3 _ (by omega) h6;have jc:T3 (Wt.heap.size+1):=t3 _ (by omega) h7;clear g1 g2 g3 mA;rcases hrA with⟨rfl,mQ⟩|⟨rfl,mQ⟩
       ·have mV:lC s zi e J By Bp Bw By Bl Bd Bt Br mb l h pre ds Wt.heap.size C' (pin++ [x]) yK WA:=by
         refine⟨T3,?_,?_,Jr.out.kept mP (λb h=>h),SE.out,SG,Zf,jc,λb hb=>?_,h9⟩
         ·unfold lu
          rw[if_neg (by simp)];simpa[List.append_assoc]using mQ
         ·unfold hIn
          rw[if_neg (by simp)];exact HS9.out.kept mP
         ·rcases h8 b hb with e2|e2
          ·exact .inl e2
          ·exact .inr (t3 b (by have:=(uw.out b hb).1;omega) e2)
        have OW:=hid mV;clear mV mQ
        gi_wp2
        exact⟨HG.out.1,HG.out.2.1,HG.out.2.2,OW.out⟩
       ·have OX:=hid mQ
        clear mQ
        gi_wp2
        exact⟨HG.out.1,HG.out.2.1,HG.out.2.2,rfl,T3,⟨_,OX.out⟩,SE.out,SG,Zf,jc⟩
      ·have HG:=hid (show _/\_/\_ from⟨g1,g2,g3⟩)
       have SE:=hid vz;have OX:=hid Jq;have SG:∀b,yK b->T3 b:=λb hb=>t3 b (jG b hb) (h5 b hb);have Zf:T3 Wt.heap.size:=t3 _ (by omega) h6;have jc:T3 (Wt.heap.size+1):=t3 _ (by omega) h7;clear g1 g2 g3 vz Jq hcl
       gi_wp2
       refine⟨λ_ h=>(by cases h),?_⟩
       gi_wp2
       exact⟨HG.out.1,HG.out.2.1,HG.out.2.2,rfl,T3,⟨_,OX.out⟩,SE.out,SG,Zf,jc⟩
     case fin=>
      rintro yK W ⟨T9,h1,h2,h3,h4,h5,h6,h7,h8,h9⟩ Vd hWd;have hsa:=V8.out a;have hq:lu zi h (sub a)=fl zi h false++sub a:=by unfold lu;rw[if_neg hsa]
      have hh0:hIn h (sub a)=war:=by unfold hIn;rw[if_neg hsa]
      rw[hq]at h1;rw[hh0]at h2;have hrel:KY s zi e sub L uu J By Bp Bw By Bl Bd Bt Br mb l t war false (pre++(fl zi h false++sub a)) T9 ({target:=.collected Wt.heap.size,args:=#[]}::ds) W:=by
       refine⟨by rw[mJ];simp[List.append_assoc],h1,h2.zh (p:=λ_=>False) (zg.refl _ _) (λ_ _ _ h=>h.elim) (λ_ _ h=>h) (λ_ _ h=>h.elim),h3,?_,ht2,?_,wab _⟩
       ·refine qO.cons (h4.zh (p:=λ_=>False) (zg.refl _ _) (λ_ _ _ h=>h.elim) (λ_ _ h=>h) (λ_ _ h=>h.elim)) (z:=Wt.heap.size) (λE hE=>?_) (waa _) ⟨h6,λh=>h⟩ hWd
        have:=HI3.out.RI.lt E hE;omega
       ·have:=HR2.out a HI.out.hr hlt ZJ.out
        rw[HP.out]at this;exact this
      have OY:=hid hrel;clear hrel h1 h2 h3 h4;dsimp only;refine⟨⟨{target:=.collected Wt.heap.size,args:=#[]}::ds,t,war,false,pre++(fl zi h false++sub a),T9,?_⟩,?_⟩
      ·repeat apply Exists.intro
       refine⟨rfl,OY.out⟩
      ·simp[intOf];omega
     case stop=>
      rintro c pin yK W ⟨rfl,T9,⟨pp,h1⟩,h4,h5,h6,h7⟩ Vd hWd;have vz:qO ({target:=.collected Wt.heap.size,args:=#[]}::ds) W T9 (λ_=>False):=by
       refine qO.cons (h4.zh (p:=λ_=>False) (zg.refl _ _) (λ_ _ _ h=>h.elim) (λ_ _ h=>h) (λ_ _ h=>h.elim)) (z:=Wt.heap.size) (λE hE=>?_) (waa _) ⟨h6,λh=>h⟩ hWd;have:=HI3.out.RI.lt E hE;omega
      have yl:=hid vz;have mW:=hid h1;clear vz h4 h1;refine(wpIn_wide (n:=n)).2 ?_;go_wp2;rw[Exit.noGoto_ret];obtain⟨Ds,e1,e2,e3⟩:=yl.out;rw[e1];exact Sz rfl Ds W e2 (λD hD=>(e3 D hD).2.2) (λW' hf=>⟨⟨_,rfl⟩,.inr ⟨pp,T9,Sr.out.same mW.out (hf.mono (λb _ hb=>(e3 b hb).1))⟩⟩)
  ·have hle:a<=s.size:=hal
   have hrm:Rm s zi sub e a h wv=fl zi h wv:=OZ hlt;have S9:V7 By Bp Bw By Bl Bd l wr h wv (λb=>T b/\b<wr.heap.size) (λ_=>False):=HI.out.st.zh (p:=λ_=>False) (zg.refl _ _) (λ_ _ _ h=>h) (λb hb ht=>⟨ht,hb⟩) (λ_ _ h=>h);have m9:qO ds wr (λb=>T b/\b<wr.heap.size) (λ_=>False):=HI.out.RI.zh (p:=λ_=>False) (zg.refl _ _) (λ_ _ _ h=>h) (λb hb ht=>⟨ht,hb⟩) (λ_ _ h=>h);have LET:=aj n (by omega) HJ.out HY.out S9 HI.out.cap m9 (HJ.out pre T wr wr _ HI.out.hJ (zg.refl _ _) (λb hb=> .inl hb.1)) (λb hb=>hb.2) (by have:=HI.out.hh;omega) jF.out.1 ⟨jF.out.2.2.1.2.2,jF.out.2.2.2.1⟩ G5.out ⟨[],by rw[HI.out.hL,hrm];simp⟩;have OT:=hid LET;have cl:=S9.f.cell 0;have hLq:Hid (pre++fl zi h wv=L):=hid (by rw[HI.out.hL,hrm]);have hlt2:¬(a:Int)<(e:Int):=by omega
   clear LET S9 m9 hrm RJ mF cd
   go_wp2_with fail
   refine((callsIn_wide (n:=n)).1 OT.out).mono ?_;rintro en W9 ⟨⟨hk,vz,zeg⟩,hr⟩;have yl:=hid vz;clear vz cl ct;rcases hr with⟨rfl,Jq,_⟩|⟨rfl,pp,Jq⟩
   ·have mW:=hid Jq
    clear Jq;go_wp2;obtain⟨Ds,e1,e2,e3⟩:=yl.out;rw[e1];exact Sz rfl Ds W9 e2 (λD hD=>(e3 D hD).2.2) (λW' hf=>⟨⟨_,rfl⟩,.inl ⟨_,by rw[←hLq.out];exact HJ.out.same mW.out (hf.mono (λb _ hb=>(e3 b hb).1))⟩⟩)
   ·have mW:=hid Jq
    clear Jq;go_wp2;obtain⟨Ds,e1,e2,e3⟩:=yl.out;rw[e1];exact Sz rfl Ds W9 e2 (λD hD=>(e3 D hD).2.2) (λW' hf=>⟨⟨_,rfl⟩,.inr ⟨pp,_,Sr.out.same mW.out (hf.mono (λb _ hb=>(e3 b hb).1))⟩⟩)
end Go.Proofs.YtkolpaonccmgiaaGreatDoor

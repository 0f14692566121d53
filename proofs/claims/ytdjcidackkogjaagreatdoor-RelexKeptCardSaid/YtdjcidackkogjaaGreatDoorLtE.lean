/- What an iterator of pieces yields (between$1 of la -/
import Derived.Laws.EntriesVeiled
import Derived.Test.YtdjcidackkogjaaGreatDoorLtD
namespace Go.Proofs.YtdjcidackkogjaaGreatDoor
set_option linter.unusedSectionVars false
set_option linter.unusedVariables false
open Lib(hid)
set_option maxHeartbeats 8000000
set_option maxRecDepth 100000
open Go.RowKit Go.Shelf
attribute [local go_sem] Oper.semAt_some
def Gu(mb:Nat)(L:List Pc)(w:World)(e:Ending)(w':World):Prop:=
 ∃(gf:Nat) (lb:Array Value) (C':Nat→Prop),e=.returned (.func (.func gf) #[] lb)∧Below w.heap.size w w'∧(∀args W,(callFunc gf args).run Tryz.prog W=.ok (.enter gf args) W)∧(∀b,C' b→b<w'.heap.size∧(b=mb∨w.heap.size≤b))∧
  ∀(n:Nat) (W:World),1≤n→Below w'.heap.size w' W→YB n Tryz.prog gf lb Za C' L W
def QH(zk:Bool)(h:ByteArray)(pin:List Pc):List Pc:=if pin=[]then []else fl zk h false++pin
def hIn(h:ByteArray)(pin:List Pc):ByteArray:=if pin=[]then h else ByteArray.empty
def QI(s:ByteArray)(zk:Bool)(e:Nat)(J:List Pc→(Nat→Prop)→World→Prop)(B0 Bp Bw By Bl Bd Bt Br mb l:Nat)(h:ByteArray)(pre:List Pc)(ds:List Deferred)(z:Nat)(C':Nat→Prop)(pin:List Pc)(yj:Nat→Prop)(W:World):Prop:=
 ∃T,J (pre++QH zk h pin) T W∧YC B0 Bp Bw By Bl Bd l W (hIn h pin) false T (λb=>yj b∨b=z∨b=z+1)∧Cap W Bd Bt Br mb s zk e∧uU ds W T (λb=>yj b∨b=z∨b=z+1)∧(∀b,yj b→T b)∧T z∧T (z+1)∧(∀b,C' b→b=mb∨T b)∧(∀b,jE Bd Bt Br mb b→¬yj b∧b<z)
def DN(Jx:List Pc→(Nat→Prop)→World→Prop)(ds:List Deferred)(z:Nat)(c:Code)(pin:List Pc)(yj:Nat→Prop)(W:World):Prop:=
 c=.ret∧∃T,(∃pp,Jx pp T W)∧uU ds W T (λb=>yj b∨b=z∨b=z+1)∧(∀b,yj b→T b)∧T z∧T (z+1)
theorem QI.Zn{s:ByteArray}{zk:Bool}{e:Nat}{J:List Pc→(Nat→Prop)→World→Prop}{B0 Bp Bw By Bl Bd Bt Br mb l:Nat}{h:ByteArray}{pre:List Pc}{ds:List Deferred}{z:Nat}{C':Nat→Prop}(hJ:Yg J):XW (z+1) (QI s zk e J B0 Bp Bw By Bl Bd Bt Br mb l h pre ds z C'):=by
 rintro pin yj W W' XV ⟨T,h1,h2,h3,h4,h5,h6,h7,h8,h9⟩ hf hT;have hsub:∀b,b<W.heap.size→(XV b∨b=z∨b=z+1)→(yj b∨b=z∨b=z+1):=by
  intro b hb hh;rcases hh with hh|hh
  ·rcases hT b hh with g|g
   ·exact .inl g
   ·omega
  ·exact .inr hh
 have hpp:∀b,b<W.heap.size→T b→(yj b∨b=z+1)→(yj b∨b=z∨b=z+1):=λb _ _ hh=>by rcases hh with g|g;exact .inl g;exact .inr (.inr g)
 refine⟨λb=>T b∨W.heap.size≤b,hJ _ T W W' _ h1 (hf.mono (λb _ hb=>by rcases hb with g|g;exact h5 b g;subst g;exact h7)) (λb hb=>hb),h2.zf hf hpp (λb _ hb=> .inl hb) hsub,h3.zf hf (λb hb hp=>?_),h4.zf hf hpp (λb _ hb=> .inl hb) hsub,?_,.inl h6,.inl h7,λb hb=>(h8 b hb).imp id .inl,λb hb=>⟨λhh=>?_,(h9 b hb).2⟩⟩
 ·rcases hp with g|g
  ·exact(h9 b hb).1 g
  ·have:=(h9 b hb).2;omega
 ·intro b hb
  rcases hT b hb with g|g
  ·exact .inl (h5 b g)
  ·exact .inr g
 ·rcases hT b hh with g|g
  ·exact(h9 b hb).1 g
  ·have:=h3.lt b hb;omega
theorem DN.Zn{Jx:List Pc→(Nat→Prop)→World→Prop}{ds:List Deferred}{z:Nat}(hJ:Yg Jx)(c:Code):XW (z+1) (DN Jx ds z c):=by
 rintro pin yj W W' XV ⟨rfl,T,⟨pp,h1⟩,h4,h5,h6,h7⟩ hf hT;have hsub:∀b,b<W.heap.size→(XV b∨b=z∨b=z+1)→(yj b∨b=z∨b=z+1):=by
  intro b hb hh;rcases hh with hh|hh
  ·rcases hT b hh with g|g
   ·exact .inl g
   ·omega
  ·exact .inr hh
 have hpp:∀b,b<W.heap.size→T b→(yj b∨b=z+1)→(yj b∨b=z∨b=z+1):=λb _ _ hh=>by rcases hh with g|g;exact .inl g;exact .inr (.inr g)
 refine⟨rfl,λb=>T b∨W.heap.size≤b,⟨pp,hJ _ T W W' _ h1 (hf.mono (λb _ hb=>by rcases hb with g|g;exact h5 b g;subst g;exact h7)) (λb hb=>hb)⟩,h4.zf hf hpp (λb _ hb=> .inl hb) hsub,?_,.inl h6,.inl h7⟩;intro b hb;rcases hT b hb with g|g
 ·exact .inl (h5 b g)
 ·exact .inr g
structure VQ(s:ByteArray)(zk:Bool)(e:Nat)(sub:Nat→List Pc)(L:List Pc)(xQ:Nat→Prop)(J:List Pc→(Nat→Prop)→World→Prop)(B0 Bp Bw By Bl Bd Bt Br mb l:Nat)(a:Nat)(h:ByteArray)(wv:Bool)(pre:List Pc)(T:Nat→Prop)(ds:List Deferred)(wr:World):Prop where
 hL:L=pre++Rm s zk sub e a h wv
 hJ:J pre T wr
 st:YC B0 Bp Bw By Bl Bd l wr h wv T (λ_=>False)
 cap:Cap wr Bd Bt Br mb s zk e
 Gv:uU ds wr T (λ_=>False)
 ha:a≤s.size
 hr:xQ a
 hh:h.size≤a
section
variable{s:ByteArray}{zk:Bool}{e:Nat}{sub:Nat→List Pc}{L:List Pc}{xQ:Nat→Prop}{J:List Pc→(Nat→Prop)→World→Prop}{B0 Bp Bw By Bl Bd Bt Br mb l a:Nat}{h:ByteArray}{wv:Bool}{pre:List Pc}{T:Nat→Prop}{ds:List Deferred}{wr W1 W3:World}
theorem VQ.below(hJ:Yg J)(I:VQ s zk e sub L xQ J B0 Bp Bw By Bl Bd Bt Br mb l a h wv pre T ds wr)(hb:Below wr.heap.size wr W1):VQ s zk e sub L xQ J B0 Bp Bw By Bl Bd Bt Br mb l a h wv pre (λb=>T b∨wr.heap.size≤b) ds W1:=
 ⟨I.hL,hJ.below I.hJ hb (λb h=>h),I.st.zf (p:=λ_=>False) (zg.of_below hb) (λ_ _ _ h=>h) (λ_ _ h=> .inl h) (λ_ _ h=>h),I.cap.zf (p:=λ_=>False) (zg.of_below hb) (λ_ _ h=>h),I.Gv.zf (p:=λ_=>False) (zg.of_below hb) (λ_ _ _ h=>h) (λ_ _ h=> .inl h) (λ_ _ h=>h),I.ha,I.hr,I.hh⟩
theorem VQ.put(hJ:Yg J)(I:VQ s zk e sub L xQ J B0 Bp Bw By Bl Bd Bt Br mb l a h wv pre T ds wr){v v':Value}(hv:zh wr Bp #[v] 116)(hrow:wr.ownsRow B0 5 1 v h.size (Lib.strCells h))(Zm:∀g,v.ownBlock=some g→T g)
 (hne:Bp≠Bw∧Bp≠By∧Bp≠Bl)(hB0:B0≤Bp)(QG:∀b,jE Bd Bt Br mb b→b<B0)(hf:zg (λb=>b=Bp∨v.ownBlock=some b) wr W3){a2:Nat}{h2:ByteArray}
 (h1:zh W3 Bp #[v'] 116)(h3:W3.ownsRow B0 5 1 v' h2.size (Lib.strCells h2))(h4:∀g,v'.ownBlock=some g→v.ownBlock=some g∨wr.heap.size≤g)
 (hL:Rm s zk sub e a h wv=Rm s zk sub e a2 h2 wv)(ha2:a2≤s.size)(hr2:xQ a2)(hh2:h2.size≤a2):
  VQ s zk e sub L xQ J B0 Bp Bw By Bl Bd Bt Br mb l a2 h2 wv pre (λb=>T b∨wr.heap.size≤b) ds W3:=by
 have tp:∀{b:Nat} {cs:Array Value} {t:TypeId},zh wr b cs t→t≠5→¬v.ownBlock=some b:=by
  intro b cs t hb ht e2;rcases hrow.2 with⟨g1,_⟩|⟨g,cap,cur,g1,_,g3,_⟩
  ·rw[g1]at e2;cases e2
  ·rw[g1]at e2
   have e':g=b:=by simpa[Value.ownBlock]using e2
   subst e';rw[show wr.heap[g]?=_ from hb]at g3;injection g3 with g3;injection g3 with _ g5 _;exact ht g5
 have Gt:∀b,(b=Bp∨v.ownBlock=some b)→T b:=by
  rintro b (rfl|hb)
  ·exact(I.st.own b (.inl rfl)).1
  ·exact Zm b hb
 have hW:zh W3 Bw #[.bool wv] 4:=I.st.w.zf hf (λh=>by rcases h with h|h;exact hne.1 h.symm;exact tp I.st.w (by decide) h);have hY:zh W3 By _ 215:=I.st.y.zf hf (λh=>by rcases h with h|h;exact hne.2.1 h.symm;exact tp I.st.y (by decide) h);have hF:zh W3 Bl _ 23:=I.st.f.zf hf (λh=>by rcases h with h|h;exact hne.2.2 h.symm;exact tp I.st.f (by decide) h);refine⟨by rw[←hL];exact I.hL,hJ pre T wr W3 _ I.hJ (hf.mono (λb _ hb=>Gt b hb)) (λb h=>h),⟨⟨v',h1,h3,λg hg=>⟨?_,λh=>h⟩⟩,hW,hY,hF,λb hb=>⟨.inl (I.st.own b hb).1,λh=>h⟩⟩,?_,?_,ha2,hr2,hh2⟩
 ·rcases h4 g hg with h|h
  ·exact .inl (Zm g h)
  ·exact .inr h
 ·refine I.cap.zf hf (λb hb h=>?_)
  have:=QG b hb;rcases h with rfl|h
  ·omega
  ·have:=yH hrow b h
   omega
 ·obtain⟨Ds,e1,e2,e3⟩:=I.Gv
  refine⟨Ds,e1,e2,λD hD=>?_⟩;obtain⟨d1,d2,d3⟩:=e3 D hD;refine⟨.inl d1,λh=>h,(hf.block D (Array.getElem?_eq_some_iff.1 d3).1 (λh=>?_)).trans d3⟩;rcases h with rfl|h
  ·rw[show wr.heap[D]?=_ from hv]at d3;cases d3
  ·rcases hrow.2 with⟨g1,_⟩|⟨g,cap,cur,g1,_,g3,_⟩
   ·rw[g1]at h;cases h
   ·rw[g1]at h
    have e':g=D:=by simpa[Value.ownBlock]using h
    subst e';rw[d3]at g3;cases g3
end
theorem zcg(h:ByteArray){s:ByteArray}{a bb:Nat}(ha:a<s.size)(hb:by8 s a=bb):Lib.strCells (h++s.extract a (a+1))=Lib.strCells h++ [Value.int .u8 (bb:Int)]:=by
 have e:(s.extract a (a+1)).data.toList=[bt s a]:=by
  rw[yx ha];have h1:a<s.data.size:=ha;simp only[ByteArray.data_extract,Array.toList_extract,List.extract_eq_take_drop,Nat.add_sub_cancel_left];rw[List.drop_eq_getElem_cons (by simpa using h1)];rfl
 subst hb;unfold by8;simp only[Lib.strCells,ByteArray.data_append,Array.toList_append,List.map_append,e];rfl
theorem zch{P:Program}{c:Code}{K:Act→World→Prop}{Q:Exit→Act→World→Prop}{a:Act}{w:World}(h:c.wp P (Exit.then K (λ_ _ _=>False)) a w):c.wp P (Exit.then K Q) a w:=by
 refine wp_mono h ?_;intro e a' w' hq
 cases e with
 |normal=>exact hq
 |exit id=>exact hq.elim
 |goto l=>exact hq.elim
 |ret=>exact hq.elim
 |panic ch=>exact hq.elim
 |outgrown=>exact hq.elim
theorem EE{w:World}{base n Bp:Nat}{v x:Value}{xs:List Value}(h:w.ownsRow base 5 1 v n xs)(hv:zh w Bp #[x] 116):some Bp≠v.ownBlock:=λe2=>by
 rcases h.2 with⟨g1,_⟩|⟨g,cap,cur,g1,_,g3,_⟩
 ·rw[g1]at e2;cases e2
 ·rw[g1]at e2
  have e':g=Bp:=by simpa[Value.ownBlock]using e2.symm
  subst e';rw[show w.heap[g]?=_ from hv]at g3;injection g3 with g3;injection g3 with _ g5 _;exact absurd g5 (by decide)
theorem EF{s:ByteArray}{p:zJ}{zk:Bool}{X:ByteArray}(h:yf s p zk=(if true=true then some X else none)):X.size≤p.to-p.zf:=by
 simp at h;unfold yf at h;have e1:(s.extract p.zf p.to).size≤p.to-p.zf:=by simp;omega
 have e2:(s.extract (p.zf+1) p.to).size≤p.to-p.zf:=by simp;omega
 repeat' split at h
 all_goals first|(cases h;done)|(injection h with h;rw[←h];first|exact e1|exact e2|exact Nat.zero_le _)
theorem EG:(Tryz.prog.info? 5).map (λi=>(i.zero,i.size,i.bytes))=some (some (.int .u8 0),1,1):=by kernel_rfl
theorem zci{ops:Array Oper}{o:Oper}{a:Act}{w:World}{K:Act→World→Prop}{Q:Exit→Act→World→Prop}{E:Prop}(hgd:o.guard=none)(s x:Operand)
 (ho:o.op=.call {callee:=.builtin .append,args:=#[s,x],argTypes:=#[116,116]})
 (B0 z:Nat)(v:Value)(yF:List Value)(hs:a.eval s=v)(hown:w.ownsRow B0 5 1 v z yF)(hB:B0≤w.heap.size)(b c:Nat)
 (hx:a.eval x=.slice (some ⟨b,0,none⟩) 1 1)(hb:zh w b #[.int .u8 (c:Int)] 5)(hl:z≤1000000)
 (h:∀g' c' w',w'.ownsRow B0 5 1 (.slice (some ⟨g',0,none⟩) (z+1) c') (z+1) (yF++ [.int .u8 (c:Int)])→w.grownBy w' v.ownBlock→(some g'=v.ownBlock∨g'=w.heap.size)→K (a.put o.dst (.slice (some ⟨g',0,none⟩) (z+1) c')) w'):
  if Region.wanted o (yielded ops a.tmps)=true then Oper.wp Tryz.prog o a w K Q else E:=by
 have hw:Region.wanted o (yielded ops a.tmps)=true:=by simp[Region.wanted,hgd]
 rw[if_pos hw];obtain⟨i,hi,hz,hsize,hby⟩:=info_parts EG;have hnews:∀j u,[Value.int .u8 (c:Int)][j]?=some u→w.cell? ((⟨b,0,none⟩:Addr).add j)=some u:=by
  intro j u hj;rw[Addr.add_lit,hb.cell,Nat.zero_add];simpa using hj
 obtain⟨v',w',hr',h2,h3,h4,h5⟩:=run_append_own_at (P:=Tryz.prog) w B0 116 o.type 5 i _ 1 1 Tryz.underlying116 hi hz hsize hby rfl (by omega) _ z yF hown ⟨b,0,none⟩ 1 1 [.int .u8 (c:Int)] rfl hnews
  (by intro u hu;simp at hu;subst hu;rfl) (by unfold maxLen;omega) (by omega) hB
 unfold Oper.wp execOp;simp only[ho,resolve,invoke,builtin,Sem.run_bind,Sem.run_pure,Result.andThen_ok,List.map_toArray,List.map_cons,List.map_nil,hs,hx,hr'];rcases h2.2 with⟨hv,hn⟩|⟨g',c',cur,hv,h6⟩
 ·omega
 ·subst hv
  refine h g' c' w' h2 h3 ?_;rcases h5 with h5|h5
  ·exact .inl h5
  ·exact .inr (by simpa[Value.ownBlock]using h5)
theorem EH{ops:Array Oper}{rest:List Oper}{o:Oper}{a:Act}{Q:Exit→Act→World→Prop}{w:World}(hgd:o.guard=none)(s x:Operand)
 (ho:o.op=.call {callee:=.builtin .append,args:=#[s,x],argTypes:=#[116,9]})
 (B0 z:Nat)(v:Value)(yF:List Value)(X:ByteArray)(hs:a.eval s=v)(hx:a.eval x=.string X)(hown:w.ownsRow B0 5 1 v z yF)(hB:B0≤w.heap.size)(hl:z≤1000000)(hX:X.size≤1000000)
 (h:∀yD oc' w',w'.ownsRow B0 5 1 (.slice yD (z+X.size) oc') (z+X.size) (yF++Lib.strCells X)→w.grownBy w' v.ownBlock→((Value.slice yD (z+X.size) oc').ownBlock=v.ownBlock∨(Value.slice yD (z+X.size) oc').ownBlock=some w.heap.size)→wpList Tryz.prog ops Q rest (a.put o.dst (.slice yD (z+X.size) oc')) w'):
  wpList Tryz.prog ops Q (o::rest) a w:=by
 refine wpList_plain hgd λK hK=>?_;obtain⟨i,hi,hz,hsize,hby⟩:=info_parts EG;obtain⟨v',w',hr,h2,h3,h4⟩:=Lib.run_append_own_string (P:=Tryz.prog) w B0 116 9 o.type 5 i Tryz.underlying116 Tryz.underlying9 hi hz hsize hby v z yF hown X (by unfold maxLen;omega) (by omega) hB;have hv:∃yD oc',v'=.slice yD (z+X.size) oc':=by
  rcases h2.2 with⟨e,e2⟩|⟨g,cap,cur,e,_⟩
  ·exact⟨none,0,by rw[e,e2]⟩
  ·exact⟨_,_,e⟩
 have hat:v'.ownBlock=v.ownBlock∨v'.ownBlock=some w.heap.size:=by
  rcases hown.2 with⟨rfl,rfl⟩|⟨g,cap,cur,rfl,hbg,hg,hnc,hcm,hcs,htake⟩
  ·by_cases hm:X.size=0
   ·left;rw[h4.2 ⟨rfl,hm⟩]
   ·right
    have:=run_append_nil_string (P:=Tryz.prog) w 116 9 o.type 5 i (.int .u8 0) Tryz.underlying116 Tryz.underlying9 hi hz X (by omega) (by omega) (by rw[hby];omega);rw[hr]at this;injection this with e1 _;rw[e1];rfl
  ·by_cases hroom:z+X.size≤cap
   ·left
    have:=Lib.run_append_room_string (P:=Tryz.prog) w 116 9 o.type 5 i Tryz.underlying116 Tryz.underlying9 hi hsize g z cap cur hg X hroom (by omega);rw[hr]at this;injection this with e1 _;rw[e1];rfl
   ·right
    have holds:∀j u,yF[j]?=some u→w.cell? ((⟨g,0,none⟩:Addr).add j)=some u:=hown.cells (g:=g) rfl;have:=Lib.run_append_grow_string (P:=Tryz.prog) w 116 9 o.type 5 i (.int .u8 0) Tryz.underlying116 Tryz.underlying9 hi hz ⟨g,0,none⟩ z cap yF (by rw[hsize];exact hown.1) holds X (by omega) (by omega) (by rw[hby];exact growslice_fits (by omega) (by omega));rw[hr]at this;injection this with e1 _;rw[e1];rfl
 obtain⟨yD,oc',rfl⟩:=hv;unfold Oper.wp execOp;simp only[ho,resolve,invoke,builtin,Sem.run_bind,Sem.run_pure,Result.andThen_ok,List.map_toArray,List.map_cons,List.map_nil,hs,hx,hr];exact hK _ _ (h yD oc' w' h2 h3 hat)
theorem EI(n:Nat)(hn:3≤n)(s:ByteArray)(hs:s.size≤60000)(zk:Bool)(f0 e:Nat)(hf0:f0≤s.size)(he:e≤s.size)(sub:Nat→List Pc)(xQ:Nat→Prop)(hR0:xQ f0)(hR1:∀a,xQ a→a<e→born s a=false→xQ (a+1))(hR2:∀a,xQ a→a<e→born s a=true→xQ (prt s a).to)
 (mb Bd Bf Bt Br:Nat)(W:World)(hcap:Cap W Bd Bt Br mb s zk e)(hbf:zh W Bf #[.int .i64 (f0:Int)] 3)
 (hsub:∀a,sub a≠ [])
 (hT:∀a w,xQ a→a<e→born s a=true→yf s (prt s a) zk=none→JG w mb s→
   Calls Tryz.prog 153 #[.agg #[.string s,.map (some mb)],.agg #[.int .i64 ((prt s a).mode:Int),.int .i64 ((prt s a).zf:Int),.int .i64 ((prt s a).to:Int),.int .i64 (prt s a).up,.bool (prt s a).op],.bool zk] w (Gu mb (sub a) w)):
  YB n Tryz.prog 150 #[.pointer (some ⟨Bd,0,none⟩),.pointer (some ⟨Bf,0,none⟩),.pointer (some ⟨Bt,0,none⟩),.pointer (some ⟨Br,0,none⟩)] Za (jE Bd Bt Br mb) (Rm s zk sub e f0 ByteArray.empty zk) W:=by
 intro l J Jx hJ hJx hY hJ0;obtain⟨L,Y2⟩:∃L,Rm s zk sub e f0 ByteArray.empty zk=L:=⟨_,rfl⟩;rw[Y2]at hY ⊢;have HJ:=hid hJ;have DJ:=hid hJx;have HY:=hid hY;have HT:=hid hT;have HCAP:=hid hcap;have HR1:=hid hR1;have HR2:=hid hR2;have YD:=hid hsub;have WY:=hid Y2;have WX:=hid hJ0;have cd:=hcap.d.cell 0;have cf:=hbf.cell 0;have ld:=hcap.d.lt;have lf:=hbf.lt;have hfn:Fence.wide.fn 150:=trivial;clear hJ hJx hY hT hcap hR1 hR2 hsub Y2 hJ0 hbf;refine callsIn_of_wp_marks Tryz.func150 rfl hfn ?_ rfl;refine wpIn_wide.2 ?_;have hb3:=zh.new (((W.alloc (.cells #[.func (.yield l) #[] #[]] 215)).alloc (.cells #[.slice none 0 0] 116)).alloc (.cells #[.bool zk] 4)) #[.nilFunc] 23;have yB:=(((zh.new W #[.func (.yield l) #[] #[]] 215).alloc (.cells #[.slice none 0 0] 116)).alloc (.cells #[.bool zk] 4)).alloc (.cells #[(Value.func (.func 151) #[] #[.pointer (some ⟨W.heap.size+1,0,none⟩),.pointer (some ⟨W.heap.size+1+1,0,none⟩),.pointer (some ⟨W.heap.size,0,none⟩),.pointer (some ⟨Bd,0,none⟩)])] 23);have pB:=((zh.new (W.alloc (.cells #[.func (.yield l) #[] #[]] 215)) #[.slice none 0 0] 116).alloc (.cells #[.bool zk] 4)).alloc (.cells #[(Value.func (.func 151) #[] #[.pointer (some ⟨W.heap.size+1,0,none⟩),.pointer (some ⟨W.heap.size+1+1,0,none⟩),.pointer (some ⟨W.heap.size,0,none⟩),.pointer (some ⟨Bd,0,none⟩)])] 23);have wB:=(zh.new ((W.alloc (.cells #[.func (.yield l) #[] #[]] 215)).alloc (.cells #[.slice none 0 0] 116)) #[.bool zk] 4).alloc (.cells #[(Value.func (.func 151) #[] #[.pointer (some ⟨W.heap.size+1,0,none⟩),.pointer (some ⟨W.heap.size+1+1,0,none⟩),.pointer (some ⟨W.heap.size,0,none⟩),.pointer (some ⟨Bd,0,none⟩)])] 23);have fB:=zh.new (((W.alloc (.cells #[.func (.yield l) #[] #[]] 215)).alloc (.cells #[.slice none 0 0] 116)).alloc (.cells #[.bool zk] 4)) #[(Value.func (.func 151) #[] #[.pointer (some ⟨W.heap.size+1,0,none⟩),.pointer (some ⟨W.heap.size+1+1,0,none⟩),.pointer (some ⟨W.heap.size,0,none⟩),.pointer (some ⟨Bd,0,none⟩)])] 23;have hB0:Below W.heap.size W ((((W.alloc (.cells #[.func (.yield l) #[] #[]] 215)).alloc (.cells #[.slice none 0 0] 116)).alloc (.cells #[.bool zk] 4)).alloc (.cells #[(Value.func (.func 151) #[] #[.pointer (some ⟨W.heap.size+1,0,none⟩),.pointer (some ⟨W.heap.size+1+1,0,none⟩),.pointer (some ⟨W.heap.size,0,none⟩),.pointer (some ⟨Bd,0,none⟩)])] 23)):=((((Below.refl _ W).alloc (Nat.le_refl _) _).alloc (by simp) _).alloc (by simp;omega) _).alloc (by simp;omega) _;have hz0:((((W.alloc (.cells #[.func (.yield l) #[] #[]] 215)).alloc (.cells #[.slice none 0 0] 116)).alloc (.cells #[.bool zk] 4)).alloc (.cells #[(Value.func (.func 151) #[] #[.pointer (some ⟨W.heap.size+1,0,none⟩),.pointer (some ⟨W.heap.size+1+1,0,none⟩),.pointer (some ⟨W.heap.size,0,none⟩),.pointer (some ⟨Bd,0,none⟩)])] 23)).heap.size=W.heap.size+1+1+1+1:=by simp
 simp only[World.size_alloc]at hb3 pB wB fB;have hs3:=hb3.cell 0;have hs4:=hb3.frozen 0;simp only[Tryz.ntmps150,List.size_toArray,List.length_cons,List.length_nil,Nat.reduceAdd,Nat.reduceSub,Array.replicate_succ,Array.replicate_zero,List.push_toArray,List.append_toArray,List.nil_append,List.cons_append];go_wp2
 go_step3
 go_wp2;clear hs3 hs4 hb3 cd ld;obtain⟨W0,hW0⟩:∃X,(((W.alloc (.cells #[.func (.yield l) #[] #[]] 215)).alloc (.cells #[.slice none 0 0] 116)).alloc (.cells #[.bool zk] 4)).alloc (.cells #[(Value.func (.func 151) #[] #[.pointer (some ⟨W.heap.size+1,0,none⟩),.pointer (some ⟨W.heap.size+1+1,0,none⟩),.pointer (some ⟨W.heap.size,0,none⟩),.pointer (some ⟨Bd,0,none⟩)])] 23)=X:=⟨_,rfl⟩;rw[hW0]at yB pB wB fB hB0 hz0 ⊢;clear hW0;obtain⟨By,uK⟩:∃x,W.heap.size=x:=⟨_,rfl⟩;rw[uK]at yB pB wB fB hB0 hz0 ⊢;obtain⟨Bp,EJ⟩:∃x,By+1=x:=⟨_,rfl⟩;rw[EJ]at pB wB fB hz0 ⊢;obtain⟨Bw,hBw⟩:∃x,Bp+1=x:=⟨_,rfl⟩;rw[hBw]at wB fB hz0 ⊢;obtain⟨Bl,hBl⟩:∃x,Bw+1=x:=⟨_,rfl⟩;rw[hBl]at fB hz0 ⊢;have hcap0:Cap W0 Bd Bt Br mb s zk e:=HCAP.out.same (λb hb=>hB0.block b (by have:=HCAP.out.lt b hb;omega));have hInv:VQ s zk e sub L xQ J By Bp Bw By Bl Bd Bt Br mb l f0 ByteArray.empty zk [] (λb=>By≤b∧b<W0.heap.size) [] W0:=by
  refine⟨WY.out.symm,?_,⟨⟨_,pB,World.ownsRow_nil _ _ _ _,λg hg=>by cases hg⟩,wB,yB,fB,?_⟩,hcap0,uU.nil _ _ _,hf0,hR0,Nat.zero_le _⟩
  ·exact HJ.out.below WX.out (uK▸hB0) (λb hb=> .inr (by rw[uK];exact hb.1))
  ·intro b hb
   refine⟨?_,λh=>h⟩;show By≤b∧b<W0.heap.size;omega
 have hne:(Bp≠Bw∧Bp≠By∧Bp≠Bd)∧(Bw≠By∧Bw≠Bd)∧(Bp≠Bw∧Bp≠By∧Bp≠Bl)∧By≤Bp∧Bw≠Bl∧By<Bw:=by
  have:=HCAP.out.lt Bd (.inl rfl);omega
 have QG:∀b,jE Bd Bt Br mb b→b<By:=λb hb=>by have:=HCAP.out.lt b hb;omega
 have JI:=hid QG;have jQ:=hid hne;have cf0:W0.cell? ⟨Bf,0,none⟩=some (.int .i64 (f0:Int)):=(hB0.cell (p:=⟨Bf,0,none⟩) (by rw[←uK];exact lf)).trans cf;have zcj:=hid hInv;clear hInv QG hcap0 yB pB wB fB hB0 hz0 EJ hBw hBl WX WY HCAP cf lf
 go_step3
 go_wp2;refine wp_loop (λa' wr=>∃(ds:List Deferred) (a:Nat) (h:ByteArray) (wv:Bool) (pre:List Pc) (T:Nat→Prop) (u10 u11 u12 u13 u14 EK EL u20 u21 u22 u23 u24 u25 u26 u27 u28 u29 u30 u31 u32 u33 u34 u35 u36 u37 u38 EM u40 EN u42 EO u44 u45 u46 EP u48 u49 ER u51 ES u53 ET u55 EU EW u58 u59 u60 u61 EX u63 u64 EY:Value),a'={tmps:=#[.func (.yield l) #[] #[],.pointer (some ⟨Bd,0,none⟩),.pointer (some ⟨Bf,0,none⟩),.pointer (some ⟨Bt,0,none⟩),.pointer (some ⟨Br,0,none⟩),.pointer (some ⟨By,0,none⟩),.pointer (some ⟨Bp,0,none⟩),.pointer (some ⟨Bw,0,none⟩),.pointer (some ⟨Bl,0,none⟩),.int .i64 (a:Int),u10,u11,u12,u13,u14,.bool zk,.func (.func 151) #[] #[.pointer (some ⟨Bp,0,none⟩),.pointer (some ⟨Bw,0,none⟩),.pointer (some ⟨By,0,none⟩),.pointer (some ⟨Bd,0,none⟩)],.int .i64 (f0:Int),EK,EL,u20,u21,u22,u23,u24,u25,u26,u27,u28,u29,u30,u31,u32,u33,u34,u35,u36,u37,u38,EM,u40,EN,u42,EO,u44,u45,u46,EP,u48,u49,ER,u51,ES,u53,ET,u55,EU,EW,u58,u59,u60,u61,EX,u63,u64,EY,undef,undef],defers:=ds}∧VQ s zk e sub L xQ J By Bp Bw By Bl Bd Bt Br mb l a h wv pre T ds wr)
  (λa' _=>e-(intOf (a'.tmps.getD 9 undef)).toNat) ?_ ?_
 ·refine⟨[],f0,ByteArray.empty,zk,[],(λb=>By≤b∧b<W0.heap.size),?_⟩
  (repeat apply Exists.intro)
  refine⟨rfl,zcj.out⟩
 ·intro a' wr hx
  obtain⟨ds,a,h,wv,pre,T,hx⟩:=hx;obtain⟨u10,hx⟩:=hx;obtain⟨u11,hx⟩:=hx;obtain⟨u12,hx⟩:=hx;obtain⟨u13,hx⟩:=hx;obtain⟨u14,hx⟩:=hx;obtain⟨EK,hx⟩:=hx;obtain⟨EL,hx⟩:=hx;obtain⟨u20,hx⟩:=hx;obtain⟨u21,hx⟩:=hx;obtain⟨u22,hx⟩:=hx;obtain⟨u23,hx⟩:=hx;obtain⟨u24,hx⟩:=hx;obtain⟨u25,hx⟩:=hx;obtain⟨u26,hx⟩:=hx;obtain⟨u27,hx⟩:=hx;obtain⟨u28,hx⟩:=hx;obtain⟨u29,hx⟩:=hx;obtain⟨u30,hx⟩:=hx;obtain⟨u31,hx⟩:=hx;obtain⟨u32,hx⟩:=hx;obtain⟨u33,hx⟩:=hx;obtain⟨u34,hx⟩:=hx;obtain⟨u35,hx⟩:=hx;obtain⟨u36,hx⟩:=hx;obtain⟨u37,hx⟩:=hx;obtain⟨u38,hx⟩:=hx;obtain⟨EM,hx⟩:=hx;obtain⟨u40,hx⟩:=hx;obtain⟨EN,hx⟩:=hx;obtain⟨u42,hx⟩:=hx;obtain⟨EO,hx⟩:=hx;obtain⟨u44,hx⟩:=hx;obtain⟨u45,hx⟩:=hx;obtain⟨u46,hx⟩:=hx;obtain⟨EP,hx⟩:=hx;obtain⟨u48,hx⟩:=hx;obtain⟨u49,hx⟩:=hx;obtain⟨ER,hx⟩:=hx;obtain⟨u51,hx⟩:=hx;obtain⟨ES,hx⟩:=hx;obtain⟨u53,hx⟩:=hx;obtain⟨ET,hx⟩:=hx;obtain⟨u55,hx⟩:=hx;obtain⟨EU,hx⟩:=hx;obtain⟨EW,hx⟩:=hx;obtain⟨u58,hx⟩:=hx;obtain⟨u59,hx⟩:=hx;obtain⟨u60,hx⟩:=hx;obtain⟨u61,hx⟩:=hx;obtain⟨EX,hx⟩:=hx;obtain⟨u63,hx⟩:=hx;obtain⟨u64,hx⟩:=hx;obtain⟨EY,hx⟩:=hx;obtain⟨hx,I⟩:=hx;subst hx;try dsimp only
  have ct:=I.cap.t.cell 0;have Gw:=I.cap.r.cell 0;have WZ:=I.cap.r.cell 1;have cd:=I.cap.d.cell 0;have HI:=hid I;have hal:=I.ha;clear I;by_cases hlt:a<e
  ·have hlt2:(a:Int)<(e:Int):=by omega
   have hm:=HI.out.cap.m
   cases hbn:born s a with
   |false=>
    have qg:=hid hbn;clear hbn
    go_wp2_with (at_lookup;refine zcc rfl _ _ rfl rfl hm a rfl (by omega) qg ?_)
    have hI1:=HI.out.below HJ.out (W1:=wr.alloc (.cells #[.int .i64 0,.int .i64 0,.int .i64 0,.int .i64 0,.bool false] 142)) ((Below.refl _ _).alloc (Nat.le_refl _) _);obtain⟨W1,hW1⟩:∃X,wr.alloc (.cells #[.int .i64 0,.int .i64 0,.int .i64 0,.int .i64 0,.bool false] 142)=X:=⟨_,rfl⟩;rw[hW1]at hI1 ⊢;clear hW1 ct Gw WZ cd hm;have Gw:=hI1.cap.r.cell 0;obtain⟨v,hv,hrow,Zm⟩:=hI1.st.p;obtain⟨oa,oc,rfl⟩:∃oa oc,v=.slice oa h.size oc:=by
     rcases hrow.2 with⟨h1,h2⟩|⟨g,cap,cur,h1,_⟩
     ·exact⟨none,0,by rw[h1,h2]⟩
     ·exact⟨_,_,h1⟩
    obtain⟨z,hz⟩:∃z,h.size=z:=⟨_,rfl⟩;have HZ:=hid hz;rw[hz]at hrow hv Zm;have cp:=hv.cell 0;have fp:=hv.frozen 0;have lp:=hv.lt;have lr:=hI1.cap.r.lt;have hzl:z≤60000:=by have:=HI.out.hh;omega
    obtain⟨bb,hbb⟩:∃bb,by8 s a=bb:=⟨_,rfl⟩;have JJ:=hid hbb;have has:a<s.size:=by omega
    have zmq:(a:Int)<(s.size:Int):=by omega
    have zmr:(0:Int)≤(a:Int):=by omega
    have hix:∀hh:a<s.size,(s[a]'hh).toNat=bb:=λhh=>by rw[←hbb];unfold by8;rw[yx hh]
    have EZ:By≤W1.heap.size:=by have:=hI1.st.y.lt;omega
    have hB2:∀o,By≤(W1.alloc o).drew.heap.size:=λo=>by show By≤(W1.alloc o).heap.size;rw[World.size_alloc];omega
    have hR:∀X,zg (λ_=>False) W1 X→X.ownsRow By 5 1 (.slice oa z oc) z (Lib.strCells h):=λX hX=>zQ hX hrow (λ_ _ h=>h);have hgm:some Bp≠(Value.slice oa z oc).ownBlock:=λe2=>by
     rcases hrow.2 with⟨g1,_⟩|⟨g,cap,cur,g1,_,g3,_⟩
     ·rw[g1]at e2;cases e2
     ·rw[g1]at e2
      have e':g=Bp:=by simpa[Value.ownBlock]using e2.symm
      subst e';rw[show W1.heap[g]?=_ from hv]at g3;injection g3 with g3;injection g3 with _ g5 _;exact absurd g5 (by decide)
    have HV:=hid hv;have Gx:=hid hrow;have Tm:=hid Zm;have HI1:=hid hI1;clear hz hbb hrow Zm hI1;go_wp2;refine zch ?_
    go_region_law (refine zci (by rfl) _ _ (by rfl) By z (.slice oa z oc) (Lib.strCells h) (by rfl) (hR _ (((zg.refl _ _).alloc _).drew)) (hB2 _) W1.heap.size bb (by rfl) ((zh.new W1 _ _).drew) (by omega) ?_;intro g' c' w' hown hgr hg';have o7:=((hv.alloc (.cells #[.int .u8 (bb:Int)] 5)).drew).grown hgr hgm;have d0:w'.cell? ⟨Bp,0,none⟩=some (.slice oa z oc):=o7.cell 0;have df:=o7.frozen 0)
    all_goals
     go_wp2;have hFr:zg (λb=>b=Bp∨(Value.slice oa z oc).ownBlock=some b) W1 w':=(((zg.refl _ W1).alloc _).drew).grown hgr (λk hk=> .inl (.inr hk));have hg':some g'=(Value.slice oa z oc).ownBlock∨g'=W1.heap.size+1:=by
      rcases hg' with h1|h1
      ·exact .inl h1
      ·exact .inr (h1.trans (World.size_alloc _ _))
     have hgb:g'≠Bp:=by
      rcases hg' with e1|e1
      ·intro e2
       subst e2;exact hgm e1
      ·omega
     have hes:(h++s.extract a (a+1)).size=z+1:=by rw[ByteArray.size_append,HZ.out];simp;omega
     have Tn:Lib.strCells (h++s.extract a (a+1))=Lib.strCells h++ [Value.int .u8 (bb:Int)]:=zcg h has JJ.out;refine⟨⟨ds,a+1,h++s.extract a (a+1),wv,pre,λb=>(T b∨wr.heap.size≤b)∨W1.heap.size≤b,?_⟩,?_⟩
     ·repeat apply Exists.intro
      refine⟨rfl,HI1.out.put HJ.out HV.out (by rw[HZ.out];exact Gx.out) (λg hg=>(Tm.out g hg).1) jQ.out.2.2.1 jQ.out.2.2.2.1 JI.out (hFr.setCell 0 (.inl (.inl rfl)) _) (o7.set 0 _) ?_ ?_ ?_ ?_ ?_ ?_⟩
      ·rw[hes,Tn]
       exact zQ (zg.setCell (p:=λb=>b=Bp) (zg.refl _ w') 0 (.inl rfl) _) hown (λk hk e2=>hgb (by simp[Value.ownBlock]at hk;omega))
      ·intro g hg
       have e2:g'=g:=by simpa[Value.ownBlock]using hg
       subst e2;rcases hg' with e1|e1
       ·exact .inl e1.symm
       ·exact .inr (by omega)
      ·exact Tq he hlt qg.out
      ·omega
      ·exact HR1.out a HI.out.hr hlt qg.out
      ·rw[hes];have:=HI.out.hh;rw[HZ.out]at this;omega
     ·simp[intOf];omega
   |true=>
    have has:a<s.size:=by omega
    have XX:=qH s a;have hto:=uV hbn has;have hle:=Zo has hbn;have DR:=Tt hbn has;obtain⟨p,hp⟩:∃p,prt s a=p:=⟨_,rfl⟩;rw[hp]at XX hto hle DR;obtain⟨md,f,t,up,op⟩:=p;simp only at XX hto hle DR;obtain rfl:a=f:=XX.symm;have qg:=hid hbn;have HP:=hid hp;have HQ:Hid (a<s.size∧born s a=true∧prt s a=⟨md,a,t,up,op⟩):=hid ⟨has,hbn,hp⟩;have h13:md=13→t=a+1∨t=a+2:=λh=>by have:=DR h;split at this<;>omega
    have H13:=hid h13;have ht1:=hto;have ht2:=hle.1;clear hbn hp DR h13 hto hle XX;have hbt:∀o:Obj,Below wr.heap.size wr (wr.alloc o):=λo=>(Below.refl _ _).alloc (Nat.le_refl _) o;have lr:=HI.out.cap.r.lt;have lt':=HI.out.cap.t.lt;have ld:=HI.out.cap.d.lt
    go_wp2_with (at_lookup;refine zcb rfl _ _ rfl rfl hm a md a t up op rfl (by omega) HQ ?_)
    refine(zb7 _ s mb md a t up op zk ht1 ht2 (by omega) H13.out).mono ?_;rintro e2 w3 ⟨⟨X,b,rfl,hX⟩,hB3⟩;have hB4:Below wr.heap.size wr w3:=(hbt (.cells #[.int .i64 (md:Int),.int .i64 (a:Int),.int .i64 (t:Int),.int .i64 up,.bool op] 142)).trans (hB3.mono (by rw[World.size_alloc];omega));have kP:zh w3 wr.heap.size #[.int .i64 (md:Int),.int .i64 (a:Int),.int .i64 (t:Int),.int .i64 up,.bool op] 142:=(zh.new wr _ _).below hB3;have Zb:=HI.out.below HJ.out hB4;have QJ:=hid hX;clear hX hB3 ct Gw WZ cd hm lr lt' ld
    cases b with
    |true=>
     obtain⟨v,hv,hrow,Zm⟩:=Zb.st.p;obtain⟨oa,oc,rfl⟩:∃oa oc,v=.slice oa h.size oc:=by
      rcases hrow.2 with⟨h1,h2⟩|⟨g,cap,cur,h1,_⟩
      ·exact⟨none,0,by rw[h1,h2]⟩
      ·exact⟨_,_,h1⟩
     obtain⟨z,hz⟩:∃z,h.size=z:=⟨_,rfl⟩;have HZ:=hid hz;rw[hz]at hrow hv Zm;have cp:=hv.cell 0;have fp:=hv.frozen 0;have hzl:z≤60000:=by have:=HI.out.hh;omega
     have Zc:X.size≤t-a:=EF QJ.out;have EZ:By≤w3.heap.size:=by have:=Zb.st.y.lt;omega
     have Gx:=hid hrow;have HV:=hid hv;have Tm:=hid Zm;have HI3:=hid Zb;clear hz hrow Zm Zb
     go_wp2_with (at_builtin;refine EH rfl _ _ rfl By z _ (Lib.strCells h) X rfl rfl Gx.out EZ (by omega) (by omega) ?_;intro yD oc' w' hown hgr hg';have o7:=hv.grown hgr (EE Gx.out HV.out);have d0:=o7.cell 0;have df:=o7.frozen 0)
     have hFr:zg (λb=>b=Bp∨(Value.slice oa z oc).ownBlock=some b) w3 w':=(zg.refl _ w3).grown hgr (λk hk=> .inl (.inr hk));have hgb:∀g,(Value.slice yD (z+X.size) oc').ownBlock=some g→g≠Bp:=by
      intro g hg e2;subst e2;rcases hg' with e1|e1
      ·exact EE Gx.out HV.out (hg.symm.trans e1)
      ·rw[e1]at hg
       have:=HV.out.lt;injection hg with hg;omega
     have hes:(h++X).size=z+X.size:=by rw[ByteArray.size_append,HZ.out]
     have Tn:Lib.strCells (h++X)=Lib.strCells h++Lib.strCells X:=by simp[Lib.strCells]
     refine⟨⟨ds,t,h++X,wv,pre,λb=>(T b∨wr.heap.size≤b)∨w3.heap.size≤b,?_⟩,?_⟩
     ·repeat apply Exists.intro
      refine⟨rfl,HI3.out.put HJ.out HV.out (by rw[HZ.out];exact Gx.out) (λg hg=>(Tm.out g hg).1) jQ.out.2.2.1 jQ.out.2.2.2.1 JI.out (hFr.setCell 0 (.inl (.inl rfl)) _) (o7.set 0 _) ?_ ?_ ?_ ?_ ?_ ?_⟩
      ·rw[hes,Tn]
       exact zQ (zg.setCell (p:=λb=>b=Bp) (zg.refl _ w') 0 (.inl rfl) _) hown (λk hk e2=>hgb k hk e2)
      ·intro g hg
       rcases hg' with e1|e1
       ·exact .inl (e1.symm.trans hg)
       ·rw[e1]at hg
        injection hg with hg;exact .inr (by omega)
      ·have:=Tu (sub:=sub) (h:=h) (w:=wv) he hlt qg.out (t:=X) (by rw[HP.out];simpa using QJ.out)
       rw[HP.out]at this;exact this
      ·omega
      ·have:=HR2.out a HI.out.hr hlt qg.out
       rw[HP.out]at this;exact this
      ·rw[hes];have:=HI.out.hh;rw[HZ.out]at this;omega
     ·simp[intOf];omega
    |false=>
     have hit:yf s (prt s a) zk=none:=by rw[HP.out];simpa using QJ.out
     have lg:L=pre++(fl zk h false++(sub a++Rm s zk sub e t ByteArray.empty false)):=by
      have h1:=Zb.hL;rw[Tv he hlt qg.out hit,HP.out]at h1;exact h1
     have nr:Br<By∧Bd<By:=⟨JI.out Br (.inr (.inr (.inl rfl))),JI.out Bd (.inl rfl)⟩;have nw:=HI.out.st.w.lt;have hne5:=jQ.out;have cw:=Zb.st.w.cell 0;have fw:=Zb.st.w.frozen 0;have Gw:=Zb.cap.r.cell 0;have WZ:=Zb.cap.r.cell 1;have cd:=Zb.cap.d.cell 0;have p0:=kP.cell 0;have p1:=kP.cell 1;have p2:=kP.cell 2;have p3:=kP.cell 3;have p4:=kP.cell 4;have n1:Br≠Bw:=by omega
     have n2:Bd≠Bw:=by omega
     have n3:wr.heap.size≠Bw:=by omega
     have yM:zg (λb=>b=Bw) w3 (w3.setCell ⟨Bw,0,none⟩ (.bool false)):=zg.setCell (p:=λb=>b=Bw) (zg.refl _ w3) 0 (.inl rfl) _;have lh:(w3.setCell ⟨Bw,0,none⟩ (.bool false)).heap.size=w3.heap.size:=by simp[World.setCell]
     have w5:=Zb.st.w.set 0 (.bool false);have E5:=HJ.out.same Zb.hJ (yM.mono (λb _ hb=>hb▸(Zb.st.own Bw (.inr (.inl rfl))).1));have XY:=HT.out a (w3.setCell ⟨Bw,0,none⟩ (.bool false)) HI.out.hr hlt qg.out hit (Zb.cap.zf yM (λb hb e2=>by have:=JI.out b hb;omega)).m;rw[HP.out]at XY;have DT:=hid XY;have HI3:=hid Zb;clear XY Zb hit
     go_wp2_with fail
     refine(DT.out).mono ?_;intro e5 Wt hTd;obtain⟨gf,lb,C',rfl,hBt,henter,hC',hseq⟩:=hTd;have E8:zg (λ_=>False) (w3.setCell ⟨Bw,0,none⟩ (.bool false)) Wt:=zg.of_below hBt;have hft:zg (λb=>b=Bw) w3 Wt:=yM.trans E8 (λ_ _ h=>h.elim);have lq:w3.heap.size≤Wt.heap.size:=hft.size;obtain⟨v,hv,hrow,Zm⟩:=HI3.out.st.p;have hvb:¬v.ownBlock=some Bw:=λe2=>by
      rcases hrow.2 with⟨g1,_⟩|⟨g,cap,cur,g1,_,g3,_⟩
      ·rw[g1]at e2;cases e2
      ·rw[g1]at e2
       have e':g=Bw:=by simpa[Value.ownBlock]using e2
       subst e';rw[show w3.heap[g]?=_ from HI3.out.st.w]at g3;injection g3 with g3;injection g3 with _ g5 _;exact absurd g5 (by decide)
     have fA:QI s zk e J By Bp Bw By Bl Bd Bt Br mb l h pre ds Wt.heap.size C' [] (λ_=>False) Wt:=by
      have hown:∀b,b<w3.heap.size→(T b∨wr.heap.size≤b)→((T b∨wr.heap.size≤b)∨w3.heap.size≤b)∧¬(False∨b=Wt.heap.size∨b=Wt.heap.size+1):=λb hb ht=>⟨.inl ht,λhh=>by rcases hh with h|h|h;exact h;omega;omega⟩;refine⟨λb=>(T b∨wr.heap.size≤b)∨w3.heap.size≤b,?_,⟨⟨v,hv.zf hft (λe=>hne5.1.1 e),zQ hft hrow (λk hk e2=>hvb (e2▸hk)),λg hg=>hown g (ji hrow g hg) (Zm g hg).1⟩,w5.zf E8 (λh=>h),HI3.out.st.y.zf hft (λe=>hne5.2.1.1 e.symm),HI3.out.st.f.zf hft (λe=>hne5.2.2.2.2.1 e.symm),?_⟩,?_,?_,(λb hb=>hb.elim),.inr lq,.inr (by omega),?_,?_⟩
      ·show J (pre++ []) _ Wt
       rw[List.append_nil];exact HJ.out.below E5 hBt (λb hb=>by rw[lh];exact hb)
      ·rintro b (rfl|rfl|rfl|rfl)
       ·exact hown _ hv.lt (HI3.out.st.own _ (.inl rfl)).1
       ·exact hown _ HI3.out.st.w.lt (HI3.out.st.own _ (.inr (.inl rfl))).1
       ·exact hown _ HI3.out.st.y.lt (HI3.out.st.own _ (.inr (.inr (.inl rfl)))).1
       ·exact hown _ HI3.out.st.f.lt (HI3.out.st.own _ (.inr (.inr (.inr rfl)))).1
      ·exact HI3.out.cap.zf hft (λb hb e2=>by have:=JI.out b hb;omega)
      ·obtain⟨Ds,e1,e2,e3⟩:=HI3.out.Gv
       refine⟨Ds,e1,e2,λD hD=>?_⟩;obtain⟨d1,d2,d3⟩:=e3 D hD;have hDl:=(Array.getElem?_eq_some_iff.1 d3).1;exact⟨(hown D hDl d1).1,(hown D hDl d1).2,(hft.block D hDl (λe=>by subst e;rw[show w3.heap[D]?=_ from HI3.out.st.w]at d3;cases d3)).trans d3⟩
      ·intro b hb
       rcases(hC' b hb).2 with h|h
       ·exact .inl h
       ·rw[lh]at h
        exact .inr (.inr h)
      ·intro b hb
       have:=HI3.out.cap.lt b hb;exact⟨λh=>h,by omega⟩
     clear cw fw Gw WZ cd p0 p1 p2 p3 p4;have HIT:=hid fA;have lu:=hid hseq;have jk:=hid hC';clear fA hseq hC' E5 w5;go_wp2;refine(wpIn_wide (n:=n)).1 (fC (L:=sub a) (encs:=Za) (C:=C') (gf:=gf) (lb:=lb) rfl henter (λW hW=>lu.out (n-1) W (by omega) hW) (λb hb=>(jk.out b hb).1) ?hps
      (QI s zk e J By Bp Bw By Bl Bd Bt Br mb l h pre ds Wt.heap.size C') (DN Jx ds Wt.heap.size) (QI.Zn HJ.out) (DN.Zn DJ.out) ?start ?round ?fin ?stop)
     case hps=>intro x;rfl
     case start=>
      intro W hB _;exact QI.Zn HJ.out [] _ Wt W _ HIT.out (zg.of_below hB) (λb hb=> .inl hb)
     case round=>
      rintro pin x rest yj W hLx ⟨T9,h1,h2,h3,h4,h5,h6,h7,h8,h9⟩ Zp XZ hrec hdef t1 t2;simp only[Za,Gp]
      gi_wp2
      obtain⟨W2,hW2⟩:∃X,W.alloc (.cells #[.bool x.ex,.bool x.q,.string x.t] 133)=X:=⟨_,rfl⟩;have hB2:Below W.heap.size W W2:=by rw[←hW2];exact(Below.refl _ _).alloc (Nat.le_refl _) _
      have kX:zh W2 W.heap.size #[.bool x.ex,.bool x.q,.string x.t] 133:=by rw[←hW2];exact zh.new W _ _
      have z2:W2.heap.size=W.heap.size+1:=by rw[←hW2];simp
      rw[hW2];clear hW2;refine⟨hB2.block _ (by omega),hB2.block _ (by omega),⟨hB2.size,λb hb _=>hB2.block b hb⟩,λr=>?_⟩;obtain⟨W3,hW3⟩:∃X,W2.putObj (Wt.heap.size+1) (.loop r)=X:=⟨_,rfl⟩;have z3:W3.heap.size=W.heap.size+1:=by rw[←hW3,←z2];simp
      have hF3:zg (λb=>b=Wt.heap.size+1) W W3:=by
       rw[←hW3];exact(zg.of_below hB2).trans (uH (p:=λb=>b=Wt.heap.size+1) W2 _ rfl) (λ_ _ h=>h)
      have TA:zh W3 W.heap.size #[.bool x.ex,.bool x.q,.string x.t] 133:=by
       rw[←hW3];exact(World.putObj_heap_other (by omega)).trans kX
      rw[hW3];clear hW3 kX hB2 z2 hrec hdef;obtain⟨T3,JK⟩:∃T3:Nat→Prop,T3=λb=>(T9 b∨W.heap.size≤b)∧b<W3.heap.size:=⟨_,rfl⟩;have t3:∀b,b<W.heap.size→T9 b→T3 b:=λb hb ht=>by rw[JK];exact⟨.inl ht,by omega⟩
      have fD:∀b,T3 b→b<W3.heap.size:=λb hb=>by rw[JK]at hb;exact hb.2
      have t3X:T3 W.heap.size:=by rw[JK];exact⟨.inr (Nat.le_refl _),by omega⟩
      have j3:J (pre++QH zk h pin) T3 W3:=HJ.out _ T9 W W3 _ h1 (hF3.mono (λb _ hb=>hb▸h7)) (λb hb=>by rw[JK]at hb;exact hb.1);have S3:=h2.zf (T':=T3) hF3 (λb _ _ hb=> .inr (.inr hb)) t3 (λ_ _ hh=>hh);have c3:=h3.zf hF3 (λb hb e2=>by have:=(h9 b hb).2;omega);have m3:=h4.zf (T':=T3) hF3 (λb _ _ hb=> .inr (.inr hb)) t3 (λ_ _ hh=>hh);have hQ:(pre++QH zk h pin)++fl zk (hIn h pin) false=pre++(fl zk h false++pin):=by
       unfold QH hIn;by_cases hp0:pin=[]
       ·rw[if_pos hp0,if_pos hp0,hp0];simp
       ·rw[if_neg hp0,if_neg hp0]
        have e0:fl zk ByteArray.empty false=[]:=rfl;rw[e0,List.append_nil]
      have fE:L=(pre++(fl zk h false++pin))++x::(rest++Rm s zk sub e t ByteArray.empty false):=by
       rw[lg,hLx];simp[List.append_assoc]
      have hhI:(hIn h pin).size≤1000000:=by
       unfold hIn;split
       ·have:=HI.out.hh;omega
       ·exact Nat.zero_le _
      have LET:=ED n (by omega) HJ.out HY.out S3 c3 m3 j3 fD hhI jQ.out.1 ⟨jQ.out.2.2.1.2.2,jQ.out.2.2.2.1⟩ JI.out ⟨x::(rest++Rm s zk sub e t ByteArray.empty false),by rw[hQ];exact fE⟩;rw[hQ]at LET;have TB:=hid (CallsIn.inRound (Wt.heap.size+1) ((callsIn_wide (n:=n-1-1-1)).2 ((callsIn_wide (n:=n)).1 LET)));have zms:Bp<Wt.heap.size:=by have:=hv.lt;omega
      have zck:¬yj Bp:=λhh=>(S3.own Bp (.inl rfl)).2 (.inl hh);have hkp:∀X,zM (jE Bd Bt Br mb) (λb=>T3 b∧b≠Bp) W3 X→X.heap[Wt.heap.size+1]?=W3.heap[Wt.heap.size+1]?∧X.heap[Wt.heap.size]?=W3.heap[Wt.heap.size]?∧zM C' yj W3 X:=by
       intro X hk;refine⟨hk.same _ (by omega) (.inl ⟨t3 _ (by omega) h7,by omega⟩),hk.same _ (by omega) (.inl ⟨t3 _ (by omega) h6,by omega⟩),hk.size,λb hb hh=>?_⟩;rcases hh with hh|hh
       ·have hbl:=Zp b hh
        exact hk.same b hb (.inl ⟨t3 b hbl (h5 b hh),λe=>zck (e▸hh)⟩)
       ·have hc:=jk.out b hh
        rcases hc.2 with e|e
        ·exact hk.same b hb (.inr (.inr (.inr (.inr e))))
        ·rcases h8 b hh with e2|e2
         ·exact hk.same b hb (.inr (.inr (.inr (.inr e2))))
         ·refine hk.same b hb (.inl ⟨t3 b (by omega) e2,λe3=>?_⟩)
          have:=hv.lt;rw[lh]at e;omega
      have yS:=hid hkp;have hcl:=S3.f.cell 0;have h11:1≤n-1-1:=by omega
      clear hkp LET S3 j3 h1 h2 h3 h4 c3
      gi_wp2_with fail
      refine⟨trivial,(TB.out).mono ?_⟩;rintro en W9 ⟨⟨hk,X3,Gy⟩,hr⟩;obtain⟨g1,g2,g3⟩:=yS.out W9 hk;rcases hr with⟨rfl,Y3,TC,QK⟩|⟨rfl,pp,Y3⟩
      ·have TD:zh W9 W.heap.size #[.bool x.ex,.bool x.q,.string x.t] 133:=(hk.same _ (by omega) (.inl ⟨t3X,by omega⟩)).trans TA
       have x0:=TD.cell 0;have x1:=TD.cell 1;have x2:=TD.cell 2;have cy9:=TC.y.cell 0;obtain⟨fn9,zcl,zcm,body9,lC,DU⟩:=YieldAt.any (m:=n-1-1-1) (HY.out _ x _ T3 W9 fE Y3 (λb hb=>by have:=fD b hb;omega));dsimp only[Za,Gp]at lC;have HK:=hid hk;have JL:=hid X3;have HS9:=hid TC;have HC9:=hid QK;clear hk X3 TC QK Y3 g1 g2 g3 hcl
       gi_wp2_with fail
       refine RoundIn.mono (F:=Fence.wide) DU ?_;rintro e9 WA ⟨lD,hrA⟩;have hk2:zM (jE Bd Bt Br mb) (λb=>T3 b∧b≠Bp) W3 WA:=HK.out.trans ⟨lD.size,λb hb hh=>lD.same b hb (hh.imp (λh=>h.1) id)⟩;obtain⟨g1,g2,g3⟩:=yS.out WA hk2;have HG:=hid (show _∧_∧_ from⟨g1,g2,g3⟩);have mA:=JL.out.kept lD;have DV:=hid mA;have DW:∀b,yj b→T3 b:=λb hb=>t3 b (Zp b hb) (h5 b hb);have JM:T3 Wt.heap.size:=t3 _ (by omega) h6;have DX:T3 (Wt.heap.size+1):=t3 _ (by omega) h7;clear g1 g2 g3 mA;rcases hrA with⟨rfl,lF⟩|⟨rfl,lF⟩
       ·have lG:QI s zk e J By Bp Bw By Bl Bd Bt Br mb l h pre ds Wt.heap.size C' (pin++ [x]) yj WA:=by
         refine⟨T3,?_,?_,HC9.out.kept lD (λb h=>h),DV.out,DW,JM,DX,λb hb=>?_,h9⟩
         ·unfold QH
          rw[if_neg (by simp)];simpa[List.append_assoc]using lF
         ·unfold hIn
          rw[if_neg (by simp)];exact HS9.out.kept lD
         ·rcases h8 b hb with e2|e2
          ·exact .inl e2
          ·exact .inr (t3 b (by have:=(jk.out b hb).1;omega) e2)
        have TE:=hid lG;clear lG lF
        gi_wp2
        exact⟨HG.out.1,HG.out.2.1,HG.out.2.2,TE.out⟩
       ·have TF:=hid lF
        clear lF
        gi_wp2
        exact⟨HG.out.1,HG.out.2.1,HG.out.2.2,rfl,T3,⟨_,TF.out⟩,DV.out,DW,JM,DX⟩
      ·have HG:=hid (show _∧_∧_ from⟨g1,g2,g3⟩)
       have DV:=hid X3;have TF:=hid Y3;have DW:∀b,yj b→T3 b:=λb hb=>t3 b (Zp b hb) (h5 b hb);have JM:T3 Wt.heap.size:=t3 _ (by omega) h6;have DX:T3 (Wt.heap.size+1):=t3 _ (by omega) h7;clear g1 g2 g3 X3 Y3 hcl
       gi_wp2
       refine⟨λ_ h=>(by cases h),?_⟩
       gi_wp2
       exact⟨HG.out.1,HG.out.2.1,HG.out.2.2,rfl,T3,⟨_,TF.out⟩,DV.out,DW,JM,DX⟩
     case fin=>
      rintro yj W ⟨T9,h1,h2,h3,h4,h5,h6,h7,h8,h9⟩ XZ hWd;have hsa:=YD.out a;have hq:QH zk h (sub a)=fl zk h false++sub a:=by unfold QH;rw[if_neg hsa]
      have hh0:hIn h (sub a)=ByteArray.empty:=by unfold hIn;rw[if_neg hsa]
      rw[hq]at h1;rw[hh0]at h2;have hrel:VQ s zk e sub L xQ J By Bp Bw By Bl Bd Bt Br mb l t ByteArray.empty false (pre++(fl zk h false++sub a)) T9 ({target:=.collected Wt.heap.size,args:=#[]}::ds) W:=by
       refine⟨by rw[lg];simp[List.append_assoc],h1,h2.zf (p:=λ_=>False) (zg.refl _ _) (λ_ _ _ h=>h.elim) (λ_ _ h=>h) (λ_ _ h=>h.elim),h3,?_,ht2,?_,Nat.zero_le _⟩
       ·refine uU.cons (h4.zf (p:=λ_=>False) (zg.refl _ _) (λ_ _ _ h=>h.elim) (λ_ _ h=>h) (λ_ _ h=>h.elim)) (z:=Wt.heap.size) (λE hE=>?_) (Nat.le_refl _) ⟨h6,λh=>h⟩ hWd
        have:=HI3.out.Gv.lt E hE;omega
       ·have:=HR2.out a HI.out.hr hlt qg.out
        rw[HP.out]at this;exact this
      have zcn:=hid hrel;clear hrel h1 h2 h3 h4;dsimp only;refine⟨⟨{target:=.collected Wt.heap.size,args:=#[]}::ds,t,ByteArray.empty,false,pre++(fl zk h false++sub a),T9,?_⟩,?_⟩
      ·repeat apply Exists.intro
       refine⟨rfl,zcn.out⟩
      ·simp[intOf];omega
     case stop=>
      rintro c pin yj W ⟨rfl,T9,⟨pp,h1⟩,h4,h5,h6,h7⟩ XZ hWd;have X3:uU ({target:=.collected Wt.heap.size,args:=#[]}::ds) W T9 (λ_=>False):=by
       refine uU.cons (h4.zf (p:=λ_=>False) (zg.refl _ _) (λ_ _ _ h=>h.elim) (λ_ _ h=>h) (λ_ _ h=>h.elim)) (z:=Wt.heap.size) (λE hE=>?_) (Nat.le_refl _) ⟨h6,λh=>h⟩ hWd;have:=HI3.out.Gv.lt E hE;omega
      have JL:=hid X3;have lH:=hid h1;clear X3 h4 h1;refine(wpIn_wide (n:=n)).2 ?_;go_wp2;rw[Exit.noGoto_ret];obtain⟨Ds,e1,e2,e3⟩:=JL.out;rw[e1];exact DL rfl Ds W e2 (λD hD=>(e3 D hD).2.2) (λW' hf=>⟨⟨_,rfl⟩,.inr ⟨pp,T9,DJ.out.same lH.out (hf.mono (λb _ hb=>(e3 b hb).1))⟩⟩)
  ·have hle:a≤s.size:=hal
   have hrm:Rm s zk sub e a h wv=fl zk h wv:=TG hlt;have S9:YC By Bp Bw By Bl Bd l wr h wv (λb=>T b∧b<wr.heap.size) (λ_=>False):=HI.out.st.zf (p:=λ_=>False) (zg.refl _ _) (λ_ _ _ h=>h) (λb hb ht=>⟨ht,hb⟩) (λ_ _ h=>h);have m9:uU ds wr (λb=>T b∧b<wr.heap.size) (λ_=>False):=HI.out.Gv.zf (p:=λ_=>False) (zg.refl _ _) (λ_ _ _ h=>h) (λb hb ht=>⟨ht,hb⟩) (λ_ _ h=>h);have LET:=ED n (by omega) HJ.out HY.out S9 HI.out.cap m9 (HJ.out pre T wr wr _ HI.out.hJ (zg.refl _ _) (λb hb=> .inl hb.1)) (λb hb=>hb.2) (by have:=HI.out.hh;omega) jQ.out.1 ⟨jQ.out.2.2.1.2.2,jQ.out.2.2.2.1⟩ JI.out ⟨[],by rw[HI.out.hL,hrm];simp⟩;have TB:=hid LET;have cl:=S9.f.cell 0;have hLq:Hid (pre++fl zk h wv=L):=hid (by rw[HI.out.hL,hrm]);have hlt2:¬(a:Int)<(e:Int):=by omega
   clear LET S9 m9 hrm Gw WZ cd
   go_wp2_with fail
   refine((callsIn_wide (n:=n)).1 TB.out).mono ?_;rintro en W9 ⟨⟨hk,X3,Gy⟩,hr⟩;have JL:=hid X3;clear X3 cl ct;rcases hr with⟨rfl,Y3,_⟩|⟨rfl,pp,Y3⟩
   ·have lH:=hid Y3
    clear Y3;go_wp2;obtain⟨Ds,e1,e2,e3⟩:=JL.out;rw[e1];exact DL rfl Ds W9 e2 (λD hD=>(e3 D hD).2.2) (λW' hf=>⟨⟨_,rfl⟩,.inl ⟨_,by rw[←hLq.out];exact HJ.out.same lH.out (hf.mono (λb _ hb=>(e3 b hb).1))⟩⟩)
   ·have lH:=hid Y3
    clear Y3;go_wp2;obtain⟨Ds,e1,e2,e3⟩:=JL.out;rw[e1];exact DL rfl Ds W9 e2 (λD hD=>(e3 D hD).2.2) (λW' hf=>⟨⟨_,rfl⟩,.inr ⟨pp,_,DJ.out.same lH.out (hf.mono (λb _ hb=>(e3 b hb).1))⟩⟩)
end Go.Proofs.YtdjcidackkogjaaGreatDoor

/- What an iterator of pieces yields (between$1 of la -/
import Derived.Laws.EntriesVeiled
import Derived.Test.YtkolpaonccmgiaaGreatDoorLtD
set_option linter.unusedVariables false
namespace Go.Proofs.YtkolpaonccmgiaaGreatDoor
set_option linter.unusedSectionVars false
set_option linter.unusedVariables false
open Go.RowKit Go.Shelf
attribute [local go_sem] Oper.semAt_some
def TdP (mb:Nat) (L:List Pc) (w:World) (e:Ending) (w':World):Prop:=
 ∃(gf:Nat) (lb:Array Value) (C':Nat→Prop),e=.returned (.func (.func gf) #[] lb)∧Below w.heap.size w w'∧(∀args W,(callFunc gf args).run Tryz.prog W=.ok (.enter gf args) W)∧(∀b,C' b→b<w'.heap.size∧(b=mb∨w.heap.size≤b))∧
  ∀(n:Nat) (W:World),1≤n→Below w'.heap.size w' W→SeqT n Tryz.prog gf lb encC C' L W
def qIn (dbl:Bool) (h:ByteArray) (pin:List Pc):List Pc:=if pin=[]then []else fl dbl h false++pin
def hIn (h:ByteArray) (pin:List Pc):ByteArray:=if pin=[]then h else ByteArray.empty
def IIn (s:ByteArray) (dbl:Bool) (e:Nat) (J:List Pc→(Nat→Prop)→World→Prop) (B0 Bp Bw By Bl Bd Bt Br mb l:Nat) (h:ByteArray) (pre:List Pc) (ds:List Deferred) (z:Nat) (C':Nat→Prop) (pin:List Pc) (Tin:Nat→Prop) (W:World):Prop:=
 ∃T,J (pre++qIn dbl h pin) T W∧BSt B0 Bp Bw By Bl Bd l W (hIn h pin) false T (fun b=>Tin b∨b=z∨b=z+1)∧Cap W Bd Bt Br mb s dbl e∧Marks ds W T (fun b=>Tin b∨b=z∨b=z+1)∧(∀b,Tin b→T b)∧T z∧T (z+1)∧(∀b,C' b→b=mb∨T b)∧(∀b,CapC Bd Bt Br mb b→¬Tin b∧b<z)
def IXn (Jx:List Pc→(Nat→Prop)→World→Prop) (ds:List Deferred) (z:Nat) (c:Code) (pin:List Pc) (Tin:Nat→Prop) (W:World):Prop:=
 c=.ret∧∃T,(∃pp,Jx pp T W)∧Marks ds W T (fun b=>Tin b∨b=z∨b=z+1)∧(∀b,Tin b→T b)∧T z∧T (z+1)
theorem IIn.abid {s:ByteArray} {dbl:Bool} {e:Nat} {J:List Pc→(Nat→Prop)→World→Prop} {B0 Bp Bw By Bl Bd Bt Br mb l:Nat} {h:ByteArray} {pre:List Pc} {ds:List Deferred} {z:Nat} {C':Nat→Prop} (hJ:Abid J):AbidL (z+1) (IIn s dbl e J B0 Bp Bw By Bl Bd Bt Br mb l h pre ds z C'):=by
 rintro pin Tin W W' Tin' ⟨T,h1,h2,h3,h4,h5,h6,h7,h8,h9⟩ hf hT
 have hsub:∀b,b<W.heap.size→(Tin' b∨b=z∨b=z+1)→(Tin b∨b=z∨b=z+1):=by
  intro b hb hh
  rcases hh with hh|hh
  ·rcases hT b hh with g|g
   ·exact .inl g
   ·omega
  ·exact .inr hh
 have hpp:∀b,b<W.heap.size→T b→(Tin b∨b=z+1)→(Tin b∨b=z∨b=z+1):=fun b _ _ hh=>by rcases hh with g|g;exact .inl g;exact .inr (.inr g)
 refine⟨fun b=>T b∨W.heap.size≤b,hJ _ T W W' _ h1 (hf.mono (fun b _ hb=>by rcases hb with g|g;exact h5 b g;subst g;exact h7)) (fun b hb=>hb),h2.frm hf hpp (fun b _ hb=> .inl hb) hsub,h3.frm hf (fun b hb hp=>?_),h4.frm hf hpp (fun b _ hb=> .inl hb) hsub,?_,.inl h6,.inl h7,fun b hb=>(h8 b hb).imp id .inl,fun b hb=>⟨fun hh=>?_,(h9 b hb).2⟩⟩
 ·rcases hp with g|g
  ·exact(h9 b hb).1 g
  ·have:=(h9 b hb).2;omega
 ·intro b hb
  rcases hT b hb with g|g
  ·exact .inl (h5 b g)
  ·exact .inr g
 ·rcases hT b hh with g|g
  ·exact(h9 b hb).1 g
  ·have:=h3.lt b hb;omega
theorem IXn.abid {Jx:List Pc→(Nat→Prop)→World→Prop} {ds:List Deferred} {z:Nat} (hJ:Abid Jx) (c:Code):AbidL (z+1) (IXn Jx ds z c):=by
 rintro pin Tin W W' Tin' ⟨rfl,T,⟨pp,h1⟩,h4,h5,h6,h7⟩ hf hT
 have hsub:∀b,b<W.heap.size→(Tin' b∨b=z∨b=z+1)→(Tin b∨b=z∨b=z+1):=by
  intro b hb hh
  rcases hh with hh|hh
  ·rcases hT b hh with g|g
   ·exact .inl g
   ·omega
  ·exact .inr hh
 have hpp:∀b,b<W.heap.size→T b→(Tin b∨b=z+1)→(Tin b∨b=z∨b=z+1):=fun b _ _ hh=>by rcases hh with g|g;exact .inl g;exact .inr (.inr g)
 refine⟨rfl,fun b=>T b∨W.heap.size≤b,⟨pp,hJ _ T W W' _ h1 (hf.mono (fun b _ hb=>by rcases hb with g|g;exact h5 b g;subst g;exact h7)) (fun b hb=>hb)⟩,h4.frm hf hpp (fun b _ hb=> .inl hb) hsub,?_,.inl h6,.inl h7⟩
 intro b hb
 rcases hT b hb with g|g
 ·exact .inl (h5 b g)
 ·exact .inr g
structure BInv (s:ByteArray) (dbl:Bool) (e:Nat) (sub:Nat→List Pc) (L:List Pc) (Rch:Nat→Prop) (J:List Pc→(Nat→Prop)→World→Prop) (B0 Bp Bw By Bl Bd Bt Br mb l:Nat) (a:Nat) (h:ByteArray) (wv:Bool) (pre:List Pc) (T:Nat→Prop) (ds:List Deferred) (wr:World):Prop where
 hL:L=pre++Rm s dbl sub e a h wv
 hJ:J pre T wr
 st:BSt B0 Bp Bw By Bl Bd l wr h wv T (fun _=>False)
 cap:Cap wr Bd Bt Br mb s dbl e
 mks:Marks ds wr T (fun _=>False)
 ha:a≤s.size
 hr:Rch a
 hh:h.size≤a
section
variable {s:ByteArray} {dbl:Bool} {e:Nat} {sub:Nat→List Pc} {L:List Pc} {Rch:Nat→Prop} {J:List Pc→(Nat→Prop)→World→Prop} {B0 Bp Bw By Bl Bd Bt Br mb l a:Nat} {h:ByteArray} {wv:Bool} {pre:List Pc} {T:Nat→Prop} {ds:List Deferred} {wr W1 W3:World}
theorem BInv.below (hJ:Abid J) (I:BInv s dbl e sub L Rch J B0 Bp Bw By Bl Bd Bt Br mb l a h wv pre T ds wr) (hb:Below wr.heap.size wr W1):BInv s dbl e sub L Rch J B0 Bp Bw By Bl Bd Bt Br mb l a h wv pre (fun b=>T b∨wr.heap.size≤b) ds W1:=
 ⟨I.hL,hJ.below I.hJ hb (fun b h=>h),I.st.frm (p:=fun _=>False) (Frm.of_below hb) (fun _ _ _ h=>h) (fun _ _ h=> .inl h) (fun _ _ h=>h),I.cap.frm (p:=fun _=>False) (Frm.of_below hb) (fun _ _ h=>h),I.mks.frm (p:=fun _=>False) (Frm.of_below hb) (fun _ _ _ h=>h) (fun _ _ h=> .inl h) (fun _ _ h=>h),I.ha,I.hr,I.hh⟩
theorem BInv.put (hJ:Abid J) (I:BInv s dbl e sub L Rch J B0 Bp Bw By Bl Bd Bt Br mb l a h wv pre T ds wr) {v v':Value} (hv:Blk wr Bp #[v] 127) (hrow:wr.ownsRow B0 5 1 v h.size (Lib.strCells h)) (hvT:∀g,v.ownBlock=some g→T g)
  (hne:Bp≠Bw∧Bp≠By∧Bp≠Bl) (hB0:B0≤Bp) (hdist:∀b,CapC Bd Bt Br mb b→b<B0) (hf:Frm (fun b=>b=Bp∨v.ownBlock=some b) wr W3) {a2:Nat} {h2:ByteArray}
  (h1:Blk W3 Bp #[v'] 127) (h3:W3.ownsRow B0 5 1 v' h2.size (Lib.strCells h2)) (h4:∀g,v'.ownBlock=some g→v.ownBlock=some g∨wr.heap.size≤g)
  (hL:Rm s dbl sub e a h wv=Rm s dbl sub e a2 h2 wv) (ha2:a2≤s.size) (hr2:Rch a2) (hh2:h2.size≤a2):
  BInv s dbl e sub L Rch J B0 Bp Bw By Bl Bd Bt Br mb l a2 h2 wv pre (fun b=>T b∨wr.heap.size≤b) ds W3:=by
 have tp:∀{b:Nat} {cs:Array Value} {t:TypeId},Blk wr b cs t→t≠5→¬v.ownBlock=some b:=by
  intro b cs t hb ht e2
  rcases hrow.2 with⟨g1,_⟩|⟨g,cap,cur,g1,_,g3,_⟩
  ·rw [g1]at e2;cases e2
  ·rw [g1]at e2
   have e':g=b:=by simpa [Value.ownBlock]using e2
   subst e'
   rw [show wr.heap[g]?=_ from hb]at g3
   injection g3 with g3
   injection g3 with _ g5 _
   exact ht g5
 have hTp:∀b,(b=Bp∨v.ownBlock=some b)→T b:=by
  rintro b (rfl|hb)
  ·exact(I.st.own b (.inl rfl)).1
  ·exact hvT b hb
 have hW:Blk W3 Bw #[.bool wv] 4:=I.st.w.frm hf (fun h=>by rcases h with h|h;exact hne.1 h.symm;exact tp I.st.w (by decide) h)
 have hY:Blk W3 By _ 207:=I.st.y.frm hf (fun h=>by rcases h with h|h;exact hne.2.1 h.symm;exact tp I.st.y (by decide) h)
 have hF:Blk W3 Bl _ 23:=I.st.f.frm hf (fun h=>by rcases h with h|h;exact hne.2.2 h.symm;exact tp I.st.f (by decide) h)
 refine⟨by rw [←hL];exact I.hL,hJ pre T wr W3 _ I.hJ (hf.mono (fun b _ hb=>hTp b hb)) (fun b h=>h),⟨⟨v',h1,h3,fun g hg=>⟨?_,fun h=>h⟩⟩,hW,hY,hF,fun b hb=>⟨.inl (I.st.own b hb).1,fun h=>h⟩⟩,?_,?_,ha2,hr2,hh2⟩
 ·rcases h4 g hg with h|h
  ·exact .inl (hvT g h)
  ·exact .inr h
 ·refine I.cap.frm hf (fun b hb h=>?_)
  have:=hdist b hb
  rcases h with rfl|h
  ·omega
  ·have:=own_ge hrow b h
   omega
 ·obtain⟨Ds,e1,e2,e3⟩:=I.mks
  refine⟨Ds,e1,e2,fun D hD=>?_⟩
  obtain⟨d1,d2,d3⟩:=e3 D hD
  refine⟨.inl d1,fun h=>h,(hf.block D (Array.getElem?_eq_some_iff.1 d3).1 (fun h=>?_)).trans d3⟩
  rcases h with rfl|h
  ·rw [show wr.heap[D]?=_ from hv]at d3;cases d3
  ·rcases hrow.2 with⟨g1,_⟩|⟨g,cap,cur,g1,_,g3,_⟩
   ·rw [g1]at h;cases h
   ·rw [g1]at h
    have e':g=D:=by simpa [Value.ownBlock]using h
    subst e'
    rw [d3]at g3;cases g3
end
theorem strCells_push (h:ByteArray) {s:ByteArray} {a bb:Nat} (ha:a<s.size) (hb:by8 s a=bb):Lib.strCells (h++s.extract a (a+1))=Lib.strCells h++ [Value.int .u8 (bb:Int)]:=by
 have e:(s.extract a (a+1)).data.toList=[bt s a]:=by
  rw [bt_eq ha]
  have h1:a<s.data.size:=ha
  simp only [ByteArray.data_extract,Array.toList_extract,List.extract_eq_take_drop,Nat.add_sub_cancel_left]
  rw [List.drop_eq_getElem_cons (by simpa using h1)]
  rfl
 subst hb
 unfold by8
 simp only [Lib.strCells,ByteArray.data_append,Array.toList_append,List.map_append,e]
 rfl
theorem wp_calm {P:Program} {c:Code} {K:Act→World→Prop} {Q:Exit→Act→World→Prop} {a:Act} {w:World} (h:c.wp P (Exit.then K (fun _ _ _=>False)) a w):c.wp P (Exit.then K Q) a w:=by
 refine wp_mono h ?_
 intro e a' w' hq
 cases e with
 |normal=>exact hq
 |exit id=>exact hq.elim
 |goto l=>exact hq.elim
 |ret=>exact hq.elim
 |panic ch=>exact hq.elim
 |outgrown=>exact hq.elim
theorem own_type {w:World} {base n Bp:Nat} {v x:Value} {xs:List Value} (h:w.ownsRow base 5 1 v n xs) (hv:Blk w Bp #[x] 127):some Bp≠v.ownBlock:=fun e2=>by
 rcases h.2 with⟨g1,_⟩|⟨g,cap,cur,g1,_,g3,_⟩
 ·rw [g1]at e2;cases e2
 ·rw [g1]at e2
  have e':g=Bp:=by simpa [Value.ownBlock]using e2.symm
  subst e'
  rw [show w.heap[g]?=_ from hv]at g3
  injection g3 with g3
  injection g3 with _ g5 _
  exact absurd g5 (by decide)
theorem itself_size {s:ByteArray} {p:Prt} {dbl:Bool} {X:ByteArray} (h:itself s p dbl=(if true=true then some X else none)):X.size≤p.to - p.frm:=by
 simp at h
 unfold itself at h
 have e1:(s.extract p.frm p.to).size≤p.to - p.frm:=by simp;omega
 have e2:(s.extract (p.frm+1) p.to).size≤p.to - p.frm:=by simp;omega
 repeat' split at h
 all_goals first|(cases h;done)|(injection h with h;rw [←h];first|exact e1|exact e2|exact Nat.zero_le _)
theorem infoB:(Tryz.prog.info? 5).map (fun i=>(i.zero,i.size,i.bytes))=some (some (.int .u8 0),1,1):=by kernel_rfl
theorem step_app_byte {ops:Array Oper} {o:Oper} {a:Act} {w:World} {K:Act→World→Prop} {Q:Exit→Act→World→Prop} {E:Prop} (hgd:o.guard=none) (s x:Operand)
  (ho:o.op=.call { callee:=.builtin .append,args:=#[s,x],argTypes:=#[127,127] })
  (B0 z:Nat) (v:Value) (xs0:List Value) (hs:a.eval s=v) (hown:w.ownsRow B0 5 1 v z xs0) (hB:B0≤w.heap.size) (b c:Nat)
  (hx:a.eval x=.slice (some ⟨b,0,none⟩) 1 1) (hb:Blk w b #[.int .u8 (c:Int)] 5) (hl:z≤1000000)
  (h:∀g' c' w',w'.ownsRow B0 5 1 (.slice (some ⟨g',0,none⟩) (z+1) c') (z+1) (xs0++ [.int .u8 (c:Int)])→w.grownBy w' v.ownBlock→(some g'=v.ownBlock∨g'=w.heap.size)→K (a.put o.dst (.slice (some ⟨g',0,none⟩) (z+1) c')) w'):
  if Region.wanted o (yielded ops a.tmps)=true then Oper.wp Tryz.prog o a w K Q else E:=by
 have hw:Region.wanted o (yielded ops a.tmps)=true:=by simp [Region.wanted,hgd]
 rw [if_pos hw]
 obtain⟨i,hi,hz,hsize,hby⟩:=info_parts infoB
 have hnews:∀j u,[Value.int .u8 (c:Int)][j]?=some u→w.cell? ((⟨b,0,none⟩:Addr).add j)=some u:=by
  intro j u hj
  rw [Addr.add_lit,hb.cell,Nat.zero_add]
  simpa using hj
 obtain⟨v',w',hr',h2,h3,h4,h5⟩:=run_append_own_at (P:=Tryz.prog) w B0 127 o.type 5 i _ 1 1 Tryz.underlying127 hi hz hsize hby rfl (by omega) _ z xs0 hown ⟨b,0,none⟩ 1 1 [.int .u8 (c:Int)] rfl hnews
  (by intro u hu;simp at hu;subst hu;rfl) (by unfold maxLen;omega) (by omega) hB
 unfold Oper.wp execOp
 simp only [ho,resolve,invoke,builtin,Sem.run_bind,Sem.run_pure,Result.andThen_ok,List.map_toArray,List.map_cons,List.map_nil,hs,hx,hr']
 rcases h2.2 with⟨hv,hn⟩|⟨g',c',cur,hv,h6⟩
 ·omega
 ·subst hv
  refine h g' c' w' h2 h3 ?_
  rcases h5 with h5|h5
  ·exact .inl h5
  ·exact .inr (by simpa [Value.ownBlock]using h5)
set_option maxRecDepth 100000 in
theorem wpl_app_text {ops:Array Oper} {rest:List Oper} {o:Oper} {a:Act} {Q:Exit→Act→World→Prop} {w:World} (hgd:o.guard=none) (s x:Operand)
  (ho:o.op=.call { callee:=.builtin .append,args:=#[s,x],argTypes:=#[127,9] })
  (B0 z:Nat) (v:Value) (xs0:List Value) (X:ByteArray) (hs:a.eval s=v) (hx:a.eval x=.string X) (hown:w.ownsRow B0 5 1 v z xs0) (hB:B0≤w.heap.size) (hl:z≤1000000) (hX:X.size≤1000000)
  (h:∀oa' oc' w',w'.ownsRow B0 5 1 (.slice oa' (z+X.size) oc') (z+X.size) (xs0++Lib.strCells X)→w.grownBy w' v.ownBlock→((Value.slice oa' (z+X.size) oc').ownBlock=v.ownBlock∨(Value.slice oa' (z+X.size) oc').ownBlock=some w.heap.size)→wpList Tryz.prog ops Q rest (a.put o.dst (.slice oa' (z+X.size) oc')) w'):
  wpList Tryz.prog ops Q (o::rest) a w:=by
 refine wpList_plain hgd fun K hK=>?_
 obtain⟨i,hi,hz,hsize,hby⟩:=info_parts infoB
 obtain⟨v',w',hr,h2,h3,h4⟩:=Lib.run_append_own_string (P:=Tryz.prog) w B0 127 9 o.type 5 i Tryz.underlying127 Tryz.underlying9 hi hz hsize hby v z xs0 hown X (by unfold maxLen;omega) (by omega) hB
 have hv:∃oa' oc',v'=.slice oa' (z+X.size) oc':=by
  rcases h2.2 with⟨e,e2⟩|⟨g,cap,cur,e,_⟩
  ·exact⟨none,0,by rw [e,e2]⟩
  ·exact⟨_,_,e⟩
 have hat:v'.ownBlock=v.ownBlock∨v'.ownBlock=some w.heap.size:=by
  rcases hown.2 with⟨rfl,rfl⟩|⟨g,cap,cur,rfl,hbg,hg,hnc,hcm,hcs,htake⟩
  ·by_cases hm:X.size=0
   ·left;rw [h4.2 ⟨rfl,hm⟩]
   ·right
    have:=run_append_nil_string (P:=Tryz.prog) w 127 9 o.type 5 i (.int .u8 0) Tryz.underlying127 Tryz.underlying9 hi hz X (by omega) (by omega) (by rw [hby];omega)
    rw [hr]at this
    injection this with e1 _
    rw [e1];rfl
  ·by_cases hroom:z+X.size≤cap
   ·left
    have:=Lib.run_append_room_string (P:=Tryz.prog) w 127 9 o.type 5 i Tryz.underlying127 Tryz.underlying9 hi hsize g z cap cur hg X hroom (by omega)
    rw [hr]at this
    injection this with e1 _
    rw [e1];rfl
   ·right
    have holds:∀j u,xs0[j]?=some u→w.cell? ((⟨g,0,none⟩:Addr).add j)=some u:=hown.cells (g:=g) rfl
    have:=Lib.run_append_grow_string (P:=Tryz.prog) w 127 9 o.type 5 i (.int .u8 0) Tryz.underlying127 Tryz.underlying9 hi hz ⟨g,0,none⟩ z cap xs0 (by rw [hsize];exact hown.1) holds X (by omega) (by omega) (by rw [hby];exact growslice_fits (by omega) (by omega))
    rw [hr]at this
    injection this with e1 _
    rw [e1];rfl
 obtain⟨oa',oc',rfl⟩:=hv
 unfold Oper.wp execOp
 simp only [ho,resolve,invoke,builtin,Sem.run_bind,Sem.run_pure,Result.andThen_ok,List.map_toArray,List.map_cons,List.map_nil,hs,hx,hr]
 exact hK _ _ (h oa' oc' w' h2 h3 hat)
set_option maxRecDepth 100000 in
set_option maxHeartbeats 8000000 in
theorem between_seq (n:Nat) (hn:3≤n) (s:ByteArray) (hs:s.size≤60000) (dbl:Bool) (f0 e:Nat) (hf0:f0≤s.size) (he:e≤s.size) (sub:Nat→List Pc) (Rch:Nat→Prop) (hR0:Rch f0) (hR1:∀a,Rch a→a<e→born s a=false→Rch (a+1)) (hR2:∀a,Rch a→a<e→born s a=true→Rch (prt s a).to)
  (mb Bd Bf Bt Br:Nat) (W:World) (hcap:Cap W Bd Bt Br mb s dbl e) (hbf:Blk W Bf #[.int .i64 (f0:Int)] 3)
  (hsub:∀a,sub a≠ [])
  (hT:∀a w,Rch a→a<e→born s a=true→itself s (prt s a) dbl=none→MapP w mb s→
   Calls Tryz.prog 230 #[.agg #[.string s,.map (some mb)],.agg #[.int .i64 ((prt s a).mode:Int),.int .i64 ((prt s a).frm:Int),.int .i64 ((prt s a).to:Int),.int .i64 (prt s a).up,.bool (prt s a).op],.bool dbl] w (TdP mb (sub a) w)):
  SeqT n Tryz.prog 227 #[.pointer (some ⟨Bd,0,none⟩),.pointer (some ⟨Bf,0,none⟩),.pointer (some ⟨Bt,0,none⟩),.pointer (some ⟨Br,0,none⟩)] encC (CapC Bd Bt Br mb) (Rm s dbl sub e f0 ByteArray.empty dbl) W:=by
 intro l J Jx hJ hJx hY hJ0
 obtain⟨L,hLL⟩:∃L,Rm s dbl sub e f0 ByteArray.empty dbl=L:=⟨_,rfl⟩
 rw [hLL]at hY ⊢
 have HJ:=Lib.hid hJ
 have HJX:=Lib.hid hJx
 have HY:=Lib.hid hY
 have HT:=Lib.hid hT
 have HCAP:=Lib.hid hcap
 have HR1:=Lib.hid hR1
 have HR2:=Lib.hid hR2
 have HSUB:=Lib.hid hsub
 have HLL:=Lib.hid hLL
 have HJ0:=Lib.hid hJ0
 have cd:=hcap.d.cell 0
 have cf:=hbf.cell 0
 have ld:=hcap.d.lt
 have lf:=hbf.lt
 have hfn:Fence.wide.fn 227:=trivial
 clear hJ hJx hY hT hcap hR1 hR2 hsub hLL hJ0 hbf
 refine callsIn_of_wp_marks Tryz.func227 rfl hfn ?_ rfl
 refine wpIn_wide.2 ?_
 have hb3:=Blk.new (((W.alloc (.cells #[.func (.yield l) #[] #[]] 207)).alloc (.cells #[.slice none 0 0] 127)).alloc (.cells #[.bool dbl] 4)) #[.nilFunc] 23
 have yB:=(((Blk.new W #[.func (.yield l) #[] #[]] 207).alloc (.cells #[.slice none 0 0] 127)).alloc (.cells #[.bool dbl] 4)).alloc (.cells #[(Value.func (.func 228) #[] #[.pointer (some ⟨W.heap.size+1,0,none⟩),.pointer (some ⟨W.heap.size+1+1,0,none⟩),.pointer (some ⟨W.heap.size,0,none⟩),.pointer (some ⟨Bd,0,none⟩)])] 23)
 have pB:=((Blk.new (W.alloc (.cells #[.func (.yield l) #[] #[]] 207)) #[.slice none 0 0] 127).alloc (.cells #[.bool dbl] 4)).alloc (.cells #[(Value.func (.func 228) #[] #[.pointer (some ⟨W.heap.size+1,0,none⟩),.pointer (some ⟨W.heap.size+1+1,0,none⟩),.pointer (some ⟨W.heap.size,0,none⟩),.pointer (some ⟨Bd,0,none⟩)])] 23)
 have wB:=(Blk.new ((W.alloc (.cells #[.func (.yield l) #[] #[]] 207)).alloc (.cells #[.slice none 0 0] 127)) #[.bool dbl] 4).alloc (.cells #[(Value.func (.func 228) #[] #[.pointer (some ⟨W.heap.size+1,0,none⟩),.pointer (some ⟨W.heap.size+1+1,0,none⟩),.pointer (some ⟨W.heap.size,0,none⟩),.pointer (some ⟨Bd,0,none⟩)])] 23)
 have fB:=Blk.new (((W.alloc (.cells #[.func (.yield l) #[] #[]] 207)).alloc (.cells #[.slice none 0 0] 127)).alloc (.cells #[.bool dbl] 4)) #[(Value.func (.func 228) #[] #[.pointer (some ⟨W.heap.size+1,0,none⟩),.pointer (some ⟨W.heap.size+1+1,0,none⟩),.pointer (some ⟨W.heap.size,0,none⟩),.pointer (some ⟨Bd,0,none⟩)])] 23
 have hB0:Below W.heap.size W ((((W.alloc (.cells #[.func (.yield l) #[] #[]] 207)).alloc (.cells #[.slice none 0 0] 127)).alloc (.cells #[.bool dbl] 4)).alloc (.cells #[(Value.func (.func 228) #[] #[.pointer (some ⟨W.heap.size+1,0,none⟩),.pointer (some ⟨W.heap.size+1+1,0,none⟩),.pointer (some ⟨W.heap.size,0,none⟩),.pointer (some ⟨Bd,0,none⟩)])] 23)):=((((Below.refl _ W).alloc (Nat.le_refl _) _).alloc (by simp) _).alloc (by simp;omega) _).alloc (by simp;omega) _
 have hz0:((((W.alloc (.cells #[.func (.yield l) #[] #[]] 207)).alloc (.cells #[.slice none 0 0] 127)).alloc (.cells #[.bool dbl] 4)).alloc (.cells #[(Value.func (.func 228) #[] #[.pointer (some ⟨W.heap.size+1,0,none⟩),.pointer (some ⟨W.heap.size+1+1,0,none⟩),.pointer (some ⟨W.heap.size,0,none⟩),.pointer (some ⟨Bd,0,none⟩)])] 23)).heap.size=W.heap.size+1+1+1+1:=by simp
 simp only [World.size_alloc]at hb3 pB wB fB
 have hs3:=hb3.cell 0
 have hs4:=hb3.frozen 0
 simp only [Tryz.ntmps227,List.size_toArray,List.length_cons,List.length_nil,Nat.reduceAdd,Nat.reduceSub,Array.replicate_succ,Array.replicate_zero,List.push_toArray,List.append_toArray,List.nil_append,List.cons_append]
 go_wp2
 go_step3
 go_wp2
 clear hs3 hs4 hb3 cd ld
 obtain⟨W0,hW0⟩:∃X,(((W.alloc (.cells #[.func (.yield l) #[] #[]] 207)).alloc (.cells #[.slice none 0 0] 127)).alloc (.cells #[.bool dbl] 4)).alloc (.cells #[(Value.func (.func 228) #[] #[.pointer (some ⟨W.heap.size+1,0,none⟩),.pointer (some ⟨W.heap.size+1+1,0,none⟩),.pointer (some ⟨W.heap.size,0,none⟩),.pointer (some ⟨Bd,0,none⟩)])] 23)=X:=⟨_,rfl⟩
 rw [hW0]at yB pB wB fB hB0 hz0 ⊢
 clear hW0
 obtain⟨By,hBy⟩:∃x,W.heap.size=x:=⟨_,rfl⟩
 rw [hBy]at yB pB wB fB hB0 hz0 ⊢
 obtain⟨Bp,hBp⟩:∃x,By+1=x:=⟨_,rfl⟩
 rw [hBp]at pB wB fB hz0 ⊢
 obtain⟨Bw,hBw⟩:∃x,Bp+1=x:=⟨_,rfl⟩
 rw [hBw]at wB fB hz0 ⊢
 obtain⟨Bl,hBl⟩:∃x,Bw+1=x:=⟨_,rfl⟩
 rw [hBl]at fB hz0 ⊢
 have hcap0:Cap W0 Bd Bt Br mb s dbl e:=HCAP.out.same (fun b hb=>hB0.block b (by have:=HCAP.out.lt b hb;omega))
 have hInv:BInv s dbl e sub L Rch J By Bp Bw By Bl Bd Bt Br mb l f0 ByteArray.empty dbl [] (fun b=>By≤b∧b<W0.heap.size) [] W0:=by
  refine⟨HLL.out.symm,?_,⟨⟨_,pB,World.ownsRow_nil _ _ _ _,fun g hg=>by cases hg⟩,wB,yB,fB,?_⟩,hcap0,Marks.nil _ _ _,hf0,hR0,Nat.zero_le _⟩
  ·exact HJ.out.below HJ0.out (hBy▸hB0) (fun b hb=> .inr (by rw [hBy];exact hb.1))
  ·intro b hb
   refine⟨?_,fun h=>h⟩
   show By≤b∧b<W0.heap.size
   omega
 have hne:(Bp≠Bw∧Bp≠By∧Bp≠Bd)∧(Bw≠By∧Bw≠Bd)∧(Bp≠Bw∧Bp≠By∧Bp≠Bl)∧By≤Bp∧Bw≠Bl∧By<Bw:=by
  have:=HCAP.out.lt Bd (.inl rfl)
  omega
 have hdist:∀b,CapC Bd Bt Br mb b→b<By:=fun b hb=>by have:=HCAP.out.lt b hb;omega
 have HDIST:=Lib.hid hdist
 have HNE:=Lib.hid hne
 have cf0:W0.cell? ⟨Bf,0,none⟩=some (.int .i64 (f0:Int)):=(hB0.cell (p:=⟨Bf,0,none⟩) (by rw [←hBy];exact lf)).trans cf
 have HINV:=Lib.hid hInv
 clear hInv hdist hcap0 yB pB wB fB hB0 hz0 hBp hBw hBl HJ0 HLL HCAP cf lf
 go_step3
 go_wp2
 refine wp_loop (fun a' wr=>∃(ds:List Deferred) (a:Nat) (h:ByteArray) (wv:Bool) (pre:List Pc) (T:Nat→Prop) (u10 u11 u12 u13 u14 u18 u19 u20 u21 u22 u23 u24 u25 u26 u27 u28 u29 u30 u31 u32 u33 u34 u35 u36 u37 u38 u39 u40 u41 u42 u43 u44 u45 u46 u47 u48 u49 u50 u51 u52 u53 u54 u55 u56 u57 u58 u59 u60 u61 u62 u63 u64 u65:Value),a'={ tmps:=#[.func (.yield l) #[] #[],.pointer (some ⟨Bd,0,none⟩),.pointer (some ⟨Bf,0,none⟩),.pointer (some ⟨Bt,0,none⟩),.pointer (some ⟨Br,0,none⟩),.pointer (some ⟨By,0,none⟩),.pointer (some ⟨Bp,0,none⟩),.pointer (some ⟨Bw,0,none⟩),.pointer (some ⟨Bl,0,none⟩),.int .i64 (a:Int),u10,u11,u12,u13,u14,.bool dbl,.func (.func 228) #[] #[.pointer (some ⟨Bp,0,none⟩),.pointer (some ⟨Bw,0,none⟩),.pointer (some ⟨By,0,none⟩),.pointer (some ⟨Bd,0,none⟩)],.int .i64 (f0:Int),u18,u19,u20,u21,u22,u23,u24,u25,u26,u27,u28,u29,u30,u31,u32,u33,u34,u35,u36,u37,u38,u39,u40,u41,u42,u43,u44,u45,u46,u47,u48,u49,u50,u51,u52,u53,u54,u55,u56,u57,u58,u59,u60,u61,u62,u63,u64,u65,undef,undef],defers:=ds }∧BInv s dbl e sub L Rch J By Bp Bw By Bl Bd Bt Br mb l a h wv pre T ds wr)
  (fun a' _=>e - (intOf (a'.tmps.getD 9 undef)).toNat) ?_ ?_
 ·refine⟨[],f0,ByteArray.empty,dbl,[],(fun b=>By≤b∧b<W0.heap.size),?_⟩
  (repeat apply Exists.intro)
  refine⟨rfl,HINV.out⟩
 ·intro a' wr hx
  obtain⟨ds,a,h,wv,pre,T,hx⟩:=hx
  obtain⟨u10,hx⟩:=hx
  obtain⟨u11,hx⟩:=hx
  obtain⟨u12,hx⟩:=hx
  obtain⟨u13,hx⟩:=hx
  obtain⟨u14,hx⟩:=hx
  obtain⟨u18,hx⟩:=hx
  obtain⟨u19,hx⟩:=hx
  obtain⟨u20,hx⟩:=hx
  obtain⟨u21,hx⟩:=hx
  obtain⟨u22,hx⟩:=hx
  obtain⟨u23,hx⟩:=hx
  obtain⟨u24,hx⟩:=hx
  obtain⟨u25,hx⟩:=hx
  obtain⟨u26,hx⟩:=hx
  obtain⟨u27,hx⟩:=hx
  obtain⟨u28,hx⟩:=hx
  obtain⟨u29,hx⟩:=hx
  obtain⟨u30,hx⟩:=hx
  obtain⟨u31,hx⟩:=hx
  obtain⟨u32,hx⟩:=hx
  obtain⟨u33,hx⟩:=hx
  obtain⟨u34,hx⟩:=hx
  obtain⟨u35,hx⟩:=hx
  obtain⟨u36,hx⟩:=hx
  obtain⟨u37,hx⟩:=hx
  obtain⟨u38,hx⟩:=hx
  obtain⟨u39,hx⟩:=hx
  obtain⟨u40,hx⟩:=hx
  obtain⟨u41,hx⟩:=hx
  obtain⟨u42,hx⟩:=hx
  obtain⟨u43,hx⟩:=hx
  obtain⟨u44,hx⟩:=hx
  obtain⟨u45,hx⟩:=hx
  obtain⟨u46,hx⟩:=hx
  obtain⟨u47,hx⟩:=hx
  obtain⟨u48,hx⟩:=hx
  obtain⟨u49,hx⟩:=hx
  obtain⟨u50,hx⟩:=hx
  obtain⟨u51,hx⟩:=hx
  obtain⟨u52,hx⟩:=hx
  obtain⟨u53,hx⟩:=hx
  obtain⟨u54,hx⟩:=hx
  obtain⟨u55,hx⟩:=hx
  obtain⟨u56,hx⟩:=hx
  obtain⟨u57,hx⟩:=hx
  obtain⟨u58,hx⟩:=hx
  obtain⟨u59,hx⟩:=hx
  obtain⟨u60,hx⟩:=hx
  obtain⟨u61,hx⟩:=hx
  obtain⟨u62,hx⟩:=hx
  obtain⟨u63,hx⟩:=hx
  obtain⟨u64,hx⟩:=hx
  obtain⟨u65,hx⟩:=hx
  obtain⟨hx,I⟩:=hx
  subst hx
  try dsimp only
  have ct:=I.cap.t.cell 0
  have cr0:=I.cap.r.cell 0
  have cr1:=I.cap.r.cell 1
  have cd:=I.cap.d.cell 0
  have HI:=Lib.hid I
  have hal:=I.ha
  clear I
  by_cases hlt:a<e
  ·have hlt2:(a:Int)<(e:Int):=by omega
   have hm:=HI.out.cap.m
   cases hbn:born s a with
   |false=>
    have HBN:=Lib.hid hbn
    clear hbn
    go_wp2_with (at_lookup;refine step_get0 rfl _ _ rfl rfl hm a rfl (by omega) HBN ?_)
    have hI1:=HI.out.below HJ.out (W1:=wr.alloc (.cells #[.int .i64 0,.int .i64 0,.int .i64 0,.int .i64 0,.bool false] 136)) ((Below.refl _ _).alloc (Nat.le_refl _) _)
    obtain⟨W1,hW1⟩:∃X,wr.alloc (.cells #[.int .i64 0,.int .i64 0,.int .i64 0,.int .i64 0,.bool false] 136)=X:=⟨_,rfl⟩
    rw [hW1]at hI1 ⊢
    clear hW1 ct cr0 cr1 cd hm
    have cr0:=hI1.cap.r.cell 0
    obtain⟨v,hv,hrow,hvT⟩:=hI1.st.p
    obtain⟨oa,oc,rfl⟩:∃oa oc,v=.slice oa h.size oc:=by
     rcases hrow.2 with⟨h1,h2⟩|⟨g,cap,cur,h1,_⟩
     ·exact⟨none,0,by rw [h1,h2]⟩
     ·exact⟨_,_,h1⟩
    obtain⟨z,hz⟩:∃z,h.size=z:=⟨_,rfl⟩
    have HZ:=Lib.hid hz
    rw [hz]at hrow hv hvT
    have cp:=hv.cell 0
    have fp:=hv.frozen 0
    have lp:=hv.lt
    have lr:=hI1.cap.r.lt
    have hzl:z≤60000:=by have:=HI.out.hh;omega
    obtain⟨bb,hbb⟩:∃bb,by8 s a=bb:=⟨_,rfl⟩
    have HBB:=Lib.hid hbb
    have has:a<s.size:=by omega
    have has2:(a:Int)<(s.size:Int):=by omega
    have has0:(0:Int)≤(a:Int):=by omega
    have hix:∀hh:a<s.size,(s[a]'hh).toNat=bb:=fun hh=>by rw [←hbb];unfold by8;rw [bt_eq hh]
    have hByl:By≤W1.heap.size:=by have:=hI1.st.y.lt;omega
    have hB2:∀o,By≤(W1.alloc o).drew.heap.size:=fun o=>by show By≤(W1.alloc o).heap.size;rw [World.size_alloc];omega
    have hR:∀X,Frm (fun _=>False) W1 X→X.ownsRow By 5 1 (.slice oa z oc) z (Lib.strCells h):=fun X hX=>own_frm hX hrow (fun _ _ h=>h)
    have hgm:some Bp≠(Value.slice oa z oc).ownBlock:=fun e2=>by
     rcases hrow.2 with⟨g1,_⟩|⟨g,cap,cur,g1,_,g3,_⟩
     ·rw [g1]at e2;cases e2
     ·rw [g1]at e2
      have e':g=Bp:=by simpa [Value.ownBlock]using e2.symm
      subst e'
      rw [show W1.heap[g]?=_ from hv]at g3
      injection g3 with g3
      injection g3 with _ g5 _
      exact absurd g5 (by decide)
    have HV:=Lib.hid hv
    have HROW:=Lib.hid hrow
    have HVT:=Lib.hid hvT
    have HI1:=Lib.hid hI1
    clear hz hbb hrow hvT hI1
    go_wp2
    refine wp_calm ?_
    go_region_law (refine step_app_byte (by rfl) _ _ (by rfl) By z (.slice oa z oc) (Lib.strCells h) (by rfl) (hR _ (((Frm.refl _ _).alloc _).drew)) (hB2 _) W1.heap.size bb (by rfl) ((Blk.new W1 _ _).drew) (by omega) ?_;intro g' c' w' hown hgr hg';have o7:=((hv.alloc (.cells #[.int .u8 (bb:Int)] 5)).drew).grown hgr hgm;have d0:w'.cell? ⟨Bp,0,none⟩=some (.slice oa z oc):=o7.cell 0;have df:=o7.frozen 0)
    all_goals
     go_wp2
     have hFr:Frm (fun b=>b=Bp∨(Value.slice oa z oc).ownBlock=some b) W1 w':=(((Frm.refl _ W1).alloc _).drew).grown hgr (fun k hk=> .inl (.inr hk))
     have hg':some g'=(Value.slice oa z oc).ownBlock∨g'=W1.heap.size+1:=by
      rcases hg' with h1|h1
      ·exact .inl h1
      ·exact .inr (h1.trans (World.size_alloc _ _))
     have hgb:g'≠Bp:=by
      rcases hg' with e1|e1
      ·intro e2
       subst e2
       exact hgm e1
      ·omega
     have hes:(h++s.extract a (a+1)).size=z+1:=by rw [ByteArray.size_append,HZ.out];simp;omega
     have hec:Lib.strCells (h++s.extract a (a+1))=Lib.strCells h++ [Value.int .u8 (bb:Int)]:=strCells_push h has HBB.out
     refine⟨⟨ds,a+1,h++s.extract a (a+1),wv,pre,fun b=>(T b∨wr.heap.size≤b)∨W1.heap.size≤b,?_⟩,?_⟩
     ·repeat apply Exists.intro
      refine⟨rfl,HI1.out.put HJ.out HV.out (by rw [HZ.out];exact HROW.out) (fun g hg=>(HVT.out g hg).1) HNE.out.2.2.1 HNE.out.2.2.2.1 HDIST.out (hFr.setCell 0 (.inl (.inl rfl)) _) (o7.set 0 _) ?_ ?_ ?_ ?_ ?_ ?_⟩
      ·rw [hes,hec]
       exact own_frm (Frm.setCell (p:=fun b=>b=Bp) (Frm.refl _ w') 0 (.inl rfl) _) hown (fun k hk e2=>hgb (by simp [Value.ownBlock]at hk;omega))
      ·intro g hg
       have e2:g'=g:=by simpa [Value.ownBlock]using hg
       subst e2
       rcases hg' with e1|e1
       ·exact .inl e1.symm
       ·exact .inr (by omega)
      ·exact Rm_plain he hlt HBN.out
      ·omega
      ·exact HR1.out a HI.out.hr hlt HBN.out
      ·rw [hes];have:=HI.out.hh;rw [HZ.out]at this;omega
     ·simp [intOf];omega
   |true=>
    have has:a<s.size:=by omega
    have hpf:=prt_frm s a
    have hto:=to_gt hbn has
    have hle:=prt_le has hbn
    have hesc:=esc_prt hbn has
    obtain⟨p,hp⟩:∃p,prt s a=p:=⟨_,rfl⟩
    rw [hp]at hpf hto hle hesc
    obtain⟨md,f,t,up,op⟩:=p
    simp only at hpf hto hle hesc
    obtain rfl:a=f:=hpf.symm
    have HBN:=Lib.hid hbn
    have HP:=Lib.hid hp
    have HQ:Hid (a<s.size∧born s a=true∧prt s a=⟨md,a,t,up,op⟩):=Lib.hid ⟨has,hbn,hp⟩
    have h13:md=13→t=a+1∨t=a+2:=fun h=>by have:=hesc h;split at this<;>omega
    have H13:=Lib.hid h13
    have ht1:=hto
    have ht2:=hle.1
    clear hbn hp hesc h13 hto hle hpf
    have hbt:∀o:Obj,Below wr.heap.size wr (wr.alloc o):=fun o=>(Below.refl _ _).alloc (Nat.le_refl _) o
    have lr:=HI.out.cap.r.lt
    have lt':=HI.out.cap.t.lt
    have ld:=HI.out.cap.d.lt
    go_wp2_with (at_lookup;refine step_get1 rfl _ _ rfl rfl hm a md a t up op rfl (by omega) HQ ?_)
    refine(itself_any _ s mb md a t up op dbl ht1 ht2 (by omega) H13.out).mono ?_
    rintro e2 w3 ⟨⟨X,b,rfl,hX⟩,hB3⟩
    have hB4:Below wr.heap.size wr w3:=(hbt (.cells #[.int .i64 (md:Int),.int .i64 (a:Int),.int .i64 (t:Int),.int .i64 up,.bool op] 136)).trans (hB3.mono (by rw [World.size_alloc];omega))
    have kP:Blk w3 wr.heap.size #[.int .i64 (md:Int),.int .i64 (a:Int),.int .i64 (t:Int),.int .i64 up,.bool op] 136:=(Blk.new wr _ _).below hB3
    have hI3:=HI.out.below HJ.out hB4
    have HXX:=Lib.hid hX
    clear hX hB3 ct cr0 cr1 cd hm lr lt' ld
    cases b with
    |true=>
     obtain⟨v,hv,hrow,hvT⟩:=hI3.st.p
     obtain⟨oa,oc,rfl⟩:∃oa oc,v=.slice oa h.size oc:=by
      rcases hrow.2 with⟨h1,h2⟩|⟨g,cap,cur,h1,_⟩
      ·exact⟨none,0,by rw [h1,h2]⟩
      ·exact⟨_,_,h1⟩
     obtain⟨z,hz⟩:∃z,h.size=z:=⟨_,rfl⟩
     have HZ:=Lib.hid hz
     rw [hz]at hrow hv hvT
     have cp:=hv.cell 0
     have fp:=hv.frozen 0
     have hzl:z≤60000:=by have:=HI.out.hh;omega
     have hXl:X.size≤t - a:=itself_size HXX.out
     have hByl:By≤w3.heap.size:=by have:=hI3.st.y.lt;omega
     have HROW:=Lib.hid hrow
     have HV:=Lib.hid hv
     have HVT:=Lib.hid hvT
     have HI3:=Lib.hid hI3
     clear hz hrow hvT hI3
     go_wp2_with (at_builtin;refine wpl_app_text rfl _ _ rfl By z _ (Lib.strCells h) X rfl rfl HROW.out hByl (by omega) (by omega) ?_;intro oa' oc' w' hown hgr hg';have o7:=hv.grown hgr (own_type HROW.out HV.out);have d0:=o7.cell 0;have df:=o7.frozen 0)
     have hFr:Frm (fun b=>b=Bp∨(Value.slice oa z oc).ownBlock=some b) w3 w':=(Frm.refl _ w3).grown hgr (fun k hk=> .inl (.inr hk))
     have hgb:∀g,(Value.slice oa' (z+X.size) oc').ownBlock=some g→g≠Bp:=by
      intro g hg e2
      subst e2
      rcases hg' with e1|e1
      ·exact own_type HROW.out HV.out (hg.symm.trans e1)
      ·rw [e1]at hg
       have:=HV.out.lt
       injection hg with hg
       omega
     have hes:(h++X).size=z+X.size:=by rw [ByteArray.size_append,HZ.out]
     have hec:Lib.strCells (h++X)=Lib.strCells h++Lib.strCells X:=by simp [Lib.strCells]
     refine⟨⟨ds,t,h++X,wv,pre,fun b=>(T b∨wr.heap.size≤b)∨w3.heap.size≤b,?_⟩,?_⟩
     ·repeat apply Exists.intro
      refine⟨rfl,HI3.out.put HJ.out HV.out (by rw [HZ.out];exact HROW.out) (fun g hg=>(HVT.out g hg).1) HNE.out.2.2.1 HNE.out.2.2.2.1 HDIST.out (hFr.setCell 0 (.inl (.inl rfl)) _) (o7.set 0 _) ?_ ?_ ?_ ?_ ?_ ?_⟩
      ·rw [hes,hec]
       exact own_frm (Frm.setCell (p:=fun b=>b=Bp) (Frm.refl _ w') 0 (.inl rfl) _) hown (fun k hk e2=>hgb k hk e2)
      ·intro g hg
       rcases hg' with e1|e1
       ·exact .inl (e1.symm.trans hg)
       ·rw [e1]at hg
        injection hg with hg
        exact .inr (by omega)
      ·have:=Rm_self (sub:=sub) (h:=h) (w:=wv) he hlt HBN.out (t:=X) (by rw [HP.out];simpa using HXX.out)
       rw [HP.out]at this
       exact this
      ·omega
      ·have:=HR2.out a HI.out.hr hlt HBN.out
       rw [HP.out]at this
       exact this
      ·rw [hes];have:=HI.out.hh;rw [HZ.out]at this;omega
     ·simp [intOf];omega
    |false=>
     have hit:itself s (prt s a) dbl=none:=by rw [HP.out];simpa using HXX.out
     have hLs:L=pre++(fl dbl h false++(sub a++Rm s dbl sub e t ByteArray.empty false)):=by
      have h1:=hI3.hL
      rw [Rm_sub he hlt HBN.out hit,HP.out]at h1
      exact h1
     have nr:Br<By∧Bd<By:=⟨HDIST.out Br (.inr (.inr (.inl rfl))),HDIST.out Bd (.inl rfl)⟩
     have nw:=HI.out.st.w.lt
     have hne5:=HNE.out
     have cw:=hI3.st.w.cell 0
     have fw:=hI3.st.w.frozen 0
     have cr0:=hI3.cap.r.cell 0
     have cr1:=hI3.cap.r.cell 1
     have cd:=hI3.cap.d.cell 0
     have p0:=kP.cell 0
     have p1:=kP.cell 1
     have p2:=kP.cell 2
     have p3:=kP.cell 3
     have p4:=kP.cell 4
     have n1:Br≠Bw:=by omega
     have n2:Bd≠Bw:=by omega
     have n3:wr.heap.size≠Bw:=by omega
     have hF5:Frm (fun b=>b=Bw) w3 (w3.setCell ⟨Bw,0,none⟩ (.bool false)):=Frm.setCell (p:=fun b=>b=Bw) (Frm.refl _ w3) 0 (.inl rfl) _
     have hz5:(w3.setCell ⟨Bw,0,none⟩ (.bool false)).heap.size=w3.heap.size:=by simp [World.setCell]
     have w5:=hI3.st.w.set 0 (.bool false)
     have hj5:=HJ.out.same hI3.hJ (hF5.mono (fun b _ hb=>hb▸(hI3.st.own Bw (.inr (.inl rfl))).1))
     have hT5:=HT.out a (w3.setCell ⟨Bw,0,none⟩ (.bool false)) HI.out.hr hlt HBN.out hit (hI3.cap.frm hF5 (fun b hb e2=>by have:=HDIST.out b hb;omega)).m
     rw [HP.out]at hT5
     have HT5:=Lib.hid hT5
     have HI3:=Lib.hid hI3
     clear hT5 hI3 hit
     go_wp2_with fail
     refine(HT5.out).mono ?_
     intro e5 Wt hTd
     obtain⟨gf,lb,C',rfl,hBt,henter,hC',hseq⟩:=hTd
     have hfl5:Frm (fun _=>False) (w3.setCell ⟨Bw,0,none⟩ (.bool false)) Wt:=Frm.of_below hBt
     have hft:Frm (fun b=>b=Bw) w3 Wt:=hF5.trans hfl5 (fun _ _ h=>h.elim)
     have hzt:w3.heap.size≤Wt.heap.size:=hft.size
     obtain⟨v,hv,hrow,hvT⟩:=HI3.out.st.p
     have hvb:¬v.ownBlock=some Bw:=fun e2=>by
      rcases hrow.2 with⟨g1,_⟩|⟨g,cap,cur,g1,_,g3,_⟩
      ·rw [g1]at e2;cases e2
      ·rw [g1]at e2
       have e':g=Bw:=by simpa [Value.ownBlock]using e2
       subst e'
       rw [show w3.heap[g]?=_ from HI3.out.st.w]at g3
       injection g3 with g3
       injection g3 with _ g5 _
       exact absurd g5 (by decide)
     have hIt:IIn s dbl e J By Bp Bw By Bl Bd Bt Br mb l h pre ds Wt.heap.size C' [] (fun _=>False) Wt:=by
      have hown:∀b,b<w3.heap.size→(T b∨wr.heap.size≤b)→((T b∨wr.heap.size≤b)∨w3.heap.size≤b)∧¬(False∨b=Wt.heap.size∨b=Wt.heap.size+1):=fun b hb ht=>⟨.inl ht,fun hh=>by rcases hh with h|h|h;exact h;omega;omega⟩
      refine⟨fun b=>(T b∨wr.heap.size≤b)∨w3.heap.size≤b,?_,⟨⟨v,hv.frm hft (fun e=>hne5.1.1 e),own_frm hft hrow (fun k hk e2=>hvb (e2▸hk)),fun g hg=>hown g (own_lt hrow g hg) (hvT g hg).1⟩,w5.frm hfl5 (fun h=>h),HI3.out.st.y.frm hft (fun e=>hne5.2.1.1 e.symm),HI3.out.st.f.frm hft (fun e=>hne5.2.2.2.2.1 e.symm),?_⟩,?_,?_,(fun b hb=>hb.elim),.inr hzt,.inr (by omega),?_,?_⟩
      ·show J (pre++ []) _ Wt
       rw [List.append_nil]
       exact HJ.out.below hj5 hBt (fun b hb=>by rw [hz5];exact hb)
      ·rintro b (rfl|rfl|rfl|rfl)
       ·exact hown _ hv.lt (HI3.out.st.own _ (.inl rfl)).1
       ·exact hown _ HI3.out.st.w.lt (HI3.out.st.own _ (.inr (.inl rfl))).1
       ·exact hown _ HI3.out.st.y.lt (HI3.out.st.own _ (.inr (.inr (.inl rfl)))).1
       ·exact hown _ HI3.out.st.f.lt (HI3.out.st.own _ (.inr (.inr (.inr rfl)))).1
      ·exact HI3.out.cap.frm hft (fun b hb e2=>by have:=HDIST.out b hb;omega)
      ·obtain⟨Ds,e1,e2,e3⟩:=HI3.out.mks
       refine⟨Ds,e1,e2,fun D hD=>?_⟩
       obtain⟨d1,d2,d3⟩:=e3 D hD
       have hDl:=(Array.getElem?_eq_some_iff.1 d3).1
       exact⟨(hown D hDl d1).1,(hown D hDl d1).2,(hft.block D hDl (fun e=>by subst e;rw [show w3.heap[D]?=_ from HI3.out.st.w]at d3;cases d3)).trans d3⟩
      ·intro b hb
       rcases(hC' b hb).2 with h|h
       ·exact .inl h
       ·rw [hz5]at h
        exact .inr (.inr h)
      ·intro b hb
       have:=HI3.out.cap.lt b hb
       exact⟨fun h=>h,by omega⟩
     clear cw fw cr0 cr1 cd p0 p1 p2 p3 p4
     have HIT:=Lib.hid hIt
     have HSEQ:=Lib.hid hseq
     have HCC:=Lib.hid hC'
     clear hIt hseq hC' hj5 w5
     go_wp2
     refine(wpIn_wide (n:=n)).1 (wpT (L:=sub a) (encs:=encC) (C:=C') (gf:=gf) (lb:=lb) rfl henter (fun W hW=>HSEQ.out (n - 1) W (by omega) hW) (fun b hb=>(HCC.out b hb).1) ?hps
      (IIn s dbl e J By Bp Bw By Bl Bd Bt Br mb l h pre ds Wt.heap.size C') (IXn Jx ds Wt.heap.size) (IIn.abid HJ.out) (IXn.abid HJX.out) ?start ?round ?fin ?stop)
     case hps=>intro x;rfl
     case start=>
      intro W hB _
      exact IIn.abid HJ.out [] _ Wt W _ HIT.out (Frm.of_below hB) (fun b hb=> .inl hb)
     case round=>
      rintro pin x rest Tin W hLx ⟨T9,h1,h2,h3,h4,h5,h6,h7,h8,h9⟩ hTb hWz hrec hdef t1 t2
      simp only [encC,aggC]
      gi_wp2
      obtain⟨W2,hW2⟩:∃X,W.alloc (.cells #[.bool x.ex,.bool x.q,.string x.t] 119)=X:=⟨_,rfl⟩
      have hB2:Below W.heap.size W W2:=by rw [←hW2];exact(Below.refl _ _).alloc (Nat.le_refl _) _
      have kX:Blk W2 W.heap.size #[.bool x.ex,.bool x.q,.string x.t] 119:=by rw [←hW2];exact Blk.new W _ _
      have z2:W2.heap.size=W.heap.size+1:=by rw [←hW2];simp
      rw [hW2]
      clear hW2
      refine⟨hB2.block _ (by omega),hB2.block _ (by omega),⟨hB2.size,fun b hb _=>hB2.block b hb⟩,fun r=>?_⟩
      obtain⟨W3,hW3⟩:∃X,W2.putObj (Wt.heap.size+1) (.loop r)=X:=⟨_,rfl⟩
      have z3:W3.heap.size=W.heap.size+1:=by rw [←hW3,←z2];simp
      have hF3:Frm (fun b=>b=Wt.heap.size+1) W W3:=by
       rw [←hW3]
       exact(Frm.of_below hB2).trans (frm_put (p:=fun b=>b=Wt.heap.size+1) W2 _ rfl) (fun _ _ h=>h)
      have kX3:Blk W3 W.heap.size #[.bool x.ex,.bool x.q,.string x.t] 119:=by
       rw [←hW3]
       exact(World.putObj_heap_other (by omega)).trans kX
      rw [hW3]
      clear hW3 kX hB2 z2 hrec hdef
      obtain⟨T3,hT3⟩:∃T3:Nat→Prop,T3=fun b=>(T9 b∨W.heap.size≤b)∧b<W3.heap.size:=⟨_,rfl⟩
      have t3:∀b,b<W.heap.size→T9 b→T3 b:=fun b hb ht=>by rw [hT3];exact⟨.inl ht,by omega⟩
      have t3b:∀b,T3 b→b<W3.heap.size:=fun b hb=>by rw [hT3]at hb;exact hb.2
      have t3X:T3 W.heap.size:=by rw [hT3];exact⟨.inr (Nat.le_refl _),by omega⟩
      have j3:J (pre++qIn dbl h pin) T3 W3:=HJ.out _ T9 W W3 _ h1 (hF3.mono (fun b _ hb=>hb▸h7)) (fun b hb=>by rw [hT3]at hb;exact hb.1)
      have S3:=h2.frm (T':=T3) hF3 (fun b _ _ hb=> .inr (.inr hb)) t3 (fun _ _ hh=>hh)
      have c3:=h3.frm hF3 (fun b hb e2=>by have:=(h9 b hb).2;omega)
      have m3:=h4.frm (T':=T3) hF3 (fun b _ _ hb=> .inr (.inr hb)) t3 (fun _ _ hh=>hh)
      have hQ:(pre++qIn dbl h pin)++fl dbl (hIn h pin) false=pre++(fl dbl h false++pin):=by
       unfold qIn hIn
       by_cases hp0:pin=[]
       ·rw [if_pos hp0,if_pos hp0,hp0];simp
       ·rw [if_neg hp0,if_neg hp0]
        have e0:fl dbl ByteArray.empty false=[]:=rfl
        rw [e0,List.append_nil]
      have hLL2:L=(pre++(fl dbl h false++pin))++x::(rest++Rm s dbl sub e t ByteArray.empty false):=by
       rw [hLs,hLx];simp [List.append_assoc]
      have hhI:(hIn h pin).size≤1000000:=by
       unfold hIn
       split
       ·have:=HI.out.hh;omega
       ·exact Nat.zero_le _
      have LET:=letOut_st n (by omega) HJ.out HY.out S3 c3 m3 j3 t3b hhI HNE.out.1 ⟨HNE.out.2.2.1.2.2,HNE.out.2.2.2.1⟩ HDIST.out ⟨x::(rest++Rm s dbl sub e t ByteArray.empty false),by rw [hQ];exact hLL2⟩
      rw [hQ]at LET
      have HLET:=Lib.hid (CallsIn.inRound (Wt.heap.size+1) ((callsIn_wide (n:=n - 1 - 1 - 1)).2 ((callsIn_wide (n:=n)).1 LET)))
      have hBpz:Bp<Wt.heap.size:=by have:=hv.lt;omega
      have hBpT:¬Tin Bp:=fun hh=>(S3.own Bp (.inl rfl)).2 (.inl hh)
      have hkp:∀X,KpT (CapC Bd Bt Br mb) (fun b=>T3 b∧b≠Bp) W3 X→X.heap[Wt.heap.size+1]?=W3.heap[Wt.heap.size+1]?∧X.heap[Wt.heap.size]?=W3.heap[Wt.heap.size]?∧KpT C' Tin W3 X:=by
       intro X hk
       refine⟨hk.same _ (by omega) (.inl ⟨t3 _ (by omega) h7,by omega⟩),hk.same _ (by omega) (.inl ⟨t3 _ (by omega) h6,by omega⟩),hk.size,fun b hb hh=>?_⟩
       rcases hh with hh|hh
       ·have hbl:=hTb b hh
        exact hk.same b hb (.inl ⟨t3 b hbl (h5 b hh),fun e=>hBpT (e▸hh)⟩)
       ·have hc:=HCC.out b hh
        rcases hc.2 with e|e
        ·exact hk.same b hb (.inr (.inr (.inr (.inr e))))
        ·rcases h8 b hh with e2|e2
         ·exact hk.same b hb (.inr (.inr (.inr (.inr e2))))
         ·refine hk.same b hb (.inl ⟨t3 b (by omega) e2,fun e3=>?_⟩)
          have:=hv.lt
          rw [hz5]at e
          omega
      have HKP:=Lib.hid hkp
      have hcl:=S3.f.cell 0
      have h11:1≤n - 1 - 1:=by omega
      clear hkp LET S3 j3 h1 h2 h3 h4 c3
      gi_wp2_with fail
      refine⟨trivial,(HLET.out).mono ?_⟩
      rintro en W9 ⟨⟨hk,hm9,hsz9⟩,hr⟩
      obtain⟨g1,g2,g3⟩:=HKP.out W9 hk
      rcases hr with⟨rfl,hj9,hS9,hc9⟩|⟨rfl,pp,hj9⟩
      ·have kX9:Blk W9 W.heap.size #[.bool x.ex,.bool x.q,.string x.t] 119:=(hk.same _ (by omega) (.inl ⟨t3X,by omega⟩)).trans kX3
       have x0:=kX9.cell 0
       have x1:=kX9.cell 1
       have x2:=kX9.cell 2
       have cy9:=hS9.y.cell 0
       obtain⟨fn9,tmps9,assign9,body9,hy9,hR9⟩:=YieldAt.any (m:=n - 1 - 1 - 1) (HY.out _ x _ T3 W9 hLL2 hj9 (fun b hb=>by have:=t3b b hb;omega))
       dsimp only [encC,aggC]at hy9
       have HK:=Lib.hid hk
       have HM9:=Lib.hid hm9
       have HS9:=Lib.hid hS9
       have HC9:=Lib.hid hc9
       clear hk hm9 hS9 hc9 hj9 g1 g2 g3 hcl
       gi_wp2_with fail
       refine RoundIn.mono (F:=Fence.wide) hR9 ?_
       rintro e9 WA ⟨hkA,hrA⟩
       have hk2:KpT (CapC Bd Bt Br mb) (fun b=>T3 b∧b≠Bp) W3 WA:=HK.out.trans ⟨hkA.size,fun b hb hh=>hkA.same b hb (hh.imp (fun h=>h.1) id)⟩
       obtain⟨g1,g2,g3⟩:=HKP.out WA hk2
       have HG:=Lib.hid (show _∧_∧_ from⟨g1,g2,g3⟩)
       have mA:=HM9.out.kept hkA
       have HMA:=Lib.hid mA
       have hI5:∀b,Tin b→T3 b:=fun b hb=>t3 b (hTb b hb) (h5 b hb)
       have hz6:T3 Wt.heap.size:=t3 _ (by omega) h6
       have hz7:T3 (Wt.heap.size+1):=t3 _ (by omega) h7
       clear g1 g2 g3 mA
       rcases hrA with⟨rfl,hjA⟩|⟨rfl,hjA⟩
       ·have hII:IIn s dbl e J By Bp Bw By Bl Bd Bt Br mb l h pre ds Wt.heap.size C' (pin++ [x]) Tin WA:=by
         refine⟨T3,?_,?_,HC9.out.kept hkA (fun b h=>h),HMA.out,hI5,hz6,hz7,fun b hb=>?_,h9⟩
         ·unfold qIn
          rw [if_neg (by simp)]
          simpa [List.append_assoc]using hjA
         ·unfold hIn
          rw [if_neg (by simp)]
          exact HS9.out.kept hkA
         ·rcases h8 b hb with e2|e2
          ·exact .inl e2
          ·exact .inr (t3 b (by have:=(HCC.out b hb).1;omega) e2)
        have HII:=Lib.hid hII
        clear hII hjA
        gi_wp2
        exact⟨HG.out.1,HG.out.2.1,HG.out.2.2,HII.out⟩
       ·have HJA:=Lib.hid hjA
        clear hjA
        gi_wp2
        exact⟨HG.out.1,HG.out.2.1,HG.out.2.2,rfl,T3,⟨_,HJA.out⟩,HMA.out,hI5,hz6,hz7⟩
      ·have HG:=Lib.hid (show _∧_∧_ from⟨g1,g2,g3⟩)
       have HMA:=Lib.hid hm9
       have HJA:=Lib.hid hj9
       have hI5:∀b,Tin b→T3 b:=fun b hb=>t3 b (hTb b hb) (h5 b hb)
       have hz6:T3 Wt.heap.size:=t3 _ (by omega) h6
       have hz7:T3 (Wt.heap.size+1):=t3 _ (by omega) h7
       clear g1 g2 g3 hm9 hj9 hcl
       gi_wp2
       refine⟨fun _ h=>(by cases h),?_⟩
       gi_wp2
       exact⟨HG.out.1,HG.out.2.1,HG.out.2.2,rfl,T3,⟨_,HJA.out⟩,HMA.out,hI5,hz6,hz7⟩
     case fin=>
      rintro Tin W ⟨T9,h1,h2,h3,h4,h5,h6,h7,h8,h9⟩ hWz hWd
      have hsa:=HSUB.out a
      have hq:qIn dbl h (sub a)=fl dbl h false++sub a:=by unfold qIn;rw [if_neg hsa]
      have hh0:hIn h (sub a)=ByteArray.empty:=by unfold hIn;rw [if_neg hsa]
      rw [hq]at h1
      rw [hh0]at h2
      have hrel:BInv s dbl e sub L Rch J By Bp Bw By Bl Bd Bt Br mb l t ByteArray.empty false (pre++(fl dbl h false++sub a)) T9 ({ target:=.collected Wt.heap.size,args:=#[] }::ds) W:=by
       refine⟨by rw [hLs];simp [List.append_assoc],h1,h2.frm (p:=fun _=>False) (Frm.refl _ _) (fun _ _ _ h=>h.elim) (fun _ _ h=>h) (fun _ _ h=>h.elim),h3,?_,ht2,?_,Nat.zero_le _⟩
       ·refine Marks.cons (h4.frm (p:=fun _=>False) (Frm.refl _ _) (fun _ _ _ h=>h.elim) (fun _ _ h=>h) (fun _ _ h=>h.elim)) (z:=Wt.heap.size) (fun E hE=>?_) (Nat.le_refl _) ⟨h6,fun h=>h⟩ hWd
        have:=HI3.out.mks.lt E hE
        omega
       ·have:=HR2.out a HI.out.hr hlt HBN.out
        rw [HP.out]at this
        exact this
      have HREL:=Lib.hid hrel
      clear hrel h1 h2 h3 h4
      dsimp only
      refine⟨⟨{ target:=.collected Wt.heap.size,args:=#[] }::ds,t,ByteArray.empty,false,pre++(fl dbl h false++sub a),T9,?_⟩,?_⟩
      ·repeat apply Exists.intro
       refine⟨rfl,HREL.out⟩
      ·simp [intOf];omega
     case stop=>
      rintro c pin Tin W ⟨rfl,T9,⟨pp,h1⟩,h4,h5,h6,h7⟩ hWz hWd
      have hm9:Marks ({ target:=.collected Wt.heap.size,args:=#[] }::ds) W T9 (fun _=>False):=by
       refine Marks.cons (h4.frm (p:=fun _=>False) (Frm.refl _ _) (fun _ _ _ h=>h.elim) (fun _ _ h=>h) (fun _ _ h=>h.elim)) (z:=Wt.heap.size) (fun E hE=>?_) (Nat.le_refl _) ⟨h6,fun h=>h⟩ hWd
       have:=HI3.out.mks.lt E hE
       omega
      have HM9:=Lib.hid hm9
      have HJ9:=Lib.hid h1
      clear hm9 h4 h1
      refine(wpIn_wide (n:=n)).2 ?_
      go_wp2
      rw [Exit.noGoto_ret]
      obtain⟨Ds,e1,e2,e3⟩:=HM9.out
      rw [e1]
      exact marks_leave rfl Ds W e2 (fun D hD=>(e3 D hD).2.2) (fun W' hf=>⟨⟨_,rfl⟩,.inr ⟨pp,T9,HJX.out.same HJ9.out (hf.mono (fun b _ hb=>(e3 b hb).1))⟩⟩)
  ·have hle:a≤s.size:=hal
   have hrm:Rm s dbl sub e a h wv=fl dbl h wv:=Rm_end hlt
   have S9:BSt By Bp Bw By Bl Bd l wr h wv (fun b=>T b∧b<wr.heap.size) (fun _=>False):=HI.out.st.frm (p:=fun _=>False) (Frm.refl _ _) (fun _ _ _ h=>h) (fun b hb ht=>⟨ht,hb⟩) (fun _ _ h=>h)
   have m9:Marks ds wr (fun b=>T b∧b<wr.heap.size) (fun _=>False):=HI.out.mks.frm (p:=fun _=>False) (Frm.refl _ _) (fun _ _ _ h=>h) (fun b hb ht=>⟨ht,hb⟩) (fun _ _ h=>h)
   have LET:=letOut_st n (by omega) HJ.out HY.out S9 HI.out.cap m9 (HJ.out pre T wr wr _ HI.out.hJ (Frm.refl _ _) (fun b hb=> .inl hb.1)) (fun b hb=>hb.2) (by have:=HI.out.hh;omega) HNE.out.1 ⟨HNE.out.2.2.1.2.2,HNE.out.2.2.2.1⟩ HDIST.out ⟨[],by rw [HI.out.hL,hrm];simp⟩
   have HLET:=Lib.hid LET
   have cl:=S9.f.cell 0
   have hLq:Hid (pre++fl dbl h wv=L):=Lib.hid (by rw [HI.out.hL,hrm])
   have hlt2:¬(a:Int)<(e:Int):=by omega
   clear LET S9 m9 hrm cr0 cr1 cd
   go_wp2_with fail
   refine((callsIn_wide (n:=n)).1 HLET.out).mono ?_
   rintro en W9 ⟨⟨hk,hm9,hsz9⟩,hr⟩
   have HM9:=Lib.hid hm9
   clear hm9 cl ct
   rcases hr with⟨rfl,hj9,_⟩|⟨rfl,pp,hj9⟩
   ·have HJ9:=Lib.hid hj9
    clear hj9
    go_wp2
    obtain⟨Ds,e1,e2,e3⟩:=HM9.out
    rw [e1]
    exact marks_leave rfl Ds W9 e2 (fun D hD=>(e3 D hD).2.2) (fun W' hf=>⟨⟨_,rfl⟩,.inl ⟨_,by rw [←hLq.out];exact HJ.out.same HJ9.out (hf.mono (fun b _ hb=>(e3 b hb).1))⟩⟩)
   ·have HJ9:=Lib.hid hj9
    clear hj9
    go_wp2
    obtain⟨Ds,e1,e2,e3⟩:=HM9.out
    rw [e1]
    exact marks_leave rfl Ds W9 e2 (fun D hD=>(e3 D hD).2.2) (fun W' hf=>⟨⟨_,rfl⟩,.inr ⟨pp,_,HJX.out.same HJ9.out (hf.mono (fun b _ hb=>(e3 b hb).1))⟩⟩)
end Go.Proofs.YtkolpaonccmgiaaGreatDoor

/- What the row's listed variable gives the walks: the table of operators' texts lies as start-up lays it; and a world for the witness. No condition. The statement ParseTexts of layer 13 (parse), as a card: whatever the text, the law returns true and its argument reads as before. Condition: none of the input; the listed tables are tied to the program's own text. -/
import Derived.Test.YtkolpaonccmgiaaGreatDoorCards
import Derived.Test.YtkolpaonccmgiaaGreatDoorTie
import Derived.Deep.DeepHandedRow
import Derived.Lay
import Derived.Lib.SmallJoins
import Derived.Test.YtkolpaonccmgiaaGreatDoorSg
namespace Go.Proofs.YtkolpaonccmgiaaGreatDoor
set_option linter.unusedVariables false
open Go.Proofs.Tryz
open Go.ChangeShapes Go.WideShapes Go.ChangeAt Go.RowKit
def Fg:List (List UInt8):=(List.range 18).map λi=>(txt i).data.toList
theorem zbO:prog.globalNamed "quillwort/oper.texts"=some 0:=by kernel_rfl
theorem zkd:(prog.globals[0]?).map (·.type)=some 143:=by kernel_rfl
theorem zke:prog.cellsOf 143=18:=by kernel_rfl
theorem zkf:prog.cellsOf 9=1:=by kernel_rfl
theorem zkg{W:World}(h:laidMet prog [("unicode/utf8.acceptRanges",Rows.laid_unicode_utf8_acceptRanges),("quillwort/oper.texts",Rows.laid_quillwort_oper_texts),("unicode/utf8.first",Rows.laid_unicode_utf8_first)] W):Tx W:=by
 obtain⟨ps0,⟨g0,t0,cs0,fuel0,p0,q0,hg0,ht0,zoK,hd0,htail,_⟩,_⟩:=h;obtain⟨g',t',cs,fuel,p,q,hg',ht',hvar,hd,_,_⟩:=htail;obtain rfl:=Option.some.inj (zbO.symm.trans hg');obtain rfl:=Option.some.inj (zkd.symm.trans ht');have hcell:∀i,i<18->W.cell? ⟨0,i,none⟩=some (.string (txt i)):=λi hi=>by
  obtain⟨xs,m,-,hx,hlen,hn,hel⟩:=DataW.trod_array underlying143 hd;rw[zke]at hlen;have hi2:i<xs.length:=by omega
  have h1:=hel i hi;rw[zkf,Nat.mul_one,List.getElem?_eq_getElem hi2]at h1;obtain⟨z,hz,hxi,-⟩:=DataW.trod_string underlying9 h1;have hti:(Fg.map λt=>(DataW.lit (.string t):DataW Unit))[i]?=some (.lit (.string z.data.toList)):=by
   have e:Fg.map (λt=>(DataW.lit (.string t):DataW Unit))=xs.map (·.1):=(DataW.agg.inj (Prod.mk.inj hx).1:);rw[e,List.getElem?_map,List.getElem?_eq_getElem hi2,hxi];rfl
  have OQ:z=txt i:=by
   have e:(txt i).data.toList=z.data.toList:=by simpa[Fg,hi]using hti
   exact ByteArray.ext (Array.toList_inj.1 e.symm)
  have hc:cs[i]?=some (.string z):=by
   have e:=congrArg (·[0]?) hz;simpa[List.getElem?_take,List.getElem?_drop]using e
  have hv:=World.var?_cell zbO hvar i;rw[hv,←OQ,←hc]
 refine⟨?_,hcell⟩;have h0:=hcell 0 (by omega);refine Nat.pos_of_ne_zero λg=>?_;have:W.heap[0]?=none:=Array.getElem?_eq_none (by omega);simp[World.cell?,this]at h0
theorem zbP:laidOutB prog=true:=by kernel_rfl
theorem zkh:mapsRowed prog=true:=by kernel_rfl
theorem zki:(Rows.parseFaultsRow.plainKeys==prog.plainKeys)=true:=by kernel_rfl
theorem zkj:prog.stopsHeard=true:=by kernel_rfl
theorem zkk:prog.mayEnter=true:=by kernel_rfl
theorem zkl:(Rows.parseFaultsRow.lifted==prog.liftsFinal)=true:=by kernel_rfl
theorem zkm:(prog.make==some Rows.parseFaultsRow.make)=true:=by kernel_rfl
noncomputable def P9(os:Os):World:=World.laidAll prog os [("unicode/utf8.acceptRanges",Rows.laid_unicode_utf8_acceptRanges),("quillwort/oper.texts",Rows.laid_quillwort_oper_texts),("unicode/utf8.first",Rows.laid_unicode_utf8_first)]
theorem zkn(os:Os):(P9 os).os=os:=World.laidAll_os _ _ _
end Go.Proofs.YtkolpaonccmgiaaGreatDoor
namespace Go.Proofs.YtkolpaonccmgiaaGreatDoor.parseTextsP
set_option linter.unusedVariables false
open Go.Proofs.Tryz
set_option maxHeartbeats 8000000
set_option maxRecDepth 100000
open Go.ChangeShapes Go.WideShapes Go.ChangeAt Go.RowKit Go.Joins
open Go.ChangeMaps (open_string shut_string)
open Go.Deep (open_slice)
theorem own:ownKnob prog.godebug=none:=by kernel_rfl
theorem zko:laidOutB prog=true:=zbP
theorem zkp(H:Type)(enc:TypeId×Value->H)(W:World)(base:Nat)(args:Array Value)(ds gs:List (DataW H))(before:List MemPlace)
 (hval0:∀(j:Nat) t v,Tryz.f6.params[j]?=some t->args[j]?=some v->Value.okWide prog W .any base t v)
 (hW:DataW.Whole enc prog Tryz.f6.params.toList Rows.parseTextsSpec.vars false W args.toList ds gs before)(hL:laidMetH prog Rows.parseTextsRow.laid W):
  Calls prog 6 args W λe W'=>∃v,e=.returned v/\Rows.parseTextsSpec.post enc prog Tryz.f6 false true false false W args v W':=by
 have hT:Tx W:=zkg hL;have hval:∀(j:Nat) t v,Tryz.f6.params[j]?=some t->args[j]?=some v->Value.okWide prog W .any base t v:=hval0;have hW':=hW;obtain⟨p,q,hA0,hV,rfl,hfz,hnd⟩:=hW;have hA:DataW.TrodAll enc prog W 0 (λ_=>true) true Tryz.f6.params.toList args.toList ds p:=hA0;rw[Tryz.params6]at hA hval;obtain⟨v0,vs0,d0,ds0,p0,q0,hargs,rfl,rfl,h0,r0⟩:=trodAll_cons hA;obtain⟨rfl,rfl,rfl⟩:=trodAll_nil r0;obtain rfl:args=#[v0]:=by cases args;simp_all
 obtain⟨rfl,rfl⟩:=trodVars_none hV;have k0:=h0;have lt0:∀x∈p0,x.block<W.heap.size:=by obtain⟨m,hm⟩:=k0;exact DataW.trod_lt m _ _ _ hm
 obtain⟨a0,rfl,e0,g0,w0⟩:=open_string underlying9 (hval 0 9 v0 rfl rfl) h0;refine(Q.texts_law W hT a0 (by unfold maxLen at w0;omega)).mono λe W' ⟨he,bel⟩=>?_;subst he;exact⟨_,rfl,_,_,_,[],_,[],hW',trodAll_mk1 (shut_bool underlying4 _),(trodAll_cons_mk (Below.trod zko (by kernel_rfl) (of_decide_eq_true (by kernel_rfl)) k0 bel lt0) trodAll_mk0),rfl,bel.frame _,λh=>by cases h⟩
theorem zkq(os:Os):laidMet prog Rows.parseTextsRow.laid ((P9 os).forCall (λ_ _=>0) ⟨#[],#[.string ⟨#[]⟩],[]⟩).memory:=
 laidMet_laidAll _ (by kernel_rfl) (by kernel_rfl)
theorem zkr(os:Os){H:Type}(enc:TypeId×Value->H):∃places,DataW.whole enc prog ((P9 os).forCall (λ_ _=>0) ⟨#[],#[.string ⟨#[]⟩],[]⟩).memory Tryz.f6.params.toList Rows.parseTextsSpec.vars false (#[.string ⟨#[]⟩]:Array Value).toList 8=some ([.lit (.string [])],[],places):=
 ⟨[],by kernel_rfl⟩
theorem lifted(os:Os)(started:os.Started)(H:Type)(enc:TypeId×Value->H)(F:Stop.Interp):
  ReturnsInHanded {} Tryz.checked os 6 .any ((OpenSpec.ofChange Rows.parseTextsSpec).preRow enc prog Tryz.f6 Rows.parseTextsRow.domain false Rows.parseTextsRow.laid) (((OpenSpec.ofChange Rows.parseTextsSpec).at F).post enc prog Tryz.f6 false true false false):=by
 obtain⟨places,hx⟩:=zkr os enc;refine returnsInHanded_of_row (C:=Tryz.checked) (s:=OpenSpec.ofChange Rows.parseTextsSpec) own started (by kernel_rfl) func6
  (witness_row_at (enc:=enc) (C:=Tryz.checked) false (P9 os) #[.string ⟨#[]⟩] (zkn os) (by kernel_rfl) (by kernel_rfl) (by kernel_rfl)
   (OpenSpec.preRow_of_cond 8 hx (by kernel_rfl) (λk hk=>by cases hk) (by kernel_rfl) (zkq os))) ?_
 intro W base args ds gs before hval hW _ _ _ hL _ _;exact zkp H enc W base args ds gs before hval hW hL
theorem zks:joinedFacts prog 6 Tryz.f6 (OpenSpec.ofChange Rows.parseTextsSpec).bare Rows.parseTextsRow=true:=by
 unfold joinedFacts
 repeat' (with_reducible refine Bool.and_eq_true_iff.2 ⟨?_,?_⟩)
 ·kernel_rfl
 ·exact zbP
 ·exact zkh
 ·kernel_rfl
 ·kernel_rfl
 ·kernel_rfl
 ·kernel_rfl
 ·kernel_rfl
 ·kernel_rfl
 ·as_aux_lemma=>kernel_rfl
 ·as_aux_lemma=>kernel_rfl
 ·as_aux_lemma=>kernel_rfl
 ·as_aux_lemma=>kernel_rfl
 ·kernel_rfl
 ·kernel_rfl
 ·kernel_rfl
 ·kernel_rfl
 ·kernel_rfl
 ·kernel_rfl
 ·kernel_rfl
 ·kernel_rfl
 ·kernel_rfl
 ·exact zki
 ·kernel_rfl
 ·exact zkj
 ·exact zkk
 ·exact zkl
 ·exact zkm
 ·kernel_rfl
 ·kernel_rfl
 ·kernel_rfl
 ·kernel_rfl
theorem zkt:Rows.ParseTextsSaid:=
 OpenClaim.holds_of_cond 6 Tryz.f6 rfl rfl rfl rfl rfl rfl rfl ⟨rfl,rfl,rfl,rfl,rfl⟩ rfl rfl rfl rfl rfl (by kernel_rfl) func6 zks
  (of_decide_eq_true (by kernel_rfl)) (by unfold Func.isWrapper;first|(rw[if_pos (by decide+kernel)];kernel_rfl)|(rw[if_neg (by decide+kernel)];exact⟨rfl,rfl⟩))
  (λos started H enc _ F=>by rw[OpenClaim.pre_eq_preRow];exact lifted os started H enc F)
theorem plain(f:FuncId)(fn:Func)(hf:Tryz.pinned.checked.prog.funcNamed "quillwort/quillwortlaw13.ParseTexts"=some f)(hfn:Tryz.pinned.checked.prog.funcs[f]?=some fn):
  false=Tryz.pinned.checked.prog.looks []/\∀(j:Nat) t,fn.params[j]?=some t->Tryz.pinned.checked.prog.wantsStandIn t=false:=by
 obtain rfl:f=6:=Option.some.inj ((show prog.funcNamed "quillwort/quillwortlaw13.ParseTexts"=some 6 by kernel_rfl).symm.trans hf)|>.symm;obtain rfl:fn=Tryz.f6:=(Option.some.inj (Tryz.func6.symm.trans hfn)).symm;refine⟨by kernel_rfl,λj t ht=>?_⟩;rw[Tryz.params6]at ht;have hm:t∈ [9]:=by simpa using Array.mem_of_getElem? ht
 have hall:([9].all λu=>!prog.wantsStandIn u)=true:=by kernel_rfl
 exact(show prog.wantsStandIn t=false by simpa using List.all_eq_true.1 hall t hm)
theorem card:Rows.ParseTextsCardSaid:=
 Claim7.holds_tied_plain_at .later [] _ _ _ _ zkt (λ_ h=>by cases h) (by kernel_rfl) (λ_ h=>by cases h) parseTexts_row_tie rfl ⟨rfl,rfl⟩ (by kernel_rfl) rfl plain (by kernel_rfl)
end Go.Proofs.YtkolpaonccmgiaaGreatDoor.parseTextsP
namespace Go.Proofs.YtkolpaonccmgiaaGreatDoor
set_option linter.unusedVariables false
set_option maxHeartbeats 8000000
set_option maxRecDepth 100000
theorem parseTexts_holds:Rows.ParseTextsCardSaid:=parseTextsP.card
end Go.Proofs.YtkolpaonccmgiaaGreatDoor

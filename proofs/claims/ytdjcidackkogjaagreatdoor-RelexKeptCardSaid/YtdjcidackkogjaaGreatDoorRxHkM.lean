/- The statement RelexKept of layer 10 (relex), as a card: whatever the text and the edit, the law returns true and its arguments read as before. Condition: none of the input; the listed tables are tied to the program's own text. -/
import Derived.Test.YtdjcidackkogjaaGreatDoorRo
namespace Go.Proofs.YtdjcidackkogjaaGreatDoor.relexKeptP
set_option linter.unusedVariables false
set_option maxHeartbeats 8000000
set_option maxRecDepth 100000
open Go.ChangeShapes Go.WideShapes Go.ChangeAt Go.RowKit Go.Joins
open Go.ChangeMaps (open_string shut_string)
open Go.Deep (open_slice)
theorem own:ownKnob Tryz.prog.godebug=none:=by kernel_rfl
theorem Rw:laidOutB Tryz.prog=true:=Na
theorem OX(H:Type)(enc:TypeId×Value→H)(W:World)(base:Nat)(args:Array Value)(ds gs:List (DataW H))(before:List MemPlace)
 (hval0:∀(j:Nat) t v,Tryz.f4.params[j]?=some t→args[j]?=some v→Value.okWide Tryz.prog W .any base t v)
 (hW:DataW.Whole enc Tryz.prog Tryz.f4.params.toList Rows.relexKeptSpec.vars false W args.toList ds gs before)(hL:laidMetH Tryz.prog Rows.relexKeptRow.laid W):
  Calls Tryz.prog 4 args W λe W'=>∃v,e=.returned v∧Rows.relexKeptSpec.post enc Tryz.prog Tryz.f4 false true false false W args v W':=by
 have hT:Tx W:=Uf hL;have hval:∀(j:Nat) t v,Tryz.f4.params[j]?=some t→args[j]?=some v→Value.okWide Tryz.prog W .any base t v:=hval0;have hW':=hW;obtain⟨p,q,hA0,hV,rfl,hfz,hnd⟩:=hW;have hA:DataW.TrodAll enc Tryz.prog W 0 (λ_=>true) true Tryz.f4.params.toList args.toList ds p:=hA0;rw[Tryz.params4]at hA hval;obtain⟨v0,vs0,d0,ds0,p0,q0,hargs,rfl,rfl,h0,r0⟩:=trodAll_cons hA;obtain⟨v1,vs1,d1,ds1,p1,q1,rfl,rfl,rfl,h1,r1⟩:=trodAll_cons r0;obtain⟨rfl,rfl,rfl⟩:=trodAll_nil r1;obtain rfl:args=#[v0,v1]:=by cases args;simp_all
 obtain⟨rfl,rfl⟩:=trodVars_none hV;have k0:=h0;have OY:∀x∈p0,x.block<W.heap.size:=by obtain⟨m,hm⟩:=k0;exact DataW.trod_lt m _ _ _ hm
 have k1:=h1;have OZ:∀x∈p1,x.block<W.heap.size:=by obtain⟨m,hm⟩:=k1;exact DataW.trod_lt m _ _ _ hm
 obtain⟨a0,rfl,e0,g0,w0⟩:=open_string Tryz.underlying9 (hval 0 9 v0 rfl rfl) h0;obtain⟨cs1,rfl,_⟩:=okWide_struct Tryz.underlying35 (hval 1 35 v1 rfl rfl);obtain⟨fuel1,hf1⟩:=h1;obtain⟨ea1,ed1,en1,hc1⟩:=zop (x:=(d1,p1)) (by simpa[Value.cells]using hf1);obtain rfl:cs1=#[.int .i64 ea1,.string ed1,.string en1]:=by cases cs1;simpa using hc1
 have hz0:a0.size≤9223372036854775807:=by unfold maxLen at w0;omega
 refine(kept10_law W hT a0 hz0 ea1 ed1 en1).mono λe W' ⟨he,bel⟩=>?_;subst he;exact⟨_,rfl,_,_,_,[],_,[],hW',trodAll_mk1 (shut_bool Tryz.underlying4 _),(trodAll_cons_mk (Below.trod Rw (by kernel_rfl) (of_decide_eq_true (by kernel_rfl)) k0 bel OY) (trodAll_cons_mk (Below.trod Rw (by kernel_rfl) (of_decide_eq_true (by kernel_rfl)) k1 bel OZ) trodAll_mk0)),rfl,bel.frame _,λh=>by cases h⟩
theorem O4(os:Os):laidMet Tryz.prog Rows.relexKeptRow.laid ((KN os).forCall (λ_ _=>0) ⟨#[],#[.string ⟨#[]⟩,.agg #[.int .i64 0,.string ⟨#[]⟩,.string ⟨#[]⟩]],[]⟩).memory:=
 laidMet_laidAll _ (by kernel_rfl) (by kernel_rfl)
theorem O5(os:Os){H:Type}(enc:TypeId×Value→H):∃places,DataW.whole enc Tryz.prog ((KN os).forCall (λ_ _=>0) ⟨#[],#[.string ⟨#[]⟩,.agg #[.int .i64 0,.string ⟨#[]⟩,.string ⟨#[]⟩]],[]⟩).memory Tryz.f4.params.toList Rows.relexKeptSpec.vars false (#[.string ⟨#[]⟩,.agg #[.int .i64 0,.string ⟨#[]⟩,.string ⟨#[]⟩]]:Array Value).toList 8=some ([.lit (.string []),.agg [.lit (.int .i64 0),.lit (.string []),.lit (.string [])]],[],places):=
 ⟨[],by kernel_rfl⟩
theorem lifted(os:Os)(started:os.Started)(H:Type)(enc:TypeId×Value→H)(F:Stop.Interp):
  ReturnsInHanded {} Tryz.checked os 4 .any ((OpenSpec.ofChange Rows.relexKeptSpec).preRow enc Tryz.prog Tryz.f4 Rows.relexKeptRow.domain false Rows.relexKeptRow.laid) (((OpenSpec.ofChange Rows.relexKeptSpec).at F).post enc Tryz.prog Tryz.f4 false true false false):=by
 obtain⟨places,hx⟩:=O5 os enc;refine returnsInHanded_of_row (C:=Tryz.checked) (s:=OpenSpec.ofChange Rows.relexKeptSpec) own started (by kernel_rfl) Tryz.func4
  (witness_row_at (enc:=enc) (C:=Tryz.checked) false (KN os) #[.string ⟨#[]⟩,.agg #[.int .i64 0,.string ⟨#[]⟩,.string ⟨#[]⟩]] (Uh os) (by kernel_rfl) (by kernel_rfl) (by kernel_rfl)
   (OpenSpec.preRow_of_cond 8 hx (by kernel_rfl) (λk hk=>by cases hk) (by kernel_rfl) (O4 os))) ?_
 intro W base args ds gs before hval hW _ _ _ hL _ _;exact OX H enc W base args ds gs before hval hW hL
theorem O6:joinedFacts Tryz.prog 4 Tryz.f4 (OpenSpec.ofChange Rows.relexKeptSpec).bare Rows.relexKeptRow=true:=by
 unfold joinedFacts
 repeat' (with_reducible refine Bool.and_eq_true_iff.2 ⟨?_,?_⟩)
 ·kernel_rfl
 ·exact Na
 ·exact Ui
 ·kernel_rfl
 ·kernel_rfl
 ·kernel_rfl
 ·kernel_rfl
 ·kernel_rfl
 ·kernel_rfl
 ·as_aux_lemma=>kernel_rfl
 ·as_aux_lemma=>kernel_rfl
 ·as_aux_lemma=>kernel_rfl
 ·as_aux_lemma=>kernel_rfl
 ·kernel_rfl
 ·kernel_rfl
 ·kernel_rfl
 ·kernel_rfl
 ·kernel_rfl
 ·kernel_rfl
 ·kernel_rfl
 ·kernel_rfl
 ·kernel_rfl
 ·exact Uj
 ·kernel_rfl
 ·exact Uk
 ·exact Ul
 ·exact Um
 ·exact Un
 ·kernel_rfl
 ·kernel_rfl
 ·kernel_rfl
 ·kernel_rfl
theorem O7:Rows.RelexKeptSaid:=
 OpenClaim.holds_of_cond 4 Tryz.f4 rfl rfl rfl rfl rfl rfl rfl ⟨rfl,rfl,rfl,rfl,rfl⟩ rfl rfl rfl rfl rfl (by kernel_rfl) Tryz.func4 O6
  (of_decide_eq_true (by kernel_rfl)) (by unfold Func.isWrapper;first|(rw[if_pos (by decide+kernel)];kernel_rfl)|(rw[if_neg (by decide+kernel)];exact⟨rfl,rfl⟩))
  (λos started H enc _ F=>by rw[OpenClaim.pre_eq_preRow];exact lifted os started H enc F)
theorem plain(f:FuncId)(fn:Func)(hf:Tryz.pinned.checked.prog.funcNamed "quillwort/quillwortlaw10.RelexKept"=some f)(hfn:Tryz.pinned.checked.prog.funcs[f]?=some fn):
  false=Tryz.pinned.checked.prog.looks []∧∀(j:Nat) t,fn.params[j]?=some t→Tryz.pinned.checked.prog.wantsStandIn t=false:=by
 obtain rfl:f=4:=Option.some.inj ((show Tryz.prog.funcNamed "quillwort/quillwortlaw10.RelexKept"=some 4 by kernel_rfl).symm.trans hf)|>.symm;obtain rfl:fn=Tryz.f4:=(Option.some.inj (Tryz.func4.symm.trans hfn)).symm;refine⟨by kernel_rfl,λj t ht=>?_⟩;rw[Tryz.params4]at ht;have hm:t∈ [9,35]:=by simpa using Array.mem_of_getElem? ht
 have hall:([9,35].all λu=>!Tryz.prog.wantsStandIn u)=true:=by kernel_rfl
 exact(show Tryz.prog.wantsStandIn t=false by simpa using List.all_eq_true.1 hall t hm)
theorem card:Rows.RelexKeptCardSaid:=
 Claim7.holds_tied_plain_at .later [] _ _ _ _ O7 (λ_ h=>by cases h) (by kernel_rfl) (λ_ h=>by cases h) relexKept_row_tie rfl ⟨rfl,rfl⟩ (by kernel_rfl) rfl plain (by kernel_rfl)
end Go.Proofs.YtdjcidackkogjaaGreatDoor.relexKeptP
namespace Go.Proofs.YtdjcidackkogjaaGreatDoor
set_option linter.unusedVariables false
set_option maxHeartbeats 8000000
set_option maxRecDepth 100000
theorem relexKept_holds:Rows.RelexKeptCardSaid:=relexKeptP.card
end Go.Proofs.YtdjcidackkogjaaGreatDoor

/- What is made within a node of each kind but a Simp -/
import Derived.Test.YtkolpaonccmgiaaGreatDoorSh
set_option linter.unusedVariables false
namespace Go.Proofs.YtkolpaonccmgiaaGreatDoor.Q
set_option linter.unusedSectionVars false
set_option linter.unusedVariables false
open Go.RowKit
def InR (n:Nat) (lv:Nat→Lf) (nv:Nat→Nd) (N i D:Nat) (p:PP) (a j:Nat):Prop:=∃T e:Nat,(T:Int)=(nv i).t∧IsEnd nv N i e∧GoF n lv nv i D p a j T e
section
variable {n:Nat} {lv:Nat→Lf} {nv:Nat→Nd} {N i D:Nat}
theorem inR_seq {p q:PP} {a j b e:Nat} (h:GoF n lv nv i D p a j b e) (g:InR n lv nv N i D q b e):InR n lv nv N i D (.seq p q) a j:=by
 obtain⟨T,e',h1,h2,h3⟩:=g
 exact⟨T,e',h1,h2,goF_seq h h3⟩
theorem ck_of {k:Int} (h1:1≤k) (h2:k≤18) (h:letN k∈cLs):CK k:=by
 obtain⟨m,rfl⟩:∃m:Nat,k=((m+1:Nat):Int):=⟨(k - 1).toNat,by omega⟩
 have:∀m,m<18→letN ((m+1:Nat):Int)∈cLs→(m=4∨m=15∨(8≤m∧m≤13)):=by decide
 have:=this m (by omega) h
 unfold CK
 omega
theorem cp_of {k:Int} (h1:1≤k) (h2:k≤18) (h:letN k∈ [66,85,70,72,79,67]):CP k:=by
 obtain⟨m,rfl⟩:∃m:Nat,k=((m+1:Nat):Int):=⟨(k - 1).toNat,by omega⟩
 have:∀m,m<18→letN ((m+1:Nat):Int)∈ [66,85,70,72,79,67]→(8≤m∧m≤13):=by decide
 have:=this m (by omega) h
 unfold CP
 omega
variable (hC:CxF n lv nv N i D)
include hC
theorem c_and {a j:Nat} {r:List Nat} (h:RW n lv nv N i a j (65::r)) (hx:∀b e,RW n lv nv N i b e r→sgA n lv b∈folA):∃b e,tst (pipT n lv) a D true∧GoF n lv nv i D (andP n lv) a j b e∧RW n lv nv N i b e r:=by
 obtain⟨b,e,h1,h2,h3⟩:=w_kid hC 3 (by decide) (by decide) rfl h
 refine⟨b,e,(hC.fs _ _ _ _ h1).p (by omega),(hC.gk _ _ _ _ h1 ?_).d h2,h3⟩
 rw [h2]
 exact⟨fun h=>absurd h (by decide),fun _=>hx b e h3,fun h=>absurd h (by decide),fun h=>absurd h (by unfold CK;decide),fun h=>absurd h (by decide)⟩
theorem c_pip {a j:Nat} {r:List Nat} (h:RW n lv nv N i a j (73::r)) (hx:∀b e,RW n lv nv N i b e r→sgA n lv b∈folI):∃b e,tst (pipT n lv) a D true∧GoF n lv nv i D (pipP n lv) a j b e∧RW n lv nv N i b e r:=by
 obtain⟨b,e,h1,h2,h3⟩:=w_kid hC 4 (by decide) (by decide) rfl h
 refine⟨b,e,(hC.fs _ _ _ _ h1).p (by omega),(hC.gk _ _ _ _ h1 ?_).p h2,h3⟩
 rw [h2]
 exact⟨fun h=>absurd h (by decide),fun h=>absurd h (by decide),fun _=>hx b e h3,fun h=>absurd h (by unfold CK;decide),fun h=>absurd h (by decide)⟩
theorem c_com {a j c:Nat} {r:List Nat} (h:RW n lv nv N i a j (c::r)) (hc:c∈cLs) (hx:∀b e,RW n lv nv N i b e r→sgA n lv b∈folC):∃b e,tst (cmdT n lv) a D true∧GoF n lv nv i D (comP n lv) a j b e∧RW n lv nv N i b e r:=by
 have hcu:c∈upL:=(show ∀x∈cLs,x∈upL by decide) c hc
 obtain⟨h1,b,e,h2,h3⟩:=rw_kid sgA_low h hcu
 have hkk:=hC.kk _ h2.lt
 have hck:=ck_of hkk.1 hkk.2 (by rw [h1];exact hc)
 refine⟨b,e,(hC.fs _ _ _ _ h2).c hck,(hC.gk _ _ _ _ h2 ?_).c hck,h3⟩
 unfold CK at hck
 exact⟨fun h=>by omega,fun h=>by omega,fun h=>by omega,fun _=>hx b e h3,fun h=>by omega⟩
theorem c_cmp {a j c:Nat} {r:List Nat} (h:RW n lv nv N i a j (c::r)) (hc:c∈ [66,85,70,72,79,67]) (hx:∀b e,RW n lv nv N i b e r→sgA n lv b∈folC):∃b e,tst (cmpT n lv) a D true∧GoF n lv nv i D (cmpP n lv) a j b e∧RW n lv nv N i b e r:=by
 have hcu:c∈upL:=(show ∀x∈ [66,85,70,72,79,67],x∈upL by decide) c hc
 obtain⟨h1,b,e,h2,h3⟩:=rw_kid sgA_low h hcu
 have hkk:=hC.kk _ h2.lt
 have hck:=cp_of hkk.1 hkk.2 (by rw [h1];exact hc)
 refine⟨b,e,(hC.fs _ _ _ _ h2).m hck,(hC.gk _ _ _ _ h2 ?_).m hck,h3⟩
 unfold CP at hck
 exact⟨fun h=>by omega,fun h=>by omega,fun h=>by omega,fun _=>hx b e h3,fun h=>by omega⟩
omit hC in
omit hC in
theorem c_fin {p:PP} {a j b e:Nat} (h:GoF n lv nv i D p a j b e) (g:RW n lv nv N i b e []):InR n lv nv N i D p a j:=⟨b,e,(rw_nil g).1,(rw_nil g).2,h⟩
omit hC in
theorem sep_head {m:List Nat} (h:qSep m):∃s ns,m=s::ns∧s∈ [59,38,110]∧InM [110] ns:=by
 rcases h with⟨x,ns,rfl,⟨s,rfl,hs⟩,hn⟩|⟨x,ns,rfl,⟨s,rfl,hs⟩,hn⟩
 ·exact⟨s,ns,rfl,(show ∀x∈ [59,38],x∈ [59,38,110] by decide) s hs,hn⟩
 ·exact⟨s,ns,rfl,(show ∀x∈ [110],x∈ [59,38,110] by decide) s hs,hn⟩
theorem n_set {l l':List Nat} (hl:∀x∈l,x∉upL∧x∈l') {c:Nat} {r:List Nat} (hc:c∈l) {a j:Nat} (h:RW n lv nv N i a j (c::r)):sgA n lv a∈l':=by
 rw [(w_leaf hC h (hl c hc).1).1]
 exact(hl c hc).2
theorem n_rl {m x:List Nat} (hm:Star (qPc 1) m) (hq:x=[]∨qSep x) (hx:∀T:Nat,(T:Int)=(nv i).t→sgA n lv T∈folL) {b e:Nat} (h:RW n lv nv N i b e (m++x)):sgA n lv b∈folA:=by
 cases hm with
 |nil=>
  rcases hq with rfl|hq
  ·exact fol_la _ (hx b (rw_nil h).1)
  ·obtain⟨s,ns,rfl,hs,_⟩:=sep_head hq
   exact n_set hC (l:=[59,38,110]) (by decide) hs h
 |cons ha _=>
  obtain⟨y,z,rfl,hy,_⟩:=ha
  obtain⟨s,ns,rfl,hs,_⟩:=sep_head hy
  rw [List.append_assoc,List.append_assoc]at h
  exact n_set hC (l:=[59,38,110]) (by decide) hs h
theorem in_rl {m x:List Nat} (hm:Star (qPc 1) m) (hq:x=[]∨qSep x) (hx:∀T:Nat,(T:Int)=(nv i).t→sgA n lv T∈folL):∀{a j:Nat},RW n lv nv N i a j (m++x)→InR n lv nv N i D (.rep (isS n lv [59,38,110]) (.seq .adv (nlsP n lv)) (pipT n lv) (andP n lv)) a j:=by
 induction hm with
 |nil=>
  intro a j h
  rcases hq with rfl|hq
  ·have hT:=hx a (rw_nil h).1
   exact c_fin (goF_stop (t_isn ((show ∀x∈folL,x∉ [59,38,110] by decide) _ hT))) h
  ·obtain⟨s,ns,rfl,hs,hn⟩:=sep_head hq
   obtain⟨h1,h2⟩:=w_leaf hC (r:=ns) h ((show ∀x∈ [59,38,110],x∉upL by decide) s hs)
   rw [←List.append_nil ns]at h2
   obtain⟨a',h3,h4⟩:=c_nls hC h2 hn (fun a j g=>(show ∀x∈folL,x∉ [110] by decide) _ (hx a (rw_nil g).1))
   refine c_fin (goF_out (t_is (by rw [h1];exact List.contains_iff_mem.2 hs)) (goF_seq goF_adv h3) (t_pipn ((show ∀x∈folL,x∉ [33,120,60,35,123,40,105,119,114,99] by decide) _ (hx a' (rw_nil h4).1)))) h4
 |@cons y m hy hm' ih=>
  intro a j h
  obtain⟨u,v,rfl,hu,c,rfl,hc⟩:=hy
  obtain rfl:c=65:=by simpa using hc
  obtain⟨s,ns,rfl,hs,hn⟩:=sep_head hu
  rw [List.append_assoc,List.append_assoc]at h
  obtain⟨h1,h2⟩:=w_leaf hC (r:=ns++([65]++(m++x))) h ((show ∀x∈ [59,38,110],x∉upL by decide) s hs)
  obtain⟨a',h3,h4⟩:=c_nls hC h2 hn (fun a j g=>not110 (n_kid hC (K:=3) (by omega) rfl a j g))
  obtain⟨b,e,h5,h6,h7⟩:=c_and hC (r:=m++x) h4 (fun b e g=>n_rl hC hm' hq hx g)
  obtain⟨T,e',g1,g2,g3⟩:=ih h7
  exact⟨T,e',g1,g2,goF_go (t_is (by rw [h1];exact List.contains_iff_mem.2 hs)) (goF_seq goF_adv h3) h5 h6 g3⟩
theorem in2 {a j:Nat} {row:List Nat} (h:RW n lv nv N i a j row) (hq:q2 row) (hx:∀T:Nat,(T:Int)=(nv i).t→sgA n lv T∈folL):InR n lv nv N i D (lsbP n lv) a j:=by
 obtain⟨u,x,rfl,⟨v,m,rfl,⟨c,rfl,hc⟩,hm⟩,hxx⟩:=hq
 obtain rfl:c=65:=by simpa using hc
 rw [List.append_assoc]at h
 obtain⟨b,e,h5,h6,h7⟩:=c_and hC (r:=m++x) h (fun b e g=>n_rl hC hm hxx hx g)
 exact inR_seq h6 (in_rl hC hm hxx hx h7)
theorem n_st {k:Nat} {l l':List Nat} (hl:∀x∈l,x∉upL∧x∈l') (hk:∀y,qPc k y→∃s r,y=s::r∧s∈l) {m:List Nat} (hm:Star (qPc k) m) (hx:∀T:Nat,(T:Int)=(nv i).t→sgA n lv T∈l') {b e:Nat} (h:RW n lv nv N i b e m):sgA n lv b∈l':=by
 cases hm with
 |nil=>exact hx b (rw_nil h).1
 |cons ha _=>
  obtain⟨s,r,rfl,hs⟩:=hk _ ha
  exact n_set hC hl hs h
omit hC in
theorem pc2 {y:List Nat} (h:qPc 2 y):∃s ns,y=s::(ns++ [73])∧s∈ [97,111]∧InM [110] ns:=by
 obtain⟨u,v,rfl,⟨w,ns,rfl,⟨s,rfl,hs⟩,hn⟩,c,rfl,hc⟩:=h
 obtain rfl:c=73:=by simpa using hc
 exact⟨s,ns,by simp,hs,hn⟩
omit hC in
theorem pc3 {y:List Nat} (h:qPc 3 y):∃ns c,y=124::(ns++ [c])∧c∈cLs∧InM [110] ns:=by
 obtain⟨u,v,rfl,⟨w,ns,rfl,⟨s,rfl,hs⟩,hn⟩,c,rfl,hc⟩:=h
 obtain rfl:s=124:=by simpa using hs
 exact⟨ns,c,by simp,hc,hn⟩
omit hC in
theorem hd2 (y:List Nat) (h:qPc 2 y):∃s r,y=s::r∧s∈ [97,111]:=by
 obtain⟨s,ns,h1,h2,_⟩:=pc2 h
 exact⟨s,_,h1,h2⟩
omit hC in
theorem hd3 (y:List Nat) (h:qPc 3 y):∃s r,y=s::r∧s∈ [124]:=by
 obtain⟨ns,c,h1,h2,_⟩:=pc3 h
 exact⟨124,_,h1,by simp⟩
theorem in_ra {m:List Nat} (hm:Star (qPc 2) m) (hx:∀T:Nat,(T:Int)=(nv i).t→sgA n lv T∈folA):∀{a j:Nat},RW n lv nv N i a j m→InR n lv nv N i D (.rep (isS n lv [97,111]) (.seq .adv (.seq (nlsP n lv) (.ite (pipT n lv) (pipP n lv) missP))) yesT .skip) a j:=by
 induction hm with
 |nil=>
  intro a j h
  exact c_fin (goF_stop (t_isn ((show ∀x∈folA,x∉ [97,111] by decide) _ (hx a (rw_nil h).1)))) h
 |@cons y m hy hm' ih=>
  intro a j h
  obtain⟨s,ns,rfl,hs,hn⟩:=pc2 hy
  obtain⟨h1,h2⟩:=w_leaf hC (r:=(ns++ [73])++m) h ((show ∀x∈ [97,111],x∉upL by decide) s hs)
  rw [List.append_assoc]at h2
  obtain⟨a',h3,h4⟩:=c_nls hC h2 hn (fun a j g=>not110 (n_kid hC (K:=4) (by omega) rfl a j g))
  obtain⟨b,e,h5,h6,h7⟩:=c_pip hC (r:=m) h4 (fun b e g=>n_st hC (k:=2) (l:=[97,111]) (by decide) hd2 hm' (fun T hT=>fol_ai _ (hx T hT)) g)
  obtain⟨T,e',g1,g2,g3⟩:=ih h7
  exact⟨T,e',g1,g2,goF_more (t_is (by rw [h1];exact List.contains_iff_mem.2 hs)) (goF_seq goF_adv (goF_seq h3 (goF_yes h5 h6))) g3⟩
theorem in3 {a j:Nat} {row:List Nat} (h:RW n lv nv N i a j row) (hq:q3 row) (hx:∀T:Nat,(T:Int)=(nv i).t→sgA n lv T∈folA):InR n lv nv N i D (andbP n lv) a j:=by
 obtain⟨v,m,rfl,⟨c,rfl,hc⟩,hm⟩:=hq
 obtain rfl:c=73:=by simpa using hc
 obtain⟨b,e,h5,h6,h7⟩:=c_pip hC (r:=m) h (fun b e g=>n_st hC (k:=2) (l:=[97,111]) (by decide) hd2 hm (fun T hT=>fol_ai _ (hx T hT)) g)
 exact inR_seq h6 (in_ra hC hm hx h7)
theorem in_rp {m:List Nat} (hm:Star (qPc 3) m) (hx:∀T:Nat,(T:Int)=(nv i).t→sgA n lv T∈folI):∀{a j:Nat},RW n lv nv N i a j m→InR n lv nv N i D (.rep (isS n lv [124]) (.seq .adv (.seq (nlsP n lv) (comP n lv))) yesT .skip) a j:=by
 induction hm with
 |nil=>
  intro a j h
  exact c_fin (goF_stop (t_isn ((show ∀x∈folI,x∉ [124] by decide) _ (hx a (rw_nil h).1)))) h
 |@cons y m hy hm' ih=>
  intro a j h
  obtain⟨ns,c,rfl,hc,hn⟩:=pc3 hy
  obtain⟨h1,h2⟩:=w_leaf hC (r:=(ns++ [c])++m) h (by decide)
  rw [List.append_assoc]at h2
  have hfc:=fun b e (g:RW n lv nv N i b e m)=>n_st hC (k:=3) (l:=[124]) (l':=folC) (by decide) hd3 hm' (fun T hT=>fol_ic _ (hx T hT)) g
  obtain⟨a',h3,h4⟩:=c_nls hC h2 hn (fun a j g=>by
   obtain⟨b,e,h5,_,_⟩:=c_com hC (r:=m) g hc hfc
   exact(show ∀x∈ [120,60,35,123,40,105,119,114,99],x∉ [110] by decide) _ (cmd_at h5))
  obtain⟨b,e,h5,h6,h7⟩:=c_com hC (r:=m) h4 hc hfc
  obtain⟨T,e',g1,g2,g3⟩:=ih h7
  exact⟨T,e',g1,g2,goF_more (t_isy h1 rfl) (goF_seq goF_adv (goF_seq h3 h6)) g3⟩
theorem in4 {a j:Nat} {row:List Nat} (h:RW n lv nv N i a j row) (hq:q4 row) (hx:∀T:Nat,(T:Int)=(nv i).t→sgA n lv T∈folI):InR n lv nv N i D (pipbP n lv) a j:=by
 obtain⟨u,m,rfl,⟨v,w,rfl,hv,c,rfl,hc⟩,hm⟩:=hq
 have hfc:=fun b e (g:RW n lv nv N i b e m)=>n_st hC (k:=3) (l:=[124]) (l':=folC) (by decide) hd3 hm (fun T hT=>fol_ic _ (hx T hT)) g
 rw [List.append_assoc]at h
 rcases hv with rfl|⟨s,rfl,hs⟩
 ·obtain⟨b,e,h5,h6,h7⟩:=c_com hC (r:=m) h hc hfc
  exact inR_seq (goF_no (t_isn ((show ∀x∈ [120,60,35,123,40,105,119,114,99],x∉ [33] by decide) _ (cmd_at h5))) goF_skip) (inR_seq h6 (in_rp hC hm hx h7))
 ·obtain rfl:s=33:=by simpa using hs
  obtain⟨h1,h2⟩:=w_leaf hC (r:=[c]++m) h (by decide)
  obtain⟨b,e,h5,h6,h7⟩:=c_com hC (r:=m) h2 hc hfc
  exact inR_seq (goF_yes (t_isy h1 rfl) goF_adv) (inR_seq h6 (in_rp hC hm hx h7))
theorem in8 {a j:Nat} {row:List Nat} (h:RW n lv nv N i a j row) (hq:q8 row):InR n lv nv N i D (.seq (.ite (isS n lv [35]) (.seq .adv .adv) .adv) (wonP n lv)) a j:=by
 obtain⟨u,v,rfl,⟨x,y,rfl,hx,c,rfl,hc⟩,d,rfl,hd⟩:=hq
 obtain rfl:c=60:=by simpa using hc
 obtain rfl:d=87:=by simpa using hd
 rw [List.append_assoc]at h
 rcases hx with rfl|⟨s,rfl,hs⟩
 ·obtain⟨h1,h2⟩:=w_leaf hC (r:=[87]) h (by decide)
  obtain⟨b,e,h3,h4⟩:=c_won hC h2
  exact inR_seq (goF_no (t_isn (by rw [h1];decide)) goF_adv) (c_fin h3 h4)
 ·obtain rfl:s=35:=by simpa using hs
  obtain⟨h1,h2⟩:=w_leaf hC (r:=[60]++ [87]) h (by decide)
  obtain⟨h3,h4⟩:=w_leaf hC (r:=[87]) h2 (by decide)
  obtain⟨b,e,h5,h6⟩:=c_won hC h4
  exact inR_seq (goF_yes (t_isy h1 rfl) (goF_seq goF_adv goF_adv)) (c_fin h5 h6)
theorem c_cp {w:PP} {a j b e c:Nat} {r rs:List Nat} (h:RW n lv nv N i a j (c::r)) (hc:c∉upL) (hw:GoF n lv nv i D w (a+1) j b e) (h2:RW n lv nv N i b e rs) (hrs:InM [82] rs) (hx:∀T:Nat,(T:Int)=(nv i).t→sgA n lv T∈folC):InR n lv nv N i D (.seq .adv (.seq w (redsP n lv))) a j:=by
 obtain⟨T,e',h3,h4,h5⟩:=c_reds hC h2 hrs hx
 exact⟨T,e',h3,h4,goF_seq goF_adv (goF_seq hw h5)⟩
theorem x_leaf {c:Nat} {r:List Nat} (hc:c∉upL) (hf:c∈folL) (b e:Nat) (g:RW n lv nv N i b e (c::r)):sgA n lv b∈folL:=n_in hC hc hf b e g
theorem in9 {a j:Nat} {row:List Nat} (h:RW n lv nv N i a j row) (hq:q9 row) (hx:∀T:Nat,(T:Int)=(nv i).t→sgA n lv T∈folC):sgA n lv a=123∧InR n lv nv N i D (.seq .adv (.seq (encP n lv 125) (redsP n lv))) a j:=by
 obtain⟨u,rs,rfl,⟨v,w,rfl,⟨x,m,rfl,⟨c,rfl,hc⟩,hm⟩,d,rfl,hd⟩,hrs⟩:=hq
 obtain rfl:c=123:=by simpa using hc
 obtain rfl:d=125:=by simpa using hd
 simp only [List.append_assoc,List.singleton_append]at h
 obtain⟨h1,h2⟩:=w_leaf hC h (by decide)
 obtain⟨b,e,h3,h4⟩:=c_body hC h2 hm (x_leaf hC (by decide) (by decide))
 obtain⟨h5,h6⟩:=c_want hC h4 (by decide)
 exact⟨h1,c_cp hC h (by decide) (goF_seq h3 h5) h6 hrs hx⟩
theorem in10 {a j:Nat} {row:List Nat} (h:RW n lv nv N i a j row) (hq:q10 row) (hx:∀T:Nat,(T:Int)=(nv i).t→sgA n lv T∈folC):sgA n lv a=40∧InR n lv nv N i D (.seq .adv (.seq (encP n lv 41) (redsP n lv))) a j:=by
 obtain⟨u,rs,rfl,⟨v,w,rfl,⟨x,m,rfl,⟨c,rfl,hc⟩,hm⟩,d,rfl,hd⟩,hrs⟩:=hq
 obtain rfl:c=40:=by simpa using hc
 obtain rfl:d=41:=by simpa using hd
 simp only [List.append_assoc,List.singleton_append]at h
 obtain⟨h1,h2⟩:=w_leaf hC h (by decide)
 obtain⟨b,e,h3,h4⟩:=c_body hC h2 hm (x_leaf hC (by decide) (by decide))
 obtain⟨h5,h6⟩:=c_want hC h4 (by decide)
 exact⟨h1,c_cp hC h (by decide) (goF_seq h3 h5) h6 hrs hx⟩
theorem in12 {a j:Nat} {row:List Nat} (h:RW n lv nv N i a j row) (hq:q12 row) (hx:∀T:Nat,(T:Int)=(nv i).t→sgA n lv T∈folC):sgA n lv a=119∧InR n lv nv N i D (.seq .adv (.seq (loopP n lv) (redsP n lv))) a j:=by
 obtain⟨u,rs,rfl,⟨u2,v2,rfl,⟨u3,m2,rfl,⟨v,w,rfl,⟨x,m,rfl,⟨c,rfl,hc⟩,hm⟩,d,rfl,hd⟩,hm2⟩,g,rfl,hg⟩,hrs⟩:=hq
 obtain rfl:c=119:=by simpa using hc
 obtain rfl:d=100:=by simpa using hd
 obtain rfl:g=103:=by simpa using hg
 simp only [List.append_assoc,List.singleton_append]at h
 obtain⟨h1,h2⟩:=w_leaf hC h (by decide)
 obtain⟨b,e,h3,h4⟩:=c_body hC h2 hm (x_leaf hC (by decide) (by decide))
 obtain⟨h5,h6⟩:=c_want hC h4 (by decide)
 obtain⟨b2,e2,h7,h8⟩:=c_body hC h6 hm2 (x_leaf hC (by decide) (by decide))
 obtain⟨h9,h10⟩:=c_want hC h8 (by decide)
 exact⟨h1,c_cp hC h (by decide) (goF_seq h3 (goF_seq h5 (goF_seq h7 h9))) h10 hrs hx⟩
theorem c_brn {a j:Nat} {m m2 r:List Nat} (h:RW n lv nv N i a j (m++116::(m2++r))) (hm:qList m) (hm2:qList m2) (hx:∀b e,RW n lv nv N i b e r→sgA n lv b∈folL):∃b e,GoF n lv nv i D (brnP n lv) a j b e∧RW n lv nv N i b e r:=by
 obtain⟨b,e,h3,h4⟩:=c_body hC h hm (x_leaf hC (by decide) (by decide))
 obtain⟨h5,h6⟩:=c_want hC h4 (by decide)
 obtain⟨b2,e2,h7,h8⟩:=c_body hC h6 hm2 hx
 exact⟨b2,e2,goF_seq h3 (goF_seq h5 h7),h8⟩
omit hC in
theorem pc4 {y:List Nat} (h:qPc 4 y):∃m m2,y=101::(m++116::m2)∧qList m∧qList m2:=by
 obtain⟨u,m2,rfl,⟨v,w,rfl,⟨x,m,rfl,⟨c,rfl,hc⟩,hm⟩,d,rfl,hd⟩,hm2⟩:=h
 obtain rfl:c=101:=by simpa using hc
 obtain rfl:d=116:=by simpa using hd
 exact⟨m,m2,by simp,hm,hm2⟩
theorem n_elif {m z:List Nat} (hm:Star (qPc 4) m) (hz:∀b e,RW n lv nv N i b e z→sgA n lv b∈ [108,102]) {b e:Nat} (h:RW n lv nv N i b e (m++z)):sgA n lv b∈folL:=by
 cases hm with
 |nil=>exact(show ∀x∈ [108,102],x∈folL by decide) _ (hz b e h)
 |cons ha _=>
  obtain⟨m1,m2,rfl,_,_⟩:=pc4 ha
  exact n_in hC (by decide) (by decide) b e h
theorem c_elif {m z:List Nat} (hm:Star (qPc 4) m) (hz:∀b e,RW n lv nv N i b e z→sgA n lv b∈ [108,102]):∀{a j:Nat},RW n lv nv N i a j (m++z)→∃b e,GoF n lv nv i D (.rep (isS n lv [101]) (.seq .adv (brnP n lv)) yesT .skip) a j b e∧RW n lv nv N i b e z:=by
 induction hm with
 |nil=>
  intro a j h
  exact⟨a,j,goF_stop (t_isn ((show ∀x∈ [108,102],x∉ [101] by decide) _ (hz a j h))),h⟩
 |@cons y m hy hm' ih=>
  intro a j h
  obtain⟨m1,m2,rfl,hm1,hm2⟩:=pc4 hy
  simp only [List.cons_append,List.append_assoc]at h
  obtain⟨h1,h2⟩:=w_leaf hC h (by decide)
  obtain⟨b,e,h3,h4⟩:=c_brn hC (r:=m++z) h2 hm1 hm2 (fun b e g=>n_elif hC hm' hz g)
  obtain⟨b2,e2,h5,h6⟩:=ih h4
  exact⟨b2,e2,goF_more (t_isy h1 rfl) (goF_seq goF_adv h3) h5,h6⟩
theorem in11 {a j:Nat} {row:List Nat} (h:RW n lv nv N i a j row) (hq:q11 row) (hx:∀T:Nat,(T:Int)=(nv i).t→sgA n lv T∈folC):sgA n lv a=105∧InR n lv nv N i D (.seq .adv (.seq (brP n lv) (redsP n lv))) a j:=by
 obtain⟨u,rs,rfl,⟨u1,v1,rfl,⟨u2,el,rfl,⟨u3,st,rfl,⟨u4,m2,rfl,⟨u5,v5,rfl,⟨u6,m,rfl,⟨c,rfl,hc⟩,hm⟩,d,rfl,hd⟩,hm2⟩,hst⟩,hel⟩,g,rfl,hg⟩,hrs⟩:=hq
 obtain rfl:c=105:=by simpa using hc
 obtain rfl:d=116:=by simpa using hd
 obtain rfl:g=102:=by simpa using hg
 simp only [List.append_assoc,List.singleton_append]at h
 obtain⟨h1,h2⟩:=w_leaf hC h (by decide)
 have hz:∀b e,RW n lv nv N i b e (el++102::rs)→sgA n lv b∈ [108,102]:=by
  intro b e g
  rcases hel with rfl|⟨y,w,rfl,⟨s,rfl,hs⟩,_⟩
  ·exact n_in hC (l:=[108,102]) (c:=102) (r:=rs) (by decide) (by decide) b e g
  ·obtain rfl:s=108:=by simpa using hs
   exact n_in hC (c:=108) (r:=w++102::rs) (by decide) (by decide) b e (by simpa using g)
 obtain⟨b,e,h3,h4⟩:=c_brn hC (r:=st++(el++102::rs)) h2 hm hm2 (fun b e g=>n_elif hC hst hz g)
 obtain⟨b2,e2,h5,h6⟩:=c_elif hC hst hz h4
 rcases hel with rfl|⟨y,w,rfl,⟨s,rfl,hs⟩,hw⟩
 ·obtain⟨h7,h8⟩:=w_leaf hC (r:=rs) h6 (by decide)
  obtain⟨h9,h10⟩:=c_want hC (r:=rs) h6 (by decide)
  exact⟨h1,c_cp hC h (by decide) (goF_seq h3 (goF_seq h5 (goF_seq (goF_no (t_isn (by rw [h7];decide)) goF_skip) h9))) h10 hrs hx⟩
 ·obtain rfl:s=108:=by simpa using hs
  simp only [List.singleton_append]at h6
  obtain⟨h7,h8⟩:=w_leaf hC h6 (by decide)
  obtain⟨b3,e3,k1,k2⟩:=c_body hC h8 hw (x_leaf hC (by decide) (by decide))
  obtain⟨h9,h10⟩:=c_want hC k2 (by decide)
  exact⟨h1,c_cp hC h (by decide) (goF_seq h3 (goF_seq h5 (goF_seq (goF_yes (t_isy h7 rfl) (goF_seq goF_adv k1)) h9))) h10 hrs hx⟩
end
def fsF (nv:Nat→Nd) (i:Nat):Nat→Nat→Option Nat
 |0,_=>none
 |d+1,k=>if(nv k).u=(i:Int)∧(nv k).k=7∧(nv k).f<(nv k).t then some k else fsF nv i d (k+1)
def wtx (lv:Nat→Lf) (nv:Nat→Nd) (N i:Nat):ByteArray:=match fsF nv i (N - (i+1)) (i+1)with
 |some k=>(lv (nv k).f.toNat).s
 |none=>⟨#[]⟩
def wset:List Nat:=[33,123,125,105,116,101,108,102,119,100,103,114,107,99,122,120]
theorem wdS_mem (s:ByteArray):wdS s∈wset:=by
 unfold wdS
 cases h:wdL.find? (fun p=>s.data.toList==p.1)with
 |none=>decide
 |some p=>
  have hm:=List.mem_of_find?_eq_some h
  have:∀p∈wdL,p.2∈wset:=by decide
  exact this p hm
section
variable {n:Nat} {lv:Nat→Lf} {nv:Nat→Nd} {N i D:Nat}
theorem fsF_skip:∀(d k e:Nat),k≤e→e≤k+d→(∀x,k≤x→x<e→(nv x).u≠(i:Int))→fsF nv i d k=fsF nv i (k+d - e) e
 |0,k,e,h1,h2,_=>by
  obtain rfl:e=k:=by omega
  simp
 |d+1,k,e,h1,h2,h3=>by
  rcases Nat.eq_or_lt_of_le h1 with rfl|h
  ·rw [Nat.add_sub_cancel_left]
  ·rw [fsF,if_neg (fun g=>h3 k (Nat.le_refl _) h g.1),fsF_skip d (k+1) e h (by omega) (fun x hx hx2=>h3 x (by omega) hx2),show k+1+d - e=k+(d+1) - e by omega]
theorem fs_kid {a j b e:Nat} (hK:Kid nv N i a j b e) (hk:(nv j).k≠7):fsF nv i (N - j) j=fsF nv i (N - e) e:=by
 have h1:=hK.lt
 have h2:=hK.ij
 have h3:=hK.e.lt
 have h4:=hK.e.le
 obtain⟨d,hd⟩:∃d,N - j=d+1:=⟨N - j - 1,by omega⟩
 rw [hd,fsF,if_neg (fun g=>hk g.2.1),fsF_skip d (j+1) e h3 (by omega) (fun x hx hx2=>by have:=hK.e.below x hx hx2;omega),show j+1+d - e=N - e by omega]
theorem fs_w {a j b e:Nat} (hK:Kid nv N i a j b e) (hk:(nv j).k=7) (hf:(nv j).f<(nv j).t):fsF nv i (N - j) j=some j:=by
 have h1:=hK.lt
 obtain⟨d,hd⟩:∃d,N - j=d+1:=⟨N - j - 1,by omega⟩
 rw [hd,fsF,if_pos ⟨hK.u,hk,hf⟩]
theorem wrd_sg {s:PS} (h:wrdT n lv s=true):sgA n lv s.a∈wset:=by
 have h1:(lfA n lv s.a).k=6:=of_decide_eq_true h
 unfold sgA
 rw [h1]
 exact wdS_mem _
theorem t_wrdn {a:Nat} (h:sgA n lv a∉wset):tst (wrdT n lv) a D false:=fun s h1 _=>by
 cases hp:wrdT n lv s with
 |false=>rfl
 |true=>exact absurd (wrd_sg hp) (by rw [h1];exact h)
theorem wrd_at {a:Nat} (h:tst (wrdT n lv) a D true):sgA n lv a∈wset:=wrd_sg (h (sOf a D) rfl rfl)
theorem wrd_lf {a:Nat} (h:tst (wrdT n lv) a D true):lfA n lv a=lv a:=by
 have:a<n:=wrd_le (h (sOf a D) rfl rfl)
 unfold lfA
 rw [if_pos this]
theorem itm_sg {s:PS} (h:itmT n lv s=true):sgA n lv s.a∈40::wset:=by
 unfold itmT at h
 rcases Bool.or_eq_true _ _|>.mp h with h|h
 ·rw [beq_iff_eq.1 h];decide
 ·exact List.mem_cons_of_mem _ (wrd_sg (Bool.and_eq_true _ _|>.mp h).1)
theorem itm_at {a:Nat} (h:tst (itmT n lv) a D true):sgA n lv a∈40::wset:=itm_sg (h (sOf a D) rfl rfl)
theorem t_nam {a:Nat} (h:tst (wrdT n lv) a D true) (hn:isNm (lv a).s=true):tst (namT n lv) a D true:=fun s h1 h2=>by
 unfold namT
 rw [h s h1 h2,h1,wrd_lf h,hn]
 rfl
variable (hC:CxF n lv nv N i D)
include hC
theorem wtx_at {a b e:Nat} (hK:Kid nv N i a (i+1) b e) (hk:(nv (i+1)).k=7):wtx lv nv N i=(lv a).s:=by
 have h1:=hC.w1 _ hK.lt hk
 have h2:=hK.f
 unfold wtx
 rw [fs_w hK hk (by omega)]
 show(lv (nv (i+1)).f.toNat).s=_
 rw [←h2]
 rfl
theorem c_ws {r:List Nat}:∀{ws:List Nat} {a j:Nat},RW n lv nv N i a j (ws++r)→InM [87] ws→(∀a j,RW n lv nv N i a j r→sgA n lv a∉wset)→∃b e,GoF n lv nv i D (.rep (wrdT n lv) wordP yesT .skip) a j b e∧RW n lv nv N i b e r
 | [],a,j,h,_,hx=>⟨a,j,goF_stop (t_wrdn (hx a j h)),h⟩
 |c::ws,a,j,h,hn,hx=>by
  obtain rfl:c=87:=by simpa using hn c (List.mem_cons_self ..)
  obtain⟨b,e,h1,h2,h3,_⟩:=c_word hC h
  obtain⟨b2,e2,h4,h5⟩:=c_ws h3 (fun s hs=>hn s (List.mem_cons_of_mem _ hs)) hx
  exact⟨b2,e2,goF_more h1 h2 h4,h5⟩
theorem c_done {a j:Nat} {m rs:List Nat} (h:RW n lv nv N i a j (100::(m++103::rs))) (hm:qList m):∃b e,GoF n lv nv i D (doneP n lv) a j b e∧RW n lv nv N i b e rs:=by
 obtain⟨h5,h6⟩:=c_want hC h (by decide)
 obtain⟨b2,e2,h7,h8⟩:=c_body hC h6 hm (x_leaf hC (by decide) (by decide))
 obtain⟨h9,h10⟩:=c_want hC h8 (by decide)
 exact⟨_,_,goF_seq h5 (goF_seq h7 h9),h10⟩
theorem c_in {a j c:Nat} {ns ws ns2 r:List Nat} (hc:c∈ [59,110]) (h:RW n lv nv N i a j (ns++107::(ws++c::(ns2++100::r)))) (h1:InM [110] ns) (h2:InM [87] ws) (h3:InM [110] ns2):
  ∃b e,GoF n lv nv i D (.ite (isS n lv [59]) (.seq .adv (nlsP n lv)) (.seq (nlsP n lv) (valP n lv))) a j b e∧RW n lv nv N i b e (100::r):=by
 have hcu:=(show ∀x∈ [59,110],x∉upL∧x∉wset by decide) c hc
 have hfirst:sgA n lv a∉ [59]:=by
  cases ns with
  |nil=>exact n_leaf hC (by decide) (by decide) a j h
  |cons s ns=>
   obtain rfl:s=110:=by simpa using h1 s (List.mem_cons_self ..)
   exact n_leaf hC (by decide) (by decide) a j h
 obtain⟨a1,g1,g2⟩:=c_nls hC h h1 (n_leaf hC (by decide) (by decide))
 obtain⟨g3,g4⟩:=w_leaf hC g2 (by decide)
 obtain⟨b,e,g5,g6⟩:=c_ws hC g4 h2 (n_leaf hC hcu.1 hcu.2)
 obtain⟨g7,g8⟩:=w_leaf hC g6 hcu.1
 obtain⟨a2,g9,g10⟩:=c_nls hC g8 h3 (n_leaf hC (by decide) (by decide))
 exact⟨a2,e,goF_no (t_isn hfirst) (goF_seq g1 (goF_yes (t_isy g3 rfl) (goF_seq goF_adv (goF_seq g5 (goF_yes (t_is (by rw [g7];exact List.contains_iff_mem.2 hc)) (goF_seq goF_adv g9)))))),g10⟩
theorem c_vals {a j:Nat} {v r:List Nat} (h:RW n lv nv N i a j (v++100::r)) (hv:q13v v):∃b e,GoF n lv nv i D (.ite (isS n lv [59]) (.seq .adv (nlsP n lv)) (.seq (nlsP n lv) (valP n lv))) a j b e∧RW n lv nv N i b e (100::r):=by
 rcases hv with(⟨u,ns2,rfl,⟨w,y,rfl,⟨z,ws,rfl,⟨ns,k,rfl,h1,s,rfl,hs⟩,h2⟩,c,rfl,hc⟩,h3⟩|⟨u,ns2,rfl,⟨w,y,rfl,⟨z,ws,rfl,⟨ns,k,rfl,h1,s,rfl,hs⟩,h2⟩,c,rfl,hc⟩,h3⟩)|⟨u,ns,rfl,⟨c,rfl,hc⟩,h1⟩|h1
 ·obtain rfl:s=107:=by simpa using hs
  simp only [List.append_assoc,List.singleton_append]at h
  exact c_in hC ((show ∀x∈ [59],x∈ [59,110] by decide) c hc) h h1 h2 h3
 ·obtain rfl:s=107:=by simpa using hs
  simp only [List.append_assoc,List.singleton_append]at h
  exact c_in hC ((show ∀x∈ [110],x∈ [59,110] by decide) c hc) h h1 h2 h3
 ·obtain rfl:c=59:=by simpa using hc
  rw [List.append_assoc]at h
  obtain⟨g1,g2⟩:=w_leaf hC (r:=ns++100::r) h (by decide)
  obtain⟨a2,g9,g10⟩:=c_nls hC g2 h1 (n_leaf hC (by decide) (by decide))
  exact⟨a2,j,goF_yes (t_isy g1 rfl) (goF_seq goF_adv g9),g10⟩
 ·have hfirst:sgA n lv a∉ [59]:=by
   cases v with
   |nil=>exact n_leaf hC (c:=100) (r:=r) (by decide) (by decide) a j h
   |cons s ns=>
    obtain rfl:s=110:=by simpa using h1 s (List.mem_cons_self ..)
    exact n_leaf hC (c:=110) (r:=ns++100::r) (by decide) (by decide) a j h
  obtain⟨a2,g9,g10⟩:=c_nls hC h h1 (n_leaf hC (by decide) (by decide))
  exact⟨a2,j,goF_no (t_isn hfirst) (goF_seq g9 (goF_no (t_isn (n_leaf hC (by decide) (by decide) _ _ g10)) goF_skip)),g10⟩
theorem in13 {a:Nat} {row:List Nat} (h:RW n lv nv N i a (i+1) row) (hq:q13 row) (hx:∀T:Nat,(T:Int)=(nv i).t→sgA n lv T∈folC) (hw:isNm (wtx lv nv N i)=true):sgA n lv a=114∧InR n lv nv N i D (.seq .adv (.seq (eachP n lv) (redsP n lv))) a (i+1):=by
 obtain⟨u1,rs,rfl,⟨u2,g,rfl,⟨u3,m,rfl,⟨u4,d,rfl,⟨u5,v,rfl,⟨x,y,rfl,⟨c,rfl,hc⟩,w,rfl,hww⟩,hv⟩,d',rfl,hd⟩,hm⟩,g',rfl,hg⟩,hrs⟩:=hq
 obtain rfl:c=114:=by simpa using hc
 obtain rfl:w=87:=by simpa using hww
 obtain rfl:d'=100:=by simpa using hd
 obtain rfl:g'=103:=by simpa using hg
 simp only [List.append_assoc,List.singleton_append]at h
 obtain⟨h1,h2⟩:=w_leaf hC h (by decide)
 obtain⟨b,e,h3,h4,h5,h6,h7⟩:=c_word hC h2
 rw [wtx_at hC h6 h7]at hw
 obtain⟨b2,e2,h8,h9⟩:=c_vals hC h5 hv
 obtain⟨b3,e3,h10,h11⟩:=c_done hC h9 hm
 exact⟨h1,c_cp hC h (by decide) (goF_seq (goF_yes (t_nam h3 hw) h4) (goF_seq h8 h10)) h11 hrs hx⟩
theorem c_item {a j:Nat} {r:List Nat} (h:RW n lv nv N i a j (84::r)) (hx:∀b e,RW n lv nv N i b e r→sgA n lv b∈ [121,122]):∃b e,tst (itmT n lv) a D true∧GoF n lv nv i D (.node 15 false (itemP n lv)) a j b e∧RW n lv nv N i b e r:=by
 obtain⟨b,e,h1,h2,h3⟩:=w_kid hC 15 (by decide) (by decide) rfl h
 refine⟨b,e,(hC.fs _ _ _ _ h1).t h2,(hC.gk _ _ _ _ h1 ?_).t h2,h3⟩
 rw [h2]
 exact⟨fun h=>absurd h (by decide),fun h=>absurd h (by decide),fun h=>absurd h (by decide),fun h=>absurd h (by unfold CK;decide),fun _=>hx b e h3⟩
omit hC in
theorem pc5 {y:List Nat} (h:qPc 5 y):∃ns,y=84::121::ns∧InM [110] ns:=by
 obtain⟨u,ns,rfl,⟨w,z,rfl,⟨s,rfl,hs⟩,c,rfl,hc⟩,hn⟩:=h
 obtain rfl:s=84:=by simpa using hs
 obtain rfl:c=121:=by simpa using hc
 exact⟨ns,rfl,hn⟩
theorem n_it {m z rs:List Nat} (hm:Star (qPc 5) m) (hz:opt1 84 z) {b e:Nat} (h:RW n lv nv N i b e (m++(z++122::rs))):sgA n lv b∉ [110]:=by
 have hT:∀{r b e},RW n lv nv N i b e (84::r)→sgA n lv b∉ [110]:=by
  intro r b e h
  obtain⟨b',e',h1,h2,h3⟩:=w_kid hC 15 (by decide) (by decide) rfl h
  exact(show ∀x∈40::wset,x∉ [110] by decide) _ (itm_at ((hC.fs _ _ _ _ h1).t h2))
 cases hm with
 |nil=>
  rcases hz with rfl|⟨s,rfl,hs⟩
  ·exact n_leaf hC (c:=122) (r:=rs) (by decide) (by decide) b e h
  ·obtain rfl:s=84:=by simpa using hs
   exact hT (r:=122::rs) h
 |@cons y m ha hm'=>
  obtain⟨ns,rfl,hn⟩:=pc5 ha
  exact hT (r:=121::(ns++m++(z++122::rs))) (by simpa using h)
theorem c_items {m z rs:List Nat} (hm:Star (qPc 5) m) (hz:opt1 84 z):∀{a j:Nat},RW n lv nv N i a j (m++(z++122::rs))→∃b e,GoF n lv nv i D (itmsP n lv) a j b e∧RW n lv nv N i b e (122::rs):=by
 induction hm with
 |nil=>
  intro a j h
  rcases hz with rfl|⟨s,rfl,hs⟩
  ·obtain⟨h1,h2⟩:=w_leaf hC (r:=rs) h (by decide)
   refine⟨a,j,goF_stop (fun s hs hd=>?_),h⟩
   unfold itmT
   rw [hs,h1]
   simp
  ·obtain rfl:s=84:=by simpa using hs
   obtain⟨b,e,h1,h2,h3⟩:=c_item hC (r:=122::rs) h (fun b e g=>n_in hC (by decide) (by decide) b e g)
   obtain⟨h4,h5⟩:=w_leaf hC h3 (by decide)
   exact⟨b,e,goF_out h1 h2 (t_isn (by rw [h4];decide)),h3⟩
 |@cons y m ha hm' ih=>
  intro a j h
  obtain⟨ns,rfl,hn⟩:=pc5 ha
  obtain⟨b,e,h1,h2,h3⟩:=c_item hC (r:=121::(ns++(m++(z++122::rs)))) (by simpa using h) (fun b e g=>n_in hC (by decide) (by decide) b e g)
  obtain⟨h4,h5⟩:=w_leaf hC h3 (by decide)
  obtain⟨a2,h6,h7⟩:=c_nls hC h5 hn (fun a j g=>n_it hC hm' hz g)
  obtain⟨b2,e2,h8,h9⟩:=ih h7
  exact⟨b2,e2,goF_go h1 h2 (t_isy h4 rfl) (goF_seq goF_adv h6) h8,h9⟩
theorem in14 {a j:Nat} {row:List Nat} (h:RW n lv nv N i a j row) (hq:q14 row) (hx:∀T:Nat,(T:Int)=(nv i).t→sgA n lv T∈folC):sgA n lv a=99∧InR n lv nv N i D (.seq .adv (.seq (casP n lv) (redsP n lv))) a j:=by
 obtain⟨u1,rs,rfl,⟨u2,z',rfl,⟨u3,z,rfl,⟨u4,m,rfl,⟨u5,ns2,rfl,⟨u6,k,rfl,⟨u7,ns,rfl,⟨x,y,rfl,⟨c,rfl,hc⟩,w,rfl,hww⟩,hns⟩,k',rfl,hk⟩,hns2⟩,hm⟩,hz⟩,d,rfl,hd⟩,hrs⟩:=hq
 obtain rfl:c=99:=by simpa using hc
 obtain rfl:w=87:=by simpa using hww
 obtain rfl:k'=107:=by simpa using hk
 obtain rfl:d=122:=by simpa using hd
 simp only [List.append_assoc,List.cons_append,List.nil_append]at h
 obtain⟨h1,h2⟩:=w_leaf hC h (by decide)
 obtain⟨b,e,h3,h4⟩:=c_won hC h2
 obtain⟨a2,h5,h6⟩:=c_nls hC h4 hns (n_leaf hC (by decide) (by decide))
 obtain⟨h7,h8⟩:=c_want hC h6 (by decide)
 obtain⟨a3,h9,h10⟩:=c_nls hC h8 hns2 (fun a j g=>n_it hC hm hz g)
 obtain⟨b2,e2,h11,h12⟩:=c_items hC hm hz h10
 obtain⟨h13,h14⟩:=c_want hC h12 (by decide)
 exact⟨h1,c_cp hC h (by decide) (goF_seq h3 (goF_seq h5 (goF_seq h7 (goF_seq h9 (goF_seq h11 h13))))) h14 hrs hx⟩
omit hC in
theorem pc6 {y:List Nat} (h:qPc 6 y):y=[124,87]:=by
 obtain⟨u,v,rfl,⟨s,rfl,hs⟩,c,rfl,hc⟩:=h
 obtain rfl:s=124:=by simpa using hs
 obtain rfl:c=87:=by simpa using hc
 rfl
theorem c_pats {m r:List Nat} (hm:Star (qPc 6) m):∀{a j:Nat},RW n lv nv N i a j (m++41::r)→∃b e,GoF n lv nv i D (.rep (isS n lv [124]) (.seq .adv (wonP n lv)) yesT .skip) a j b e∧RW n lv nv N i b e (41::r):=by
 induction hm with
 |nil=>
  intro a j h
  exact⟨a,j,goF_stop (t_isn (n_leaf hC (c:=41) (r:=r) (by decide) (by decide) a j h)),h⟩
 |@cons y m ha hm' ih=>
  intro a j h
  obtain rfl:=pc6 ha
  obtain⟨h1,h2⟩:=w_leaf hC (r:=87::(m++41::r)) h (by decide)
  obtain⟨b,e,h3,h4⟩:=c_won hC h2
  obtain⟨b2,e2,h5,h6⟩:=ih h4
  exact⟨b2,e2,goF_more (t_isy h1 rfl) (goF_seq goF_adv h3) h5,h6⟩
theorem in15 {a j:Nat} {row:List Nat} (h:RW n lv nv N i a j row) (hq:q15 row) (hx:∀T:Nat,(T:Int)=(nv i).t→sgA n lv T∈ [121,122]):InR n lv nv N i D (itemP n lv) a j:=by
 obtain⟨u1,l,rfl,⟨u2,ns,rfl,⟨u3,y,rfl,⟨u4,m,rfl,⟨o,x,rfl,ho,w,rfl,hw⟩,hm⟩,c,rfl,hc⟩,hns⟩,hl⟩:=hq
 obtain rfl:w=87:=by simpa using hw
 obtain rfl:c=41:=by simpa using hc
 simp only [List.append_assoc,List.singleton_append]at h
 suffices hrest:∀{a j:Nat},RW n lv nv N i a j (87::(m++41::(ns++l)))→InR n lv nv N i D (.seq (wonP n lv) (.seq (.rep (isS n lv [124]) (.seq .adv (wonP n lv)) yesT .skip) (.seq (wantP n lv 41) (.seq (nlsP n lv) (.ite (pipT n lv) .lst .skip))))) a j by
  rcases ho with rfl|⟨s,rfl,hs⟩
  ·obtain⟨b,e,h1,_⟩:=c_word hC (r:=m++41::(ns++l)) h
   exact inR_seq (goF_no (t_isn ((show ∀x∈wset,x∉ [40] by decide) _ (wrd_at h1))) goF_skip) (hrest h)
  ·obtain rfl:s=40:=by simpa using hs
   obtain⟨h1,h2⟩:=w_leaf hC (r:=87::(m++41::(ns++l))) h (by decide)
   exact inR_seq (goF_yes (t_isy h1 rfl) goF_adv) (hrest h2)
 intro a j h
 obtain⟨b,e,h1,h2⟩:=c_won hC h
 obtain⟨b2,e2,h3,h4⟩:=c_pats hC hm h2
 obtain⟨h5,h6⟩:=c_want hC h4 (by decide)
 have hn:∀a j,RW n lv nv N i a j l→sgA n lv a∉ [110]:=by
  intro a j g
  rcases hl with rfl|⟨s,rfl,hs⟩
  ·exact(show ∀x∈ [121,122],x∉ [110] by decide) _ (hx a (rw_nil g).1)
  ·obtain rfl:s=76:=by simpa using hs
   exact not110 (n_kid hC (K:=2) (.inl rfl) rfl a j g)
 obtain⟨a2,h7,h8⟩:=c_nls hC h6 hns hn
 refine inR_seq h1 (inR_seq h3 (inR_seq h5 (inR_seq h7 ?_)))
 rcases hl with rfl|⟨s,rfl,hs⟩
 ·exact c_fin (goF_no (t_pipn ((show ∀x∈ [121,122],x∉ [33,120,60,35,123,40,105,119,114,99] by decide) _ (hx a2 (rw_nil h8).1))) goF_skip) h8
 ·obtain rfl:s=76:=by simpa using hs
  obtain⟨b',e',k1,k2,_⟩:=w_kid hC 2 (by decide) (by decide) rfl h8
  obtain⟨b3,e3,k3,k4⟩:=c_lst hC h8 (fun b e g=>(show ∀x∈ [121,122],x∈folL by decide) _ (hx b (rw_nil g).1))
  exact c_fin (goF_yes ((hC.fs _ _ _ _ k1).p (.inl k2)) k3) k4
theorem in16 {a:Nat} {row:List Nat} (h:RW n lv nv N i a (i+1) row) (hq:q16 row) (hx:∀T:Nat,(T:Int)=(nv i).t→sgA n lv T∈folC) (hw:isNm (wtx lv nv N i)=true) (hr:resB (wtx lv nv N i)=false):
  sgA n lv (a+1)=40∧tst (wrdT n lv) a D true∧isNm (lv a).s=true∧resB (lv a).s=false∧InR n lv nv N i D (fnbP n lv) a (i+1):=by
 obtain⟨u1,l,rfl,⟨u2,ns,rfl,⟨u3,y,rfl,⟨o,x,rfl,⟨w,rfl,hww⟩,c,rfl,hc⟩,d,rfl,hd⟩,hns⟩,k,rfl,hk⟩:=hq
 obtain rfl:w=87:=by simpa using hww
 obtain rfl:c=40:=by simpa using hc
 obtain rfl:d=41:=by simpa using hd
 simp only [List.append_assoc,List.singleton_append]at h
 obtain⟨b,e,h1,h2,h3,h4,h5⟩:=c_word hC h
 rw [wtx_at hC h4 h5]at hw hr
 have hb:b=a+1:=by
  have g1:=hC.w1 _ h4.lt h5
  have g2:=h4.f
  have g3:=h4.t
  omega
 subst hb
 obtain⟨h6,h7⟩:=w_leaf hC h3 (by decide)
 obtain⟨h8,h9⟩:=c_want hC h7 (by decide)
 have hfc:=fun b e (g:RW n lv nv N i b e [])=>hx b (rw_nil g).1
 obtain⟨a2,h10,h11⟩:=c_nls hC h9 hns (fun a j g=>by
  obtain⟨b,e,k1,_,_⟩:=c_cmp hC g hk hfc
  exact(show ∀x∈ [123,40,105,119,114,99],x∉ [110] by decide) _ (cmp_sg (k1 (sOf a D) rfl rfl)))
 obtain⟨b3,e3,k1,k2,k3⟩:=c_cmp hC h11 hk hfc
 exact⟨h6,h1,hw,hr,inR_seq h2 (inR_seq goF_adv (inR_seq h8 (inR_seq h10 (c_fin (goF_yes k1 k2) k3))))⟩
omit hC in
theorem t_sm1n {a:Nat} (h1:tst (rdrT n lv) a D false) (h2:tst (asgT n lv) a D false):tst (sm1T n lv) a D false:=fun s g1 g2=>by
 unfold sm1T
 rw [h1 s g1 g2,h2 s g1 g2]
 rfl
omit hC in
theorem t_asgn {a:Nat} (h1:tst (wrdT n lv) a D false):tst (asgT n lv) a D false:=fun s g1 g2=>by
 unfold asgT
 rw [h1 s g1 g2]
 rfl
omit hC in
theorem t_wr {a:Nat} (h1:tst (wrdT n lv) a D true):tst (rdrT n lv) a D false:=by
 have h2:=wrd_at h1
 exact t_rdn (fun e=>by rw [e]at h2;exact absurd h2 (by decide)) (fun e=>by rw [e]at h2;exact absurd h2 (by decide))
theorem c_sm1 {r:List Nat} (F0:Option Nat):∀{xs:List Nat} {a j:Nat},RW n lv nv N i a j (xs++r)→InM [88,82] xs→fsF nv i (N - j) j=F0→(∀a j,RW n lv nv N i a j r→fsF nv i (N - j) j=F0→tst (sm1T n lv) a D false)→
  ∃b e,GoF n lv nv i D (sm1P n lv) a j b e∧RW n lv nv N i b e r∧fsF nv i (N - e) e=F0
 | [],a,j,h,_,hF,hx=>⟨a,j,goF_stop (hx a j h hF),h,hF⟩
 |c::xs,a,j,h,hn,hF,hx=>by
  have hc:=hn c (List.mem_cons_self ..)
  have hn':InM [88,82] xs:=fun s hs=>hn s (List.mem_cons_of_mem _ hs)
  rcases(show c=88∨c=82 by simpa using hc)with rfl|rfl
  ·obtain⟨b,e,h1,h2,h3⟩:=w_kid hC 6 (by decide) (by decide) rfl h
   have hw:=(hC.fs _ _ _ _ h1).w (.inl h2)
   have ha:=(hC.fs _ _ _ _ h1).x h2
   have hg:=(hC.gk _ _ _ _ h1 (by rw [h2];exact⟨fun h=>absurd h (by decide),fun h=>absurd h (by decide),fun h=>absurd h (by decide),fun h=>absurd h (by unfold CK;decide),fun h=>absurd h (by decide)⟩)).x h2
   obtain⟨b2,e2,h4,h5,h6⟩:=c_sm1 F0 h3 hn' (by rw [←fs_kid h1 (by omega)];exact hF) hx
   refine⟨b2,e2,goF_more (fun s g1 g2=>?_) (goF_no (t_wr hw) hg) h4,h5,h6⟩
   unfold sm1T
   rw [ha s g1 g2,Bool.or_true]
  ·obtain⟨b,e,h1,h2,h3,h4,h5⟩:=c_red hC h
   obtain⟨b2,e2,h6,h7,h8⟩:=c_sm1 F0 h3 hn' (by rw [←fs_kid h4 (by omega)];exact hF) hx
   refine⟨b2,e2,goF_more (fun s g1 g2=>?_) (goF_yes h1 h2) h6,h7,h8⟩
   unfold sm1T
   rw [h1 s g1 g2]
   rfl
theorem c_sm2 (hx:∀T:Nat,(T:Int)=(nv i).t→tst (rdrT n lv) T D false∧tst (wrdT n lv) T D false):∀{xs:List Nat} {a j:Nat},RW n lv nv N i a j xs→InM [87,82] xs→InR n lv nv N i D (sm2P n lv) a j
 | [],a,j,h,_=>c_fin (goF_stop (fun s g1 g2=>by unfold sm2T;rw [(hx a (rw_nil h).1).1 s g1 g2,(hx a (rw_nil h).1).2 s g1 g2];rfl)) h
 |c::xs,a,j,h,hn=>by
  have hc:=hn c (List.mem_cons_self ..)
  have hn':InM [87,82] xs:=fun s hs=>hn s (List.mem_cons_of_mem _ hs)
  rcases(show c=87∨c=82 by simpa using hc)with rfl|rfl
  ·obtain⟨b,e,h1,h2,h3,_⟩:=c_word hC h
   obtain⟨T,e',h4,h5,h6⟩:=c_sm2 hx h3 hn'
   refine⟨T,e',h4,h5,goF_more (fun s g1 g2=>?_) (goF_no (t_wr h1) h2) h6⟩
   unfold sm2T
   rw [h1 s g1 g2,Bool.or_true]
  ·obtain⟨b,e,h1,h2,h3,_⟩:=c_red hC h
   obtain⟨T,e',h4,h5,h6⟩:=c_sm2 hx h3 hn'
   refine⟨T,e',h4,h5,goF_more (fun s g1 g2=>?_) (goF_yes h1 h2) h6⟩
   unfold sm2T
   rw [h1 s g1 g2]
   rfl
theorem in5 {a:Nat} {row:List Nat} (h:RW n lv nv N i a (i+1) row) (hq:q5 row) (hx:∀T:Nat,(T:Int)=(nv i).t→tst (rdrT n lv) T D false∧tst (wrdT n lv) T D false) (hw:assignN (wtx lv nv N i)=0):InR n lv nv N i D (simbP n lv) a (i+1):=by
 rcases hq with hq|⟨u,ys,rfl,⟨xs,v,rfl,hxs,c,rfl,hc⟩,hys⟩
 ·rw [←List.append_nil row]at h
  obtain⟨b,e,h1,h2,h3⟩:=c_sm1 hC _ h hq rfl (fun a j g _=>t_sm1n (hx a (rw_nil g).1).1 (t_asgn (hx a (rw_nil g).1).2))
  exact inR_seq h1 (c_sm2 hC hx h2 (fun s hs=>by simp at hs))
 ·obtain rfl:c=87:=by simpa using hc
  rw [List.append_assoc,List.singleton_append]at h
  obtain⟨b,e,h1,h2,h3⟩:=c_sm1 hC (r:=87::ys) _ h hxs rfl (fun a j g hF=>by
   obtain⟨b,e,k1,k2,k3,k4,k5⟩:=c_word hC g
   have g1:=hC.w1 _ k4.lt k5
   rw [fs_w k4 k5 (by omega)]at hF
   have hw':assignN (lv a).s=0:=by
    unfold wtx at hw
    rw [←hF]at hw
    have g2:=k4.f
    have:assignN (lv (nv j).f.toNat).s=0:=hw
    rwa [←g2]at this
   refine t_sm1n (t_wr k1) (fun s m1 m2=>?_)
   unfold asgT
   rw [m1,wrd_lf k1,hw']
   simp)
  exact inR_seq h1 (c_sm2 hC hx h2 (fun s hs=>by
   rcases List.mem_cons.1 hs with rfl|hs
   ·decide
   ·exact hys s hs))
omit hC in
theorem t_lt {a:Nat}:tst (ltT n) a D (decide (a<n)):=fun s h1 _=>by unfold ltT;rw [h1]
theorem in1 (hT:(nv i).t=(n:Int)):∀{ns l:List Nat} {a j:Nat},RW n lv nv N i a j (ns++l)→InM [110] ns→(l=[]∨l=[76])→InR n lv nv N i D (prgP n lv) a j
 | [],l,a,j,h,_,hl=>by
  have hst:∀{a j:Nat},RW n lv nv N i a j []→tst (ltT n) a D false:=by
   intro a j g
   have h1:=(rw_nil g).1
   have h2:=t_lt (n:=n) (a:=a) (D:=D)
   rw [show decide (a<n)=false from decide_eq_false (by omega)]at h2
   exact h2
  rcases hl with rfl|rfl
  ·exact c_fin (goF_stop (hst h)) h
  ·obtain⟨b',e',k1,k2,k5⟩:=w_kid hC (r:=[]) 2 (by decide) (by decide) rfl h
   have hp:=(hC.fs _ _ _ _ k1).p (.inl k2)
   have hend:∀b e,RW n lv nv N i b e []→sgA n lv b=63:=by
    intro b e g
    have h1:=(rw_nil g).1
    unfold sgA lfA
    rw [if_neg (by omega)]
    rfl
   obtain⟨b3,e3,k3,k4⟩:=c_lst hC (r:=[]) h (fun b e g=>by rw [hend b e g];decide)
   have hlt:a<n:=pip_le (hp (sOf a D) rfl rfl)
   have htl:=t_lt (n:=n) (a:=a) (D:=D)
   rw [show decide (a<n)=true from decide_eq_true hlt]at htl
   have haft:GoF n lv nv i D (aftP n lv) b3 e3 b3 e3:=goF_seq (goF_stop (t_isn (by rw [hend _ _ k4];decide))) (goF_no (hst k4) goF_skip)
   exact c_fin (goF_more htl (goF_no (t_isn (not110 (n_kid hC (K:=2) (.inl rfl) rfl a j h))) (goF_yes hp (goF_seq k3 haft))) (goF_stop (hst k4))) k4
 |c::ns,l,a,j,h,hn,hl=>by
  obtain rfl:c=110:=by simpa using hn c (List.mem_cons_self ..)
  obtain⟨h1,h2⟩:=w_leaf hC h (by decide)
  obtain⟨T,e,h3,h4,h5⟩:=in1 hT h2 (fun s hs=>hn s (List.mem_cons_of_mem _ hs)) hl
  have hlt:a<n:=sg_le (lv:=lv) (by rw [h1];decide)
  have htl:=t_lt (n:=n) (a:=a) (D:=D)
  rw [show decide (a<n)=true from decide_eq_true hlt]at htl
  exact⟨T,e,h3,h4,goF_more htl (goF_yes (t_isy h1 rfl) goF_adv) h5⟩
end
def nsF (k:Int):Bool:=decide (9≤k∧k≤14∨k=16)
def abB (nv:Nat→Nd) (a:Nat):Nat→Nat→Bool
 |0,b=>a==b
 |d+1,b=>a==b||(decide (0≤(nv b).u)&& decide ((nv b).u.toNat<b)&& abB nv a d (nv b).u.toNat)
theorem abB_iff {nv:Nat→Nd} {a:Nat}:∀d b,b≤d→(abB nv a d b=true↔Abv nv a b)
 |0,b,h=>by
  obtain rfl:b=0:=by omega
  constructor
  ·intro g
   have:a=0:=by simpa [abB]using g
   rw [this]
   exact .self
  ·intro g
   have:=g.le
   obtain rfl:a=0:=by omega
   rfl
 |d+1,b,h=>by
  unfold abB
  constructor
  ·intro g
   rcases Bool.or_eq_true _ _|>.mp g with g|g
   ·rw [beq_iff_eq.1 g];exact .self
   ·simp only [Bool.and_eq_true,decide_eq_true_eq]at g
    obtain⟨⟨g1,g2⟩,g3⟩:=g
    exact .up (c:=(nv b).u.toNat) (by omega) g2 ((abB_iff d _ (by omega)).1 g3)
  ·intro g
   rcases g.inv with rfl|⟨c,e,l,g'⟩
   ·simp
   ·have h3:=(abB_iff d c (by omega)).2 g'
    have hc:(nv b).u.toNat=c:=by omega
    rw [hc,h3]
    simp only [Bool.or_eq_true,Bool.and_eq_true,decide_eq_true_eq]
    exact .inr ⟨⟨by omega,l⟩,trivial⟩
def dcF (nv:Nat→Nd) (i:Nat):Nat→Nat
 |0=>0
 |k+1=>dcF nv i k+(nsF (nv k).k && abB nv k i i).toNat
def depF (nv:Nat→Nd) (i:Nat):Nat:=dcF nv i i
theorem dep_kid {nv:Nat→Nd} {i j:Nat} (hu:(nv j).u=(i:Int)) (hij:i<j):depF nv j=depF nv i+(nsF (nv i).k).toNat:=by
 have h1:∀m,m≤i→dcF nv j m=dcF nv i m:=by
  intro m
  induction m with
  |zero=>intro _;rfl
  |succ m ih=>
   intro hm
   have e:abB nv m j j=abB nv m i i:=by
    rw [Bool.eq_iff_iff,abB_iff j j (Nat.le_refl _),abB_iff i i (Nat.le_refl _)]
    constructor
    ·intro g
     rcases g.inv with rfl|⟨c,e,l,g'⟩
     ·omega
     ·obtain rfl:c=i:=by omega
      exact g'
    ·intro g
     exact .up hu hij g
   rw [dcF,dcF,ih (by omega),e]
 have h2:∀m,i+1+m≤j→dcF nv j (i+1+m)=dcF nv i i+(nsF (nv i).k).toNat:=by
  intro m
  induction m with
  |zero=>
   intro _
   rw [Nat.add_zero,dcF,h1 i (Nat.le_refl _),(abB_iff j j (Nat.le_refl _)).2 (.up hu hij .self),Bool.and_true]
  |succ m ih=>
   intro hm
   have e:abB nv (i+1+m) j j=false:=by
    rw [←Bool.not_eq_true,abB_iff j j (Nat.le_refl _)]
    intro g
    rcases g.inv with g|⟨c,e,l,g'⟩
    ·omega
    ·obtain rfl:c=i:=by omega
     have:=g'.le
     omega
   rw [←Nat.add_assoc,dcF,ih (by omega),e,Bool.and_false]
   rfl
 have h3:=h2 (j - (i+1)) (by omega)
 rw [show i+1+(j - (i+1))=j by omega]at h3
 exact h3
structure DvF (n:Nat) (lv:Nat→Lf) (N:Nat) (nv:Nat→Nd):Prop where
 rt:Rt nv N (n:Int)
 k0:(nv 0).k=1
 ne:∀i,i<N→(nv i).k≠1→(nv i).f≠(nv i).t
 w1:∀i,i<N→((nv i).k=6∨(nv i).k=7)→(nv i).t=(nv i).f+1∧(i+1<N→(nv (i+1)).u≠(i:Int))∧(lv (nv i).f.toNat).k=6∧((nv i).k=6→0<assignN (lv (nv i).f.toNat).s)
 fm:∀i,i<N→(nv i).k≠6→(nv i).k≠7→qForm (nv i).k (rowF (sgA n lv) nv N i)
 dp:∀i,i<N→nsF (nv i).k=true→depF nv i<200
 s5:∀i,i<N→(nv i).k=5→((lv (nv i).f.toNat).k=6→resB (lv (nv i).f.toNat).s=false)∧assignN (wtx lv nv N i)=0∧((nv i).t=(n:Int)∨((lv (nv i).t.toNat).k≠6∧(lv (nv i).t.toNat).k≠5∧sgA n lv (nv i).t.toNat≠60))
 n16:∀i,i<N→(nv i).k=16→isNm (wtx lv nv N i)=true∧resB (wtx lv nv N i)=false
 n13:∀i,i<N→(nv i).k=13→isNm (wtx lv nv N i)=true
 t15:∀i,i<N→(nv i).k=15→sgA n lv (nv i).f.toNat=40∨(wtx lv nv N i).data.toList≠ [101,115,97,99]
theorem wdS_res {s:ByteArray} (h:resB s=false):wdS s=120:=by
 unfold wdS
 cases g:wdL.find? (fun p=>s.data.toList==p.1)with
 |none=>rfl
 |some p=>
  exfalso
  have h1:=List.mem_of_find?_eq_some g
  have h2:s.data.toList=p.1:=by simpa using List.find?_some g
  unfold resB at h
  rw [h2]at h
  have:∀p∈wdL,words.contains p.1=true:=by decide
  rw [this p h1]at h
  cases h
theorem wdS_122 {s:ByteArray} (h:s.data.toList≠ [101,115,97,99]):wdS s≠122:=by
 unfold wdS
 cases g:wdL.find? (fun p=>s.data.toList==p.1)with
 |none=>decide
 |some p=>
  have h1:=List.mem_of_find?_eq_some g
  have h2:s.data.toList=p.1:=by simpa using List.find?_some g
  have:∀p∈wdL,p.2=122→p.1=[101,115,97,99]:=by decide
  intro e
  exact h (h2.trans (this p h1 e))
theorem asg_name {s:ByteArray} (h:0<assignN s):isNm s=false:=by
 unfold assignN at h
 split at h
 ·rename_i g
  obtain⟨g0,g1,g2⟩:=g
  unfold isNm
  refine decide_eq_false (fun hh=>?_)
  have h61:=hh.2 _ g1
  unfold cl at h61
  rw [g2]at h61
  have:∀i,mayN (cls 61) i=false:=by
   intro i
   have hc:cls 61≠5∧cls 61≠6:=by decide
   unfold mayN
   simp [hc.1,hc.2]
  rw [this]at h61
  cases h61
 ·exact absurd h (by decide)
theorem hdC {P Q:List Nat→Prop} {c:Nat} (hP:∀x,P x→∃r,x=c::r) {l:List Nat} (h:Cat P Q l):∃r,l=c::r:=by
 obtain⟨x,m,rfl,hx,_⟩:=h
 obtain⟨r,rfl⟩:=hP x hx
 exact⟨_,rfl⟩
theorem hd1 {c:Nat} {x:List Nat} (h:In1 [c] x):∃r,x=c::r:=by
 obtain⟨s,rfl,hs⟩:=h
 obtain rfl:s=c:=by simpa using hs
 exact⟨_,rfl⟩
theorem q9_hd {l:List Nat} (h:q9 l):∃r,l=123::r:=hdC (fun _=>hdC fun _=>hdC fun _=>hd1) h
theorem q10_hd {l:List Nat} (h:q10 l):∃r,l=40::r:=hdC (fun _=>hdC fun _=>hdC fun _=>hd1) h
theorem q11_hd {l:List Nat} (h:q11 l):∃r,l=105::r:=hdC (fun _=>hdC fun _=>hdC fun _=>hdC fun _=>hdC fun _=>hdC fun _=>hdC fun _=>hd1) h
theorem q12_hd {l:List Nat} (h:q12 l):∃r,l=119::r:=hdC (fun _=>hdC fun _=>hdC fun _=>hdC fun _=>hdC fun _=>hd1) h
theorem q13_hd {l:List Nat} (h:q13 l):∃r,l=114::r:=hdC (fun _=>hdC fun _=>hdC fun _=>hdC fun _=>hdC fun _=>hdC fun _=>hd1) h
theorem q14_hd {l:List Nat} (h:q14 l):∃r,l=99::r:=hdC (fun _=>hdC fun _=>hdC fun _=>hdC fun _=>hdC fun _=>hdC fun _=>hdC fun _=>hdC fun _=>hd1) h
theorem q16_hd {l:List Nat} (h:q16 l):∃r,l=87::r:=hdC (fun _=>hdC fun _=>hdC fun _=>hdC fun _=>hd1) h
theorem q2_hd {l:List Nat} (h:q2 l):∃r,l=65::r:=hdC (fun _=>hdC fun _=>hd1) h
theorem q3_hd {l:List Nat} (h:q3 l):∃r,l=73::r:=hdC (fun _=>hd1) h
theorem q4_hd {l:List Nat} (h:q4 l):∃c r,l=c::r∧(c=33∨c∈cLs):=by
 obtain⟨u,m,rfl,⟨v,w,rfl,hv,c,rfl,hc⟩,hm⟩:=h
 rcases hv with rfl|⟨s,rfl,hs⟩
 ·exact⟨c,_,rfl,.inr hc⟩
 ·exact⟨s,_,rfl,.inl (by simpa using hs)⟩
theorem q5_hd {l:List Nat} (h:q5 l) (hl:l≠ []):∃c r,l=c::r∧(c=88∨c=82∨(c=87∧InM [87,82] r)):=by
 rcases h with h|⟨u,ys,rfl,⟨xs,v,rfl,hxs,c,rfl,hc⟩,hys⟩
 ·cases l with
  |nil=>exact absurd rfl hl
  |cons c r=>
   have:=h c (List.mem_cons_self ..)
   refine⟨c,r,rfl,?_⟩
   rcases(show c=88∨c=82 by simpa using this)with h|h
   ·exact .inl h
   ·exact .inr (.inl h)
 ·cases xs with
  |nil=>exact⟨c,ys,rfl,.inr (.inr ⟨by simpa using hc,hys⟩)⟩
  |cons d xs=>
   have:=hxs d (List.mem_cons_self ..)
   refine⟨d,_,rfl,?_⟩
   rcases(show d=88∨d=82 by simpa using this)with h|h
   ·exact .inl h
   ·exact .inr (.inl h)
theorem q8_hd {l:List Nat} (h:q8 l):(∃r,l=60::r)∨(∃r,l=35::60::r):=by
 obtain⟨u,m,rfl,⟨v,w,rfl,hv,c,rfl,hc⟩,hm⟩:=h
 obtain rfl:c=60:=by simpa using hc
 rcases hv with rfl|⟨s,rfl,hs⟩
 ·exact .inl ⟨_,rfl⟩
 ·obtain rfl:s=35:=by simpa using hs
  exact .inr ⟨_,rfl⟩
theorem q15_hd {l:List Nat} (h:q15 l):(∃r,l=40::r)∨(∃r,l=87::r):=by
 obtain⟨u1,z,rfl,⟨u2,ns,rfl,⟨u3,y,rfl,⟨u4,m,rfl,⟨o,x,rfl,ho,w,rfl,hw⟩,hm⟩,c,rfl,hc⟩,hns⟩,hl⟩:=h
 obtain rfl:w=87:=by simpa using hw
 rcases ho with rfl|⟨s,rfl,hs⟩
 ·exact .inr ⟨_,rfl⟩
 ·obtain rfl:s=40:=by simpa using hs
  exact .inl ⟨_,rfl⟩
section
variable {n:Nat} {lv:Nat→Lf} {nv:Nat→Nd} {N:Nat} (hD:DvF n lv N nv)
include hD
theorem dv_kk (j:Nat) (hj:j<N):1≤(nv j).k∧(nv j).k≤18:=⟨(hD.rt.ok j hj).k1,(hD.rt.ok j hj).k2⟩
theorem dv_f (j:Nat) (hj:j<N):0≤(nv j).f∧(nv j).f≤(nv j).t∧(nv j).t≤(n:Int):=by
 have h1:=nest hD.rt.ok j hj 0 (abv0 hD.rt.sp j hj)
 rw [hD.rt.f0,hD.rt.t0]at h1
 exact⟨h1.1,(hD.rt.ok j hj).ft,h1.2⟩
theorem dv_row (j:Nat) (hj:j<N):RW n lv nv N j (nv j).f.toNat (j+1) (rowF (sgA n lv) nv N j):=rw_row hD.rt hj
theorem dv_fm (j:Nat) (hj:j<N) (hk:(nv j).k≠6∧(nv j).k≠7):∃row,RW n lv nv N j (nv j).f.toNat (j+1) row∧qForm (nv j).k row:=⟨_,dv_row hD j hj,hD.fm j hj hk.1 hk.2⟩
theorem dv_word {j:Nat} (hj:j<N) (hk:(nv j).k=6∨(nv j).k=7):(nv j).f.toNat<n∧lfA n lv (nv j).f.toNat=lv (nv j).f.toNat∧(lv (nv j).f.toNat).k=6:=by
 have h1:=hD.w1 j hj hk
 have h2:=dv_f hD j hj
 have h3:(nv j).f.toNat<n:=by omega
 refine⟨h3,?_,h1.2.2.1⟩
 unfold lfA
 rw [if_pos h3]
theorem dv_wrd {j:Nat} (hj:j<N) (hk:(nv j).k=6∨(nv j).k=7) (D:Nat):tst (wrdT n lv) (nv j).f.toNat D true:=fun s h1 _=>by
 obtain⟨_,h2,h3⟩:=dv_word hD hj hk
 unfold wrdT
 rw [h1,h2,h3]
 rfl
theorem dv_120 {j:Nat} (hj:j<N) (hk:(nv j).k=6∨(nv j).k=7) (hr:resB (lv (nv j).f.toNat).s=false):sgA n lv (nv j).f.toNat=120:=by
 obtain⟨_,h2,h3⟩:=dv_word hD hj hk
 unfold sgA
 rw [h2,h3]
 exact wdS_res hr
omit hD in
theorem t_cmd120 {a D:Nat} (h:sgA n lv a=120):tst (cmdT n lv) a D true:=fun s h1 _=>by
 unfold cmdT
 rw [h1,h]
 rfl
omit hD in
theorem t_cmdr {a D:Nat} (h:tst (rdrT n lv) a D true):tst (cmdT n lv) a D true:=fun s h1 h2=>by
 unfold cmdT
 rw [h s h1 h2,Bool.or_true,Bool.true_or]
omit hD in
theorem t_cmdm {a D:Nat} (h:tst (cmpT n lv) a D true):tst (cmdT n lv) a D true:=fun s h1 h2=>by
 unfold cmdT
 rw [h s h1 h2,Bool.or_true]
omit hD in
theorem t_pipc {a D:Nat} (h:tst (cmdT n lv) a D true):tst (pipT n lv) a D true:=fun s h1 h2=>by
 unfold pipT
 rw [h s h1 h2,Bool.or_true]
omit hD in
theorem t_cmpy {a D:Nat} (h:sgA n lv a∈ [123,40,105,119,114,99]) (hd:D<200):tst (cmpT n lv) a D true:=fun s h1 h2=>by
 unfold cmpT
 rw [h1,h2,List.contains_iff_mem.2 h,decide_eq_true hd]
 rfl
theorem fst_all:∀d j,N - j=d→j<N→FstF n lv (depF nv j) (nv j).k (nv j).f.toNat∧((nv j).k=5→sgA n lv (nv j).f.toNat∈ [120,60,35]):=by
 intro d
 induction d using Nat.strongRecOn with
 |_ d ih=>
  intro j hd hj
  have hsub:∀{a b e:Nat},Kid nv N j a (j+1) b e→FstF n lv (depF nv (j+1)) (nv (j+1)).k a∧depF nv (j+1)=depF nv j+(nsF (nv j).k).toNat∧((nv (j+1)).k=5→sgA n lv a∈ [120,60,35]):=by
   intro a b e hK
   have h1:=ih (N - (j+1)) (by omega) (j+1) rfl hK.lt
   have h2:(nv (j+1)).f.toNat=a:=by rw [←hK.f];rfl
   rw [h2]at h1
   exact⟨h1.1,dep_kid hK.u hK.ij,h1.2⟩
  have hsg:∀a,sgA n lv a∉upL:=sgA_low
  have hkk:=dv_kk hD
  have kid1:∀{a c:Nat} {r:List Nat} (K:Int),1≤K→K≤18→letN K=c→RW n lv nv N j a (j+1) (c::r)→∃b e,Kid nv N j a (j+1) b e∧(nv (j+1)).k=K:=by
   intro a c r K h1 h2 h3 h4
   obtain⟨g1,b,e,g2,g3⟩:=rw_kid hsg h4 (by rw [←h3];exact letN_up h1 h2)
   exact⟨b,e,g2,letN_inj (hkk _ g2.lt).1 (hkk _ g2.lt).2 h1 h2 (g1.trans h3.symm)⟩
  have leaf1:∀{a c:Nat} {r:List Nat},RW n lv nv N j a (j+1) (c::r)→c∉upL→sgA n lv a=c:=fun h1 h2=>(rw_leaf hkk h1 h2).1
  by_cases h67:(nv j).k=6∨(nv j).k=7
  ·refine⟨⟨fun h=>by omega,fun h=>by unfold CK at h;omega,fun h=>by unfold CP at h;omega,fun h=>by omega,fun _=>dv_wrd hD hj h67 _,fun h6=>?_,fun h=>by omega⟩,fun h=>by omega⟩
   obtain⟨_,g2,g3⟩:=dv_word hD hj h67
   have g4:=(hD.w1 j hj h67).2.2.2 h6
   intro s h1 h2
   unfold asgT
   rw [dv_wrd hD hj h67 _ s h1 h2,h1,g2,decide_eq_true g4]
   rfl
  obtain⟨row,hrow,hq⟩:=dv_fm hD j hj ⟨fun h=>h67 (.inl h),fun h=>h67 (.inr h)⟩
  generalize hfa:(nv j).f.toNat=a at hrow ⊢
  have hcomp:∀{c:Nat} {r:List Nat},row=c::r→c∈ [123,40,105,119,114,99]→CP (nv j).k→FstF n lv (depF nv j) (nv j).k a∧((nv j).k=5→sgA n lv a∈ [120,60,35]):=by
   intro c r hr hc hcp
   subst hr
   have h1:=leaf1 hrow ((show ∀x∈ [123,40,105,119,114,99],x∉upL by decide) c hc)
   unfold CP at hcp
   have h2:=hD.dp j hj (decide_eq_true (.inl hcp))
   have h3:=t_cmpy (n:=n) (lv:=lv) (a:=a) (D:=depF nv j) (by rw [h1];exact hc) h2
   exact⟨⟨fun h=>by omega,fun _=>t_cmdm h3,fun _=>h3,fun h=>by omega,fun h=>by omega,fun h=>by omega,fun h=>by omega⟩,fun h=>by omega⟩
  unfold qForm at hq
  rcases hq with⟨hk,hq⟩|⟨hk,hq⟩|⟨hk,hq⟩|⟨hk,hq⟩|⟨hk,hne,hq⟩|⟨hk,hq⟩|⟨hk,hq⟩|⟨hk,hq⟩|⟨hk,hq⟩|⟨hk,hq⟩|⟨hk,hq⟩|⟨hk,hq⟩|⟨hk,hq⟩|⟨hk,hq⟩
  ·exact⟨⟨fun h=>by omega,fun h=>by unfold CK at h;omega,fun h=>by unfold CP at h;omega,fun h=>by omega,fun h=>by omega,fun h=>by omega,fun h=>by omega⟩,fun h=>by omega⟩
  ·obtain⟨r,rfl⟩:=q2_hd hq
   obtain⟨b,e,h1,h2⟩:=kid1 3 (by decide) (by decide) rfl hrow
   obtain⟨h3,h4,_⟩:=hsub h1
   rw [hk]at h4
   have h5:=h3.p (by omega)
   rw [h4]at h5
   exact⟨⟨fun _=>h5,fun h=>by unfold CK at h;omega,fun h=>by unfold CP at h;omega,fun h=>by omega,fun h=>by omega,fun h=>by omega,fun h=>by omega⟩,fun h=>by omega⟩
  ·obtain⟨r,rfl⟩:=q3_hd hq
   obtain⟨b,e,h1,h2⟩:=kid1 4 (by decide) (by decide) rfl hrow
   obtain⟨h3,h4,_⟩:=hsub h1
   rw [hk]at h4
   have h5:=h3.p (by omega)
   rw [h4]at h5
   exact⟨⟨fun _=>h5,fun h=>by unfold CK at h;omega,fun h=>by unfold CP at h;omega,fun h=>by omega,fun h=>by omega,fun h=>by omega,fun h=>by omega⟩,fun h=>by omega⟩
  ·obtain⟨c,r,rfl,hc⟩:=q4_hd hq
   have h5:tst (pipT n lv) a (depF nv j) true:=by
    rcases hc with rfl|hc
    ·have h1:=leaf1 hrow (by decide)
     intro s g1 g2
     unfold pipT
     rw [g1,h1]
     rfl
    ·obtain⟨g1,b,e,g2,g3⟩:=rw_kid hsg hrow ((show ∀x∈cLs,x∈upL by decide) c hc)
     obtain⟨h3,h4,_⟩:=hsub g2
     rw [hk]at h4
     have h6:=h3.c (ck_of (hkk _ g2.lt).1 (hkk _ g2.lt).2 (by rw [g1];exact hc))
     rw [h4]at h6
     exact t_pipc h6
   exact⟨⟨fun _=>h5,fun h=>by unfold CK at h;omega,fun h=>by unfold CP at h;omega,fun h=>by omega,fun h=>by omega,fun h=>by omega,fun h=>by omega⟩,fun h=>by omega⟩
  ·obtain⟨c,r,rfl,hc⟩:=q5_hd hq hne
   have h5:tst (cmdT n lv) a (depF nv j) true∧sgA n lv a∈ [120,60,35]:=by
    have hw:∀{b e:Nat},Kid nv N j a (j+1) b e→((nv (j+1)).k=6∨(nv (j+1)).k=7)→sgA n lv a=120:=by
     intro b e h1 h2
     have h3:(nv (j+1)).f.toNat=a:=by rw [←h1.f];rfl
     have h4:=(dv_word hD h1.lt h2).2.2
     rw [h3]at h4
     have h6:=(hD.s5 j hj hk).1
     rw [hfa]at h6
     have h7:=dv_120 hD h1.lt h2 (by rw [h3];exact h6 h4)
     rw [h3]at h7
     exact h7
    rcases hc with rfl|rfl|⟨rfl,_⟩
    ·obtain⟨b,e,h1,h2⟩:=kid1 6 (by decide) (by decide) rfl hrow
     have:=hw h1 (.inl h2)
     exact⟨t_cmd120 this,by rw [this];decide⟩
    ·obtain⟨b,e,h1,h2⟩:=kid1 8 (by decide) (by decide) rfl hrow
     obtain⟨h3,h4,_⟩:=hsub h1
     rw [hk]at h4
     have h6:=h3.r h2
     rw [h4]at h6
     exact⟨t_cmdr h6,(show ∀x∈ [60,35],x∈ [120,60,35] by decide) _ (rdr_at h6)⟩
    ·obtain⟨b,e,h1,h2⟩:=kid1 7 (by decide) (by decide) rfl hrow
     have:=hw h1 (.inr h2)
     exact⟨t_cmd120 this,by rw [this];decide⟩
   exact⟨⟨fun h=>by omega,fun _=>h5.1,fun h=>by unfold CP at h;omega,fun h=>by omega,fun h=>by omega,fun h=>by omega,fun h=>by omega⟩,fun _=>h5.2⟩
  ·have h5:tst (rdrT n lv) a (depF nv j) true:=by
    intro s g1 g2
    unfold rdrT
    rw [g1]
    rcases q8_hd hq with⟨r,rfl⟩|⟨r,rfl⟩
    ·rw [leaf1 hrow (by decide)]
     rfl
    ·obtain⟨m1,m2⟩:=rw_leaf hkk hrow (by decide)
     rw [m1,leaf1 m2 (by decide)]
     rfl
   exact⟨⟨fun h=>by omega,fun h=>by unfold CK at h;omega,fun h=>by unfold CP at h;omega,fun _=>h5,fun h=>by omega,fun h=>by omega,fun h=>by omega⟩,fun h=>by omega⟩
  ·obtain⟨r,hr⟩:=q9_hd hq
   exact hcomp hr (by decide) (by unfold CP;omega)
  ·obtain⟨r,hr⟩:=q10_hd hq
   exact hcomp hr (by decide) (by unfold CP;omega)
  ·obtain⟨r,hr⟩:=q11_hd hq
   exact hcomp hr (by decide) (by unfold CP;omega)
  ·obtain⟨r,hr⟩:=q12_hd hq
   exact hcomp hr (by decide) (by unfold CP;omega)
  ·obtain⟨r,hr⟩:=q13_hd hq
   exact hcomp hr (by decide) (by unfold CP;omega)
  ·obtain⟨r,hr⟩:=q14_hd hq
   exact hcomp hr (by decide) (by unfold CP;omega)
  ·have h5:tst (itmT n lv) a (depF nv j) true:=by
    have h40:sgA n lv a=40→tst (itmT n lv) a (depF nv j) true:=fun g s g1 g2=>by
     unfold itmT
     rw [g1,g]
     rfl
    rcases q15_hd hq with⟨r,rfl⟩|⟨r,rfl⟩
    ·exact h40 (leaf1 hrow (by decide))
    ·obtain⟨b,e,h1,h2⟩:=kid1 7 (by decide) (by decide) rfl hrow
     have ht:=hD.t15 j hj hk
     rw [hfa]at ht
     rcases ht with ht|ht
     ·exact h40 ht
     ·have h3:(nv (j+1)).f.toNat=a:=by rw [←h1.f];rfl
      have hw:=dv_wrd hD h1.lt (.inr h2) (depF nv j)
      obtain⟨_,m2,m3⟩:=dv_word hD h1.lt (.inr h2)
      rw [h3]at hw m2 m3
      have hwt:wtx lv nv N j=(lv a).s:=by
       have g1:=hD.w1 _ h1.lt (.inr h2)
       unfold wtx
       rw [fs_w h1 h2 (by omega)]
       show(lv (nv (j+1)).f.toNat).s=_
       rw [h3]
      rw [hwt]at ht
      intro s g1 g2
      unfold itmT
      rw [hw s g1 g2,g1]
      have:sgA n lv a≠122:=by
       unfold sgA
       rw [m2,m3]
       exact wdS_122 ht
      have e2:(sgA n lv a==122)=false:=by simpa using this
      rw [e2]
      simp
   exact⟨⟨fun h=>by omega,fun h=>by unfold CK at h;omega,fun h=>by unfold CP at h;omega,fun h=>by omega,fun h=>by omega,fun h=>by omega,fun _=>h5⟩,fun h=>by omega⟩
  ·obtain⟨r,rfl⟩:=q16_hd hq
   obtain⟨b,e,h1,h2⟩:=kid1 7 (by decide) (by decide) rfl hrow
   have h3:(nv (j+1)).f.toNat=a:=by rw [←h1.f];rfl
   have hwt:wtx lv nv N j=(lv a).s:=by
    have g1:=hD.w1 _ h1.lt (.inr h2)
    unfold wtx
    rw [fs_w h1 h2 (by omega)]
    show(lv (nv (j+1)).f.toNat).s=_
    rw [h3]
   have hr:=(hD.n16 j hj hk).2
   rw [hwt]at hr
   have h7:=dv_120 hD h1.lt (.inr h2) (by rw [h3];exact hr)
   rw [h3]at h7
   exact⟨⟨fun h=>by omega,fun _=>t_cmd120 h7,fun h=>by unfold CP at h;omega,fun h=>by omega,fun h=>by omega,fun h=>by omega,fun h=>by omega⟩,fun h=>by omega⟩
end
section
variable {n:Nat} {lv:Nat→Lf} {nv:Nat→Nd} {N:Nat} (hD:DvF n lv N nv)
include hD
theorem dv_cx (j:Nat) (hg:∀j',j<j'→j'<N→∀i a b e,Kid nv N i a j' b e→FolF (nv j').k (sgA n lv b)→GkF n lv nv i (depF nv j') (nv j').k a j' b e):CxF n lv nv N j (depF nv j+(nsF (nv j).k).toNat):=by
 refine⟨dv_kk hD,fun k hk h7=>(hD.w1 k hk (.inr h7)).1,fun a j' b e hK=>?_,fun a j' b e hK hF=>?_⟩
 ·have h1:=(fst_all hD _ j' rfl hK.lt).1
  have h2:(nv j').f.toNat=a:=by rw [←hK.f];rfl
  rw [h2,dep_kid hK.u hK.ij]at h1
  exact h1
 ·have h1:=hg j' hK.ij hK.lt j a b e hK hF
  rw [dep_kid hK.u hK.ij]at h1
  exact h1
omit hD in
theorem res_of {i j a b e D:Nat} {p:PP} (hK:Kid nv N i a j b e) (h:InR n lv nv N j D p a (j+1)):GoF n lv nv j D p a (j+1) b e:=by
 obtain⟨T,e',h1,h2,h3⟩:=h
 have hb:=hK.t
 obtain rfl:T=b:=by omega
 obtain rfl:=h2.one hK.e
 exact h3
omit hD in
theorem mk_node {i j a b e D:Nat} {k:Int} {dp:Bool} {p:PP} (hK:Kid nv N i a j b e) (hk:(nv j).k=k) (hd:nsF k=dp) (h:InR n lv nv N j (D+(nsF (nv j).k).toNat) p a (j+1)):GoF n lv nv i D (.node k dp p) a j b e:=by
 have h1:=res_of hK h
 rw [hk,hd]at h1
 have h2:=goF_node (D:=D) (dp:=dp) hK h1
 rw [hk]at h2
 exact h2
omit hD in
theorem fn_no {a D:Nat} (h:sgA n lv a≠120∨isNm (lfA n lv a).s=false∨sgA n lv (a+1)≠40):tst (fnT n lv) a D false:=fun s h1 _=>by
 unfold fnT
 rw [h1]
 rcases h with h|h|h
 ·have e:(sgA n lv a==120)=false:=by simpa using h
  rw [e]
  rfl
 ·rw [h,Bool.and_false]
  rfl
 ·have e:(sgA n lv (a+1)==40)=false:=by simpa using h
  rw [e,Bool.and_false]
  rfl
theorem gk_all:∀d j,N - j=d→j<N→∀i a b e,Kid nv N i a j b e→FolF (nv j).k (sgA n lv b)→GkF n lv nv i (depF nv j) (nv j).k a j b e:=by
 intro d
 induction d using Nat.strongRecOn with
 |_ d ih=>
  intro j hd hj i a b e hK hF
  have hC:=dv_cx hD j (fun j' h1 h2=>ih (N - j') (by omega) j' rfl h2)
  have hfa:(nv j).f.toNat=a:=by rw [←hK.f];rfl
  have hx:∀{P:Nat→Prop},P (sgA n lv b)→∀T:Nat,(T:Int)=(nv j).t→P (sgA n lv T):=by
   intro P hp T hT
   have hb:=hK.t
   obtain rfl:T=b:=by omega
   exact hp
  obtain⟨hfs,hs5⟩:=fst_all hD _ j rfl hj
  rw [hfa]at hfs hs5
  by_cases h67:(nv j).k=6∨(nv j).k=7
  ·have hw:=hD.w1 j hj h67
   have hin:GoF n lv nv j (depF nv j) .adv a (j+1) b e:=by
    have g1:=hK.f
    have g2:=hK.t
    have g3:=hK.e.lt
    have g4:=hK.e.le
    obtain rfl:b=a+1:=by omega
    have he:e=j+1:=by
     rcases Nat.lt_or_ge (j+1) e with g|g
     ·have m1:=hK.e.below (j+1) (by omega) g
      obtain⟨u,m2,m3,_⟩:=hD.rt.sp.2 (j+1) (by omega) (by omega)
      have m4:=hw.2.1 (by omega)
      omega
     ·omega
    subst he
    exact goF_adv
   have hns:nsF (nv j).k=false:=by
    unfold nsF
    exact decide_eq_false (by omega)
   have hnode:∀k:Int,(nv j).k=k→GoF n lv nv i (depF nv j) (.node k false .adv) a j b e:=by
    intro k hk
    have:=goF_node (D:=depF nv j) (dp:=false) hK hin
    rw [hk]at this
    exact this
   exact⟨fun h=>by omega,fun h=>by omega,fun h=>by omega,fun h=>by unfold CK at h;omega,fun h=>by unfold CP at h;omega,fun h=>hnode 6 h,fun h=>hnode 7 h,fun h=>by omega,fun h=>by omega⟩
  obtain⟨row,hrow,hq⟩:=dv_fm hD j hj ⟨fun h=>h67 (.inl h),fun h=>h67 (.inr h)⟩
  rw [hfa]at hrow
  have hcomp:∀{k:Int} {w:PP},(nv j).k=k→CP k→InR n lv nv N j (depF nv j+(nsF (nv j).k).toNat) (.seq .adv (.seq w (redsP n lv))) a (j+1)→(GoF n lv nv i (depF nv j) (cpP n lv k w) a j b e→GoF n lv nv i (depF nv j) (cmpP n lv) a j b e)→GkF n lv nv i (depF nv j) (nv j).k a j b e:=by
   intro k w hk hcp h1 h2
   have h3:nsF k=true:=decide_eq_true (.inl hcp)
   have h4:=h2 (mk_node hK hk h3 h1)
   have hm:=hfs.m (by rw [hk];exact hcp)
   have hcp':=hcp
   unfold CP at hcp'
   exact⟨fun h=>by omega,fun h=>by omega,fun h=>by omega,fun _=>goF_yes hm h4,fun _=>h4,fun h=>by omega,fun h=>by omega,fun h=>by omega,fun h=>by omega⟩
  unfold qForm at hq
  rcases hq with⟨hk,hq⟩|⟨hk,hq⟩|⟨hk,hq⟩|⟨hk,hq⟩|⟨hk,hne,hq⟩|⟨hk,hq⟩|⟨hk,hq⟩|⟨hk,hq⟩|⟨hk,hq⟩|⟨hk,hq⟩|⟨hk,hq⟩|⟨hk,hq⟩|⟨hk,hq⟩|⟨hk,hq⟩
  ·exact⟨fun h=>by omega,fun h=>by omega,fun h=>by omega,fun h=>by unfold CK at h;omega,fun h=>by unfold CP at h;omega,fun h=>by omega,fun h=>by omega,fun h=>by omega,fun h=>by omega⟩
  ·have h1:=mk_node (D:=depF nv j) (dp:=false) hK hk rfl (in2 hC hrow hq (hx (P:=fun x=>x∈folL) (hF.l hk)))
   exact⟨fun _=>goF_lst h1,fun h=>by omega,fun h=>by omega,fun h=>by unfold CK at h;omega,fun h=>by unfold CP at h;omega,fun h=>by omega,fun h=>by omega,fun h=>by omega,fun h=>by omega⟩
  ·have h1:=mk_node (D:=depF nv j) (dp:=false) hK hk rfl (in3 hC hrow hq (hx (P:=fun x=>x∈folA) (hF.a hk)))
   exact⟨fun h=>by omega,fun _=>h1,fun h=>by omega,fun h=>by unfold CK at h;omega,fun h=>by unfold CP at h;omega,fun h=>by omega,fun h=>by omega,fun h=>by omega,fun h=>by omega⟩
  ·have h1:=mk_node (D:=depF nv j) (dp:=false) hK hk rfl (in4 hC hrow hq (hx (P:=fun x=>x∈folI) (hF.i hk)))
   exact⟨fun h=>by omega,fun h=>by omega,fun _=>h1,fun h=>by unfold CK at h;omega,fun h=>by unfold CP at h;omega,fun h=>by omega,fun h=>by omega,fun h=>by omega,fun h=>by omega⟩
  ·
   have hfol:=hF.c (.inl hk)
   obtain⟨s1,s2,s3⟩:=hD.s5 j hj hk
   have hbt:(nv j).t.toNat=b:=by rw [←hK.t];rfl
   have hend:∀T:Nat,(T:Int)=(nv j).t→tst (rdrT n lv) T (depF nv j+(nsF (nv j).k).toNat) false∧tst (wrdT n lv) T (depF nv j+(nsF (nv j).k).toNat) false:=by
    intro T hT
    have hb:=hK.t
    obtain rfl:T=b:=by omega
    have hbn:=(dv_f hD j hj).2.2
    refine⟨t_rdn (fun g=>by rw [g]at hfol;exact absurd hfol (by decide)) (fun g=>by rw [g]at hfol;exact absurd hfol (by decide)),?_⟩
    intro s g1 _
    unfold wrdT
    rw [g1]
    rw [hbt]at s3
    refine decide_eq_false (fun g6=>?_)
    rcases s3 with s3|⟨s3,_⟩
    ·unfold lfA at g6
     rw [if_neg (by omega)]at g6
     exact absurd g6 (by decide)
    ·unfold lfA at g6
     split at g6
     ·exact s3 g6
     ·exact absurd g6 (by decide)
   have h1:=mk_node (D:=depF nv j) (dp:=false) hK hk rfl (in5 hC hrow hq hend s2)
   have hsg:=hs5 hk
   have hfn:tst (fnT n lv) a (depF nv j) false:=by
    obtain⟨c,r,rfl,hc⟩:=q5_hd hq hne
    rcases hc with rfl|rfl|⟨rfl,hr⟩
    ·obtain⟨b',e',k1,k2,k3⟩:=w_kid hC 6 (by decide) (by decide) rfl hrow
     have k4:=(hD.w1 _ k1.lt (.inl k2)).2.2.2 k2
     obtain⟨_,k5,_⟩:=dv_word hD k1.lt (.inl k2)
     have k6:(nv (j+1)).f.toNat=a:=by rw [←k1.f];rfl
     rw [k6]at k4 k5
     exact fn_no (.inr (.inl (by rw [k5];exact asg_name k4)))
    ·obtain⟨b',e',k1,k2,k3,_⟩:=c_red hC hrow
     have k4:=rdr_at k1
     exact fn_no (.inl (fun g=>by rw [g]at k4;exact absurd k4 (by decide)))
    ·obtain⟨b',e',k1,k2,k3,k4,k5⟩:=c_word hC hrow
     have k6:=hC.w1 _ k4.lt k5
     have k7:=k4.f
     have k8:=k4.t
     obtain rfl:b'=a+1:=by omega
     refine fn_no (.inr (.inr ?_))
     cases r with
     |nil=>
      have m1:=(rw_nil k3).1
      have m2:=hK.t
      obtain rfl:a+1=b:=by omega
      intro g
      rw [g]at hfol
      exact absurd hfol (by decide)
     |cons c r=>
      rcases(show c=87∨c=82 by simpa using hr c (List.mem_cons_self ..))with rfl|rfl
      ·obtain⟨_,_,m1,_⟩:=c_word hC k3
       have m2:=wrd_at m1
       intro g
       rw [g]at m2
       exact absurd m2 (by decide)
      ·obtain⟨_,_,m1,_⟩:=c_red hC k3
       have m2:=rdr_at m1
       intro g
       rw [g]at m2
       exact absurd m2 (by decide)
   have h2:GoF n lv nv i (depF nv j) (comP n lv) a j b e:=goF_no (t_cmpn ((show ∀x∈ [120,60,35],x∉ [123,40,105,119,114,99] by decide) _ hsg)) (goF_no hfn (goF_yes (hfs.c (.inl hk)) h1))
   exact⟨fun h=>by omega,fun h=>by omega,fun h=>by omega,fun _=>h2,fun h=>by unfold CP at h;omega,fun h=>by omega,fun h=>by omega,fun h=>by omega,fun h=>by omega⟩
  ·have h1:=mk_node (D:=depF nv j) (dp:=false) hK hk rfl (in8 hC hrow hq)
   exact⟨fun h=>by omega,fun h=>by omega,fun h=>by omega,fun h=>by unfold CK at h;omega,fun h=>by unfold CP at h;omega,fun h=>by omega,fun h=>by omega,fun _=>h1,fun h=>by omega⟩
  ·obtain⟨g1,g2⟩:=in9 hC hrow hq (hx (P:=fun x=>x∈folC) (hF.c (.inr (.inr (by omega)))))
   exact hcomp hk (by unfold CP;omega) g2 (fun h=>goF_yes (t_isy g1 rfl) h)
  ·obtain⟨g1,g2⟩:=in10 hC hrow hq (hx (P:=fun x=>x∈folC) (hF.c (.inr (.inr (by omega)))))
   exact hcomp hk (by unfold CP;omega) g2 (fun h=>goF_no (t_isn (by rw [g1];decide)) (goF_yes (t_isy g1 rfl) h))
  ·obtain⟨g1,g2⟩:=in11 hC hrow hq (hx (P:=fun x=>x∈folC) (hF.c (.inr (.inr (by omega)))))
   exact hcomp hk (by unfold CP;omega) g2 (fun h=>goF_no (t_isn (by rw [g1];decide)) (goF_no (t_isn (by rw [g1];decide)) (goF_yes (t_isy g1 rfl) h)))
  ·obtain⟨g1,g2⟩:=in12 hC hrow hq (hx (P:=fun x=>x∈folC) (hF.c (.inr (.inr (by omega)))))
   exact hcomp hk (by unfold CP;omega) g2 (fun h=>goF_no (t_isn (by rw [g1];decide)) (goF_no (t_isn (by rw [g1];decide)) (goF_no (t_isn (by rw [g1];decide)) (goF_yes (t_isy g1 rfl) h))))
  ·obtain⟨g1,g2⟩:=in13 hC hrow hq (hx (P:=fun x=>x∈folC) (hF.c (.inr (.inr (by omega))))) (hD.n13 j hj hk)
   exact hcomp hk (by unfold CP;omega) g2 (fun h=>goF_no (t_isn (by rw [g1];decide)) (goF_no (t_isn (by rw [g1];decide)) (goF_no (t_isn (by rw [g1];decide)) (goF_no (t_isn (by rw [g1];decide)) (goF_yes (t_isy g1 rfl) h)))))
  ·obtain⟨g1,g2⟩:=in14 hC hrow hq (hx (P:=fun x=>x∈folC) (hF.c (.inr (.inr (by omega)))))
   exact hcomp hk (by unfold CP;omega) g2 (fun h=>goF_no (t_isn (by rw [g1];decide)) (goF_no (t_isn (by rw [g1];decide)) (goF_no (t_isn (by rw [g1];decide)) (goF_no (t_isn (by rw [g1];decide)) (goF_no (t_isn (by rw [g1];decide)) h)))))
  ·have h1:=mk_node (D:=depF nv j) (dp:=false) hK hk rfl (in15 hC hrow hq (hx (P:=fun x=>x∈ [121,122]) (hF.t hk)))
   exact⟨fun h=>by omega,fun h=>by omega,fun h=>by omega,fun h=>by unfold CK at h;omega,fun h=>by unfold CP at h;omega,fun h=>by omega,fun h=>by omega,fun h=>by omega,fun _=>h1⟩
  ·obtain⟨n1,n2⟩:=hD.n16 j hj hk
   have hck:CK (nv j).k:=.inr (.inl hk)
   obtain⟨g1,g2,g3,g4,g5⟩:=in16 hC hrow hq (hx (P:=fun x=>x∈folC) (hF.c hck)) n1 n2
   have hwa:=wrd_lf g2
   have h120:sgA n lv a=120:=by
    have hlt:a<n:=wrd_le (g2 (sOf a _) rfl rfl)
    have h6:(lfA n lv a).k=6:=of_decide_eq_true (g2 (sOf a _) rfl rfl)
    unfold sgA
    rw [h6,hwa]
    exact wdS_res g4
   have hdp:=hD.dp j hj (decide_eq_true (.inr hk))
   have h1:=mk_node (D:=depF nv j) (dp:=true) hK hk rfl g5
   have hfn:tst (fnT n lv) a (depF nv j) true:=fun s m1 m2=>by
    unfold fnT
    rw [m1,m2,h120,hwa,g3,g1,decide_eq_true hdp]
    rfl
   have h2:GoF n lv nv i (depF nv j) (comP n lv) a j b e:=goF_no (t_cmpn (by rw [h120];decide)) (goF_yes hfn h1)
   exact⟨fun h=>by omega,fun h=>by omega,fun h=>by omega,fun _=>h2,fun h=>by unfold CP at h;omega,fun h=>by omega,fun h=>by omega,fun h=>by omega,fun h=>by omega⟩
theorem dv_tree:Tree n lv (slcF nv 0 N):=by
 have hpos:=hD.rt.pos
 have hC:=dv_cx hD 0 (fun j' h1 h2=>gk_all hD _ j' rfl h2)
 obtain⟨row,hrow,hq⟩:=dv_fm hD 0 hpos (by rw [hD.k0];decide)
 have hq1:q1 row:=by
  unfold qForm at hq
  rcases hq with⟨hk,hq⟩|⟨hk,hq⟩|⟨hk,hq⟩|⟨hk,hq⟩|⟨hk,hne,hq⟩|⟨hk,hq⟩|⟨hk,hq⟩|⟨hk,hq⟩|⟨hk,hq⟩|⟨hk,hq⟩|⟨hk,hq⟩|⟨hk,hq⟩|⟨hk,hq⟩|⟨hk,hq⟩
  ·exact hq
  all_goals rw [hD.k0]at hk;exact absurd hk (by decide)
 have hf:(nv 0).f.toNat=0:=by rw [hD.rt.f0];rfl
 rw [hf]at hrow
 have hns:nsF (nv 0).k=false:=by rw [hD.k0];rfl
 rw [hns,show depF nv 0+false.toNat=0 from rfl]at hC
 have hin:InR n lv nv N 0 0 (prgP n lv) 0 1:=by
  rcases hq1 with h|⟨ns,l,rfl,hn,c,rfl,hc⟩
  ·rw [←List.append_nil row]at hrow
   exact in1 hC hD.rt.t0 hrow h (.inl rfl)
  ·obtain rfl:c=76:=by simpa using hc
   exact in1 hC hD.rt.t0 hrow hn (.inr rfl)
 obtain⟨T,e,h1,h2,h3⟩:=hin
 have hTn:T=n:=by have:=hD.rt.t0;omega
 subst hTn
 have heN:e=N:=by
  rcases Nat.lt_or_ge e N with g|g
  ·have h4:=h2.stop g
   have h5:=h2.lt
   obtain⟨u,m2,m3,_⟩:=hD.rt.sp.2 e (by omega) g
   omega
  ·have:=h2.le;omega
 subst heN
 obtain⟨s1,e1,k1,k2,k3,k4⟩:=h3.2 (bgn 1 false ps0) rfl rfl rfl rfl
 refine⟨fin 1 ps0 s1,.node e1,k1,?_⟩
 show slcF nv 0 e=(s1.L.set 0 (⟨1,0,s1.a,-1⟩:Nd))
 rw [k4,slcF_cons hpos]
 show _=([(⟨1,0,0,-1⟩:Nd)]++slcF nv 1 e).set 0 ⟨1,0,s1.a,-1⟩
 simp only [List.singleton_append,List.set_cons_zero]
 congr 1
 refine nd_eq hD.k0 hD.rt.f0 ?_ hD.rt.u0
 rw [k1]
 exact hD.rt.t0
end
end Go.Proofs.YtkolpaonccmgiaaGreatDoor.Q

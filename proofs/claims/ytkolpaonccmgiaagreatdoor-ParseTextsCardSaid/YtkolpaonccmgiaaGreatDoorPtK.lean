/- What at, mode and Expands of the document's own pa -/
import Derived.Test.YtkolpaonccmgiaaGreatDoorMj
import Derived.Test.YtkolpaonccmgiaaGreatDoorQp
import Derived.Deep.CutBlock
namespace Go.Proofs.YtkolpaonccmgiaaGreatDoor
set_option linter.unusedSectionVars false
set_option linter.unusedVariables false
open Go.Proofs.Tryz
open Lib(hid)
set_option maxHeartbeats 8000000
open Go.RowKit
def AtR(l:List Fr)(f r:Nat):Prop:=
 (∃m,1<=r/\l[r]?=some (m,f)/\∀i x,1<=i->i<r->l[i]?=some x->x.2≠f)\/(r=0/\∀i x,1<=i->l[i]?=some x->x.2≠f)
def VU(s:ByteArray)(k f:Nat):Nat:=if zN s k f=true then(xR s f).length+1 else 0
theorem zcf{s:ByteArray}{k f:Nat}:VU s k f=0↔zN s k f=false:=by
 unfold VU;split<;>simp[*]
theorem F6(s:ByteArray)(k:Nat):(zU s k).st.reverse=(0,0)::(nt s k).reverse:=by rw[kU,List.reverse_append];rfl
theorem zcg{s:ByteArray}{k f:Nat}(h:zN s k f=true):(zU s k).st.reverse[(xR s f).length+1]?=some (md s k f,f):=by
 obtain⟨⟨A,hA⟩,_⟩:=gp h;rw[F6,hA];simp
theorem zk1(s:ByteArray)(k f:Nat):AtR (zU s k).st.reverse f (VU s k f):=by
 unfold VU;have hrev:=F6 s k;split
 ·rename_i h
  obtain⟨⟨A,hA⟩,_⟩:=gp h;refine .inl ⟨_,by omega,zcg h,λi x h1 h2 hx=>?_⟩;rw[hrev,hA]at hx;obtain⟨c,rfl⟩:∃c,i=c+1:=⟨i-1,by omega⟩;have hc:c<(xR s f).reverse.length:=by rw[List.length_reverse];omega
  rw[List.getElem?_cons_succ,List.reverse_append,List.reverse_cons,List.append_assoc,List.getElem?_append_left hc]at hx;have hm:x∈xR s f:=by have:=List.mem_of_getElem? hx;simpa using this
  have hp:=Xv s k;rw[hA]at hp;have:=(List.pairwise_cons.1 (List.pairwise_append.1 hp).2.1).1 x hm;simp at this;omega
 ·rename_i h
  refine .inr ⟨rfl,λi x h1 hx=>?_⟩;rw[hrev]at hx;obtain⟨c,rfl⟩:∃c,i=c+1:=⟨i-1,by omega⟩;rw[List.getElem?_cons_succ]at hx;have hm:x∈nt s k:=by have:=List.mem_of_getElem? hx;simpa using this
  intro e;exact h (Zr.2 ⟨x.1,by rw[←e];exact hm⟩)
def zk2(l:List Fr)(f:Nat)(w:World)(v:Value)(wr:World):Prop:=∃k:Nat,1<=k/\(k<=l.length\/k=1)/\v=.int .i64 (k:Int)/\(∀i x,1<=i->i<k->l[i]?=some x->x.2≠f)/\wr=w
section
variable(w:World)
theorem oO(st:List Fr)(S:ByteArray)(g n cap:Nat)(fr:Bool)(f r:Nat)(hR:Rv w st S g n cap)(hl:st.length<=100000)(hA:Hid (AtR st.reverse f r)):
  Calls prog 172 #[.agg #[.string S,.slice (some ⟨g,0,none⟩) n cap,.bool fr],.int .i64 (f:Int)] w λe w'=>e=.returned (.int .i64 (r:Int))/\Below w.heap.size w w':=by
 have hlt:=hR.lt;have hcell:∀X,Below w.heap.size w X->∀j x,st.reverse[j]?=some x->X.cell? ⟨g,j,none⟩=some (.int .i64 (x.2:Int)):=λX hX j x hx=>(hR.below hX).p.cell hx;have hn:=hR.n;have hnl:n<=100000:=by omega
 have hrl:st.reverse.length=n:=by rw[List.length_reverse,hn]
 have HC:=hid hcell;have KC:=hid hrl;clear hR hcell hn hrl;go_enter func172,ntmps172;go_wp2;obtain⟨W,hW⟩:∃W,W=w.alloc (.cells #[.string S,.slice (some ⟨g,0,none⟩) n cap,.bool fr] 112):=⟨_,rfl⟩;have hB:Below w.heap.size w W:=by rw[hW];exact(Below.refl _ _).alloc (Nat.le_refl _) _
 have hb:zf W w.heap.size #[.string S,.slice (some ⟨g,0,none⟩) n cap,.bool fr] 112:=by rw[hW];exact zf.new _ _ _
 have b1:W.cell? ⟨w.heap.size,1,none⟩=some (.slice (some ⟨g,0,none⟩) n cap):=hb.cell 1;rw[←hW];clear hW hb;obtain⟨bx,hbx⟩:∃bx,w.heap.size=bx:=⟨_,rfl⟩;rw[hbx]at b1 ⊢;have yh:=hid hbx;clear hbx
 go_loopw [5] (λv wr=>zk2 st.reverse f W v wr) (λv _=>n+1-(intOf v).toNat)
 case atStart=>exact⟨1,Nat.le_refl _,.inr rfl,rfl,λi x h1 h2=>by omega,rfl⟩
 case round=>
  obtain⟨k,hk1,hk,rfl,hno,rfl⟩:=hrel;have HN:=hid hno;clear hno;by_cases hlt2:(k:Int)<(n:Int)
  ·have hkn:k<n:=by omega
   have hkr:k<st.reverse.length:=by have:=KC.out;omega
   obtain⟨x,hx⟩:∃x,st.reverse[k]?=some x:=⟨_,List.getElem?_eq_getElem hkr⟩;have q:=HC.out _ hB k x hx;have q0:(0:Int)<=(k:Int):=by omega
   obtain⟨p,hp⟩:∃p,x.2=p:=⟨_,rfl⟩;rw[hp]at q;have HX:=hid hx;have HP:=hid hp;clear hx hp hkr;by_cases e:p=f
   ·subst e
    go_wp2;go_ret;refine⟨qc ?_,by rw[yh.out];rw[yh.out]at hB;exact hB⟩;have:k=r:=by
     rcases hA.out with⟨m,h1,h2,h3⟩|⟨h1,h2⟩
     ·rcases Nat.lt_trichotomy k r with g|g|g
      ·exact absurd HP.out (h3 k x hk1 g HX.out)
      ·exact g
      ·exact absurd rfl (HN.out r _ h1 g h2)
     ·exact absurd HP.out (h2 k x hk1 HX.out)
    rw[this]
   ·have t1:((p:Int)==(f:Int))=false:=beq_eq_false_iff_ne.2 (by omega)
    have HE:=hid e;clear e;go_wp2
    go_roundw
    case rel=>
     refine⟨k+1,by omega,.inl (by have:=KC.out;omega),by go_num,λi y h1 h2 hy=>?_,rfl⟩;by_cases g:i=k
     ·subst g
      have:=HX.out.symm.trans hy;simp at this;subst this;rw[HP.out];exact HE.out
     ·exact HN.out i y h1 (by omega) hy
    case measure=>simp[intOf];omega
  ·go_wp2
   go_ret;refine⟨qc ?_,by rw[yh.out];rw[yh.out]at hB;exact hB⟩;have:r=0:=by
    rcases hA.out with⟨m,h1,h2,h3⟩|⟨h1,h2⟩
    ·have hl:=(List.getElem?_eq_some_iff.1 h2).1
     have:=KC.out;exact absurd rfl (HN.out r _ h1 (by omega) h2)
    ·exact h1
   rw[this];rfl
theorem zk3:∀i,i<15->∀j,j<15->xe i=xe j->i=j:=by decide+kernel
theorem zk4:∀i,i<15->((xe i).toNat=79↔i=3):=by decide+kernel
theorem zk5:∀i,i<15->((xe i).toNat=69↔i=11):=by decide+kernel
def zk6(m:Nat)(w:World)(v:Value)(wr:World):Prop:=∃k:Nat,k<=m/\v=.int .i64 (k:Int)/\wr=w
theorem zk7(m c:Nat)(hm:m<=14)(hc:Hid (c=(xe m).toNat)):Calls prog 173 #[.int .u8 (c:Int)] w λe w'=>e=.returned (.int .i64 (cnt m:Nat))/\w'=w:=by
 have DI:=zk4 m (by omega);have DJ:=zk5 m (by omega);rw[←hc.out]at DI DJ;by_cases h3:m=3
 ·have e:c=79:=DI.2 h3
  subst e;subst h3;clear DI DJ;go_enter func173,ntmps173;go_wp2;go_ret;exact⟨rfl,rfl⟩
 by_cases h11:m=11
 ·have e:c=69:=DJ.2 h11
  subst e;subst h11;clear DI DJ;go_enter func173,ntmps173;go_wp2;go_ret;exact⟨rfl,rfl⟩
 have t3:((c:Int)==79)=false:=beq_eq_false_iff_ne.2 (λh=>h3 (DI.1 (by omega)));have t11:((c:Int)==69)=false:=beq_eq_false_iff_ne.2 (λh=>h11 (DJ.1 (by omega)));have hcn:cnt m=m:=by unfold cnt;rw[if_neg h3,if_neg h11]
 rw[hcn];clear DI DJ hcn;go_enter func173,ntmps173;go_wp2
 go_loopw [3] (λv wr=>zk6 m w v wr) (λv _=>15-(intOf v).toNat)
 case atStart=>exact⟨0,Nat.zero_le _,rfl,rfl⟩
 case round=>
  obtain⟨k,hk,rfl,rfl⟩:=hrel;have hlt:(k:Int)<15:=by omega
  have F7:k<l7.size:=by show k<15;omega
  have q0:(0:Int)<=(k:Int):=by omega
  have hel:(l7[k].toNat:Int)=((xe k).toNat:Int):=by unfold xe;rw[zT F7]
  by_cases e:k=m
  ·subst e
   have t1:((l7[k].toNat:Int)==(c:Int))=true:=by rw[hel,hc.out];simp
   unfold l7 at t1 F7;go_wp2;go_ret;exact⟨rfl,rfl⟩
  ·have t1:((l7[k].toNat:Int)==(c:Int))=false:=by
    rw[hel,hc.out,beq_eq_false_iff_ne];intro h;exact e (zk3 k (by omega) m (by omega) (UInt8.toNat_inj.1 (by omega)))
   unfold l7 at t1 F7;go_wp2
   go_roundw
   case rel=>exact⟨k+1,by omega,by go_num,rfl⟩
   case measure=>simp[intOf];omega
end
open _root_.Nat renaming le_refl->waa,zero_add->wac,lt_of_lt_of_le->wae
open _root_.Go.World renaming size_alloc->waf
open _root_.Go.RowKit.Below renaming refl->wag
open _root_.List renaming getElem?_eq_some_iff->wak,getElem?_eq_getElem->wal,length_append->wam
set_option maxRecDepth 100000
theorem zlb{f:FuncId}{fn:Func}(hf:prog.funcs[f]?=some fn)(hname:(fn.name== "runtime.NumGoroutine")=false)(hb:fn.body.isSome=true)(args:Array Value)(w:World):(callFunc f args).run prog w=.ok (.enter f args) w:=by
 have h1:fn.name≠ "runtime.NumGoroutine":=by simpa using hname
 obtain⟨c,hc⟩:=Option.isSome_iff_exists.1 hb;simp[callFunc,hf,h1,hc]
theorem GL{ops:Array Oper}{o:Oper}{a:Act}{w:World}{K:Act->World->Prop}{Q:Exit->Act->World->Prop}{E:Prop}(hgd:o.guard=none){f:FuncId}{fn:Func}(hf:prog.funcs[f]?=some fn)(hname:(fn.name== "runtime.NumGoroutine")=false)(hb:fn.body.isSome=true)(args:List Operand)(Eo:Array TypeId)
 (ho:o.op=.call {callee:=.value (.func f),args:=args.toArray,argTypes:=Eo})(vs:List Value)(hv:args.map a.eval=vs)(R:Value->World->Prop)
 (hc:Calls prog f vs.toArray w λe w'=>∃v,e=.returned v/\R v w')(h:∀v w',R v w'->K (a.put o.dst v) w'):
  if Region.wanted o (yielded ops a.tmps)=true then Oper.wp prog o a w K Q else E:=by
 have hw:Region.wanted o (yielded ops a.tmps)=true:=by simp[Region.wanted,hgd]
 rw[if_pos hw];have e1:a.eval (.func f)=.func (.func f) #[] #[]:=rfl;unfold Oper.wp execOp;simp only[ho,resolve,List.map_toArray,hv,e1,Deferred.ofValue,invoke,Sem.run_bind,Sem.run_pure,Result.andThen_ok,Array.empty_append,Array.append_empty,zlb hf hname hb];rw[Oper.upon_enter];refine hc.mono ?_;rintro e w' ⟨v,rfl,hr⟩;exact h v w' hr
theorem zlc:(prog.info? 112).map (λi=>(i.zero,i.size,i.bytes))=some (some (.agg #[.string ⟨#[]⟩,.slice none 0 0,.bool false]),3,48):=by kernel_rfl
structure RV where
 S:ByteArray
 g:Nat
 n:Nat
 cap:Nat
def Jj(r:RV)(fr:Bool):List Value:=[.string r.S,.slice (some ⟨r.g,0,none⟩) r.n r.cap,.bool fr]
def KI(s:ByteArray)(rv:Nat->RV)(c:Nat):List Value:=(List.range c).flatMap λi=>Jj (rv i) (zU s i).fresh
theorem TC(s:ByteArray)(rv:Nat->RV)(c:Nat):KI s rv (c+1)=KI s rv c++Jj (rv c) (zU s c).fresh:=by
 unfold KI;rw[List.range_succ,List.flatMap_append];simp
theorem oP(s:ByteArray)(rv:Nat->RV):∀c,(KI s rv c).length=c*3
 |0=>rfl
 |c+1=>by
  rw[TC,wam,oP s rv c];simp[Jj];omega
theorem zld{s:ByteArray}{rv F9:Nat->RV}{c:Nat}(h:∀i,i<c->rv i=F9 i):KI s rv c=KI s F9 c:=by
 induction c with
 |zero=>rfl
 |succ c ih=>rw[TC,TC,ih (λi hi=>h i (by omega)),h c (by omega)]
theorem zch{s:ByteArray}{rv:Nat->RV}:∀{c i:Nat},i<c->∀d v,(Jj (rv i) (zU s i).fresh)[d]?=some v->(KI s rv c)[i*3+d]?=some v
 |0,i,h,_,_,_=>by omega
 |c+1,i,h,d,v,hv=>by
  have hd:d<3:=(wak.1 hv).1;rw[TC];by_cases e:i=c
  ·subst e
   rw[List.getElem?_append_right (by rw[oP];omega),oP,show i*3+d-i*3=d by omega];exact hv
  ·rw[List.getElem?_append_left (by rw[oP];omega)]
   exact zch (by omega) d v hv
structure Vu(w:World)(base ab Yq c:Nat)(s:ByteArray)(rv:Nat->RV):Prop where
 own:w.ownsRow base 112 3 (.slice (some ⟨ab,0,none⟩) c Yq) c (KI s rv c)
 rows:∀i,i<c->Rv w (zU s i).st (rv i).S (rv i).g (rv i).n (rv i).cap/\base<=(rv i).g/\(rv i).g≠ab
theorem Vu.lt{w:World}{base ab Yq c:Nat}{s:ByteArray}{rv:Nat->RV}(h:Vu w base ab Yq c s rv):ab<w.heap.size:=kK h.own ab rfl
theorem Vu.ge{w:World}{base ab Yq c:Nat}{s:ByteArray}{rv:Nat->RV}(h:Vu w base ab Yq c s rv):base<=ab:=xx h.own ab rfl
theorem Vu.below{w w':World}{base ab Yq c:Nat}{s:ByteArray}{rv:Nat->RV}(h:Vu w base ab Yq c s rv)(hb:Below w.heap.size w w'):Vu w' base ab Yq c s rv:=
 ⟨uh h.own hb,λi hi=>⟨(h.rows i hi).1.below hb,(h.rows i hi).2⟩⟩
theorem Vu.cells{w:World}{base ab Yq c:Nat}{s:ByteArray}{rv:Nat->RV}(h:Vu w base ab Yq c s rv){i:Nat}(hi:i<c):
  w.cell? ⟨ab,i*3,none⟩=some (.string (rv i).S)/\w.cell? ⟨ab,i*3+1,none⟩=some (.slice (some ⟨(rv i).g,0,none⟩) (rv i).n (rv i).cap)/\w.cell? ⟨ab,i*3+2,none⟩=some (.bool (zU s i).fresh):=by
 have hc:∀d v,(Jj (rv i) (zU s i).fresh)[d]?=some v->w.cell? ⟨ab,i*3+d,none⟩=some v:=λd v hv=>by
  have:=h.own.cells (g:=ab) rfl _ v (zch hi d v hv)
  rwa [Addr.add_lit,wac]at this
 have h0:=hc 0 _ rfl;rw[Nat.add_zero]at h0;exact⟨h0,hc 1 _ rfl,hc 2 _ rfl⟩
theorem Vu.next{w w2 X w':World}{base ab Yq c g2 c2:Nat}{s:ByteArray}{rv:Nat->RV}(h:Vu w base ab Yq c s rv)(hb:Below w.heap.size w w2)(hX:Below w2.heap.size w2 X)(r:RV)(hR:Rv w2 (zU s c).st r.S r.g r.n r.cap)(hr:base<=r.g)(hra:r.g≠ab)(hgr:X.grownBy w' (some ab))
 (hown:w'.ownsRow base 112 3 (.slice (some ⟨g2,0,none⟩) (c+1) c2) (c+1) (KI s rv c++Jj r (zU s c).fresh))(hg:g2=ab\/w2.heap.size<=g2):
  Vu w' base g2 c2 (c+1) s (λi=>if i=c then r else rv i):=by
 have hF:∀{b:Nat},b<w2.heap.size->b≠ab->w'.heap[b]?=w2.heap[b]?:=λ{b} h1 h2=>(hgr.block b (wae h1 hX.size) (by simpa using h2)).trans (hX.block b h1);have hFr:zg (λk=>k=ab) w2 w':=(zg.of_below hX (p:=λk=>k=ab)).grown hgr (λk hk=> .inl (by simpa using hk.symm));have hab:=h.lt;refine⟨?_,λi hi=>?_⟩
 ·rw[TC,zld (F9:=rv) (λi hi=>if_neg (by omega))]
  simp only[if_true];exact hown
 ·by_cases e:i=c
  ·subst e
   simp only[if_true];refine⟨hR.zh hFr hra,hr,?_⟩;rcases hg with rfl|hg
   ·exact hra
   ·have:=hR.lt;omega
  ·simp only[if_neg e]
   obtain⟨h1,h2,h3⟩:=h.rows i (by omega);have h4:=h1.below hb;refine⟨h4.zh hFr h3,h2,?_⟩;rcases hg with rfl|hg
   ·exact h3
   ·have:=h4.lt;omega
theorem zle{ops:Array Oper}{o:Oper}{a:Act}{w:World}{K:Act->World->Prop}{Q:Exit->Act->World->Prop}{E:Prop}(hgd:o.guard=none)(s x:Operand)
 (ho:o.op=.call {callee:=.builtin .append,args:=#[s,x],argTypes:=#[171,171]})
 (base:Nat)(v0:Value)(n0:Nat)(yI:List Value)(hs:a.eval s=v0)(hown:w.ownsRow base 112 3 v0 n0 yI)(b:Nat)(r:RV)(fr:Bool)
 (hx:a.eval x=.slice (some ⟨b,0,none⟩) 1 1)(hb:zf w b (Jj r fr).toArray 112)(hl:n0<=1000000)(hbase:base<=w.heap.size)
 (h:∀g' c' w',w'.ownsRow base 112 3 (.slice (some ⟨g',0,none⟩) (n0+1) c') (n0+1) (yI++Jj r fr)->w.grownBy w' v0.ownBlock->(v0.ownBlock=some g'\/g'=w.heap.size)->K (a.put o.dst (.slice (some ⟨g',0,none⟩) (n0+1) c')) w'):
  if Region.wanted o (yielded ops a.tmps)=true then Oper.wp prog o a w K Q else E:=by
 have hw:Region.wanted o (yielded ops a.tmps)=true:=by simp[Region.wanted,hgd]
 rw[if_pos hw];obtain⟨i,hi,hz,hsize,hby⟩:=info_parts zlc;have hnews:∀j u,(Jj r fr)[j]?=some u->w.cell? ((⟨b,0,none⟩:Addr).add j)=some u:=by
  intro j u hj;rw[Addr.add_lit,hb.cell,wac];simpa using hj
 obtain⟨v',w',hr',h2,h3,h4,h5⟩:=run_append_own_at (P:=prog) w base 171 o.type 112 i _ 3 48 underlying171 hi hz hsize hby rfl (by omega) _ n0 yI hown ⟨b,0,none⟩ 1 1 (Jj r fr) rfl hnews
  (by intro u hu;simp[Jj]at hu;rcases hu with rfl|rfl|rfl<;>rfl) (by unfold maxLen;omega) (by omega) hbase
 unfold Oper.wp execOp;simp only[ho,resolve,invoke,builtin,Sem.run_bind,Sem.run_pure,Result.andThen_ok,List.map_toArray,List.map_cons,List.map_nil,hs,hx,hr'];rcases h2.2 with⟨hv,hn⟩|⟨g',c',cur,hv,h6⟩
 ·omega
 ·subst hv
  refine h g' c' w' h2 h3 ?_;rcases h5 with h5|h5
  ·exact .inl h5.symm
  ·exact .inr (by simpa[Value.ownBlock]using h5)
def X0(s:ByteArray)(f:Nat):List zQ:=(uG s f).map (prt s)
theorem Ha(s:ByteArray)(f:Nat):(X0 s f).length=idx s f:=by unfold X0 idx;simp
theorem He(s:ByteArray)(f:Nat):X0 s (f+1)=X0 s f++if born s f=true then [prt s f]else []:=by
 unfold X0;rw[Hf,List.map_append];congr 1;split<;>rfl
theorem Yc(s:ByteArray)(f:Nat):(prt s f).zh=f:=by
 unfold prt;split
 ·rw[(zci _ _ _ _).1,(TA _ _ _).1]
 ·exact(TA _ _ _).1
theorem Ju{s:ByteArray}{f:Nat}(hb:born s f=true)(hf:f<s.size):prt s f=if cnt (md s (eK s f s.size) f)=12 then⟨12,f,f+1+uF s (f+1),Xk s f,false⟩else⟨cnt (md s (eK s f s.size) f),f,if eK s f s.size=s.size then s.size else eK s f s.size+1,Xk s f,decide (eK s f s.size=s.size)⟩:=by
 unfold prt;by_cases h:eK s f s.size=s.size
 ·have hp:zN s s.size f=true:=by
   have:=G7 (s:=s) (f:=f) (k:=s.size) (j:=s.size) hf;exact this (by omega)
  rw[if_pos h,DK hp,h];unfold Xj;simp only[if_true,decide_true];split<;>simp[*]
 ·rw[if_neg h]
  unfold vN;rw[if_neg h];unfold Xj;simp only[if_neg h,decide_eq_false h];split<;>simp[*]
theorem MJ{s:ByteArray}{f:Nat}(hb:born s f=true)(hf:f<s.size):f+1<=eK s f s.size:=by
 apply Classical.byContradiction;intro g;have h1:eK s f s.size=f:=by unfold eK at g ⊢;omega
 have h2:=ML (s:=s) (f:=f) (k:=s.size) (by omega) (by omega);rw[h1]at h2;unfold born at hb;rw[hb]at h2;cases h2
def X3(s:ByteArray)(f k:Nat):Int:=match xR s f with
 | []=> -1
 |x::_=>if idx s x.2<k then(idx s x.2:Nat)else -1
theorem zlf(s:ByteArray)(f:Nat):X3 s f 0= -1:=by unfold X3;split<;>simp
theorem zcj{s:ByteArray}{f:Nat}(hb:born s f=true){m g:Nat}{R:List Fr}(h:xR s f=(m,g)::R):born s g=true/\g<f:=by
 have h1:=Jt hb;have hp:zN s (f+1) g=true:=MG (A:=[(md s (f+1) f,f)]) (R:=R) (m:=m) (by rw[h1,h];rfl);refine⟨DF hp,?_⟩;have h2:=Xv s (f+1);rw[h1,h,List.pairwise_cons]at h2;exact h2.1 (m,g) (by simp)
theorem zlg{s:ByteArray}{f:Nat}(hb:born s f=true):X3 s f (idx s f)=Xk s f:=by
 unfold X3 Xk
 cases h:xR s f with
 |nil=>rfl
 |cons x R=>
  obtain⟨hg,hlt⟩:=zcj (m:=x.1) (g:=x.2) (R:=R) hb h;simp only;rw[if_pos (O6 hg hlt)]
theorem zlh{s:ByteArray}{f:Nat}(hb:born s f=true){m g:Nat}{R:List Fr}(h:xR s f=(m,g)::R):(zU s (f+1)).st.reverse[R.length+1]?=some (m,g):=by
 rw[F6,Jt hb,h];simp
theorem zli{s:ByteArray}{f k:Nat}{m g:Nat}{R:List Fr}(h:xR s f=(m,g)::R):X3 s f (k+1)=if idx s g=k then((k:Nat):Int)else X3 s f k:=by
 unfold X3;rw[h];simp only;by_cases e:idx s g=k
 ·subst e
  simp
 ·rw[if_neg e]
  by_cases h2:idx s g<k
  ·rw[if_pos h2,if_pos (by omega)]
  ·rw[if_neg h2,if_neg (by omega)]
theorem zck{s:ByteArray}{f k:Nat}(h:xR s f=[]):X3 s f k= -1:=by unfold X3;rw[h]
def zlj(s:ByteArray)(w:World)(v3 v4:Value)(wr:World):Prop:=
 ∃i ab Yq rv,i<=s.size/\v4=.int .i64 (i:Nat)/\v3=.slice (some ⟨ab,0,none⟩) (i+1) Yq/\Vu wr w.heap.size ab Yq (i+1) s rv/\Below w.heap.size w wr
theorem zcl{ops:Array Oper}{rest:List Oper}{o:Oper}{a:Act}{w:World}{Q:Exit->Act->World->Prop}(hgd:o.guard=none)(s x:Operand)
 (ho:o.op=.call {callee:=.builtin .append,args:=#[s,x],argTypes:=#[133,133]})
 (base:Nat)(v0:Value)(n0:Nat)(yI:List Value)(hs:a.eval s=v0)(hown:w.ownsRow base 136 5 v0 n0 yI)(b:Nat)(p:zQ)
 (hx:a.eval x=.slice (some ⟨b,0,none⟩) 1 1)(hb:zf w b (jr p).toArray 136)(hl:n0<=1000000)(hbase:base<=w.heap.size)
 (h:∀g' c' w',w'.ownsRow base 136 5 (.slice (some ⟨g',0,none⟩) (n0+1) c') (n0+1) (yI++jr p)->w.grownBy w' v0.ownBlock->wpList prog ops Q rest (a.put o.dst (.slice (some ⟨g',0,none⟩) (n0+1) c')) w'):wpList prog ops Q (o::rest) a w:=by
 refine wpList_plain hgd λ_ hK=>?_;obtain⟨i,hi,hz,hsize,hby⟩:=info_parts zbV;have hnews:∀j u,(jr p)[j]?=some u->w.cell? ((⟨b,0,none⟩:Addr).add j)=some u:=by
  intro j u hj;rw[Addr.add_lit,hb.cell,wac];simpa using hj
 obtain⟨v',w',hr',h2,h3,h4,h5⟩:=run_append_own_at (P:=prog) w base 133 o.type 136 i _ 5 40 underlying133 hi hz hsize hby rfl (by omega) v0 n0 yI hown ⟨b,0,none⟩ 1 1 (jr p) rfl hnews
  (by intro u hu;simp[jr]at hu;rcases hu with rfl|rfl|rfl|rfl|rfl<;>rfl) (by unfold maxLen;omega) (by omega) hbase
 unfold Oper.wp execOp;simp only[ho,resolve,invoke,builtin,Sem.run_bind,Sem.run_pure,Result.andThen_ok,List.map_toArray,List.map_cons,List.map_nil,hs,hx,hr'];rcases h2.2 with⟨hv,hn⟩|⟨g',c',cur,hv,h6⟩
 ·omega
 ·subst hv
  exact hK _ _ (h g' c' w' h2 h3)
theorem zcm(s:ByteArray):uq s s.size=0:=by have:=mg s s.size;omega
theorem zlk(s:ByteArray):uF s s.size=0:=by
 unfold uF;rw[zcm,if_neg (by omega),if_neg (by omega)]
theorem zll(s:ByteArray)(k N:Nat)(w:World)(hs:s.size<=1000000)(hk:k<=s.size)(hN:Hid (uF s k=N)):
  Calls prog 174 #[.string s,.int .i64 (k:Int)] w λe w'=>e=.returned (.int .i64 (N:Int))/\w'=w:=by
 rw[←hN.out];by_cases h:k<s.size
 ·exact zkz s k w hs h
 ·obtain rfl:k=s.size:=by omega
  rw[zlk];have hd2:decide (s.size<s.size)=false:=by simp
  have hn:=λw=>zbR s s.size w hs (waa _);rw[zcm]at hn;have HN:=hid hn;clear hn hN h;go_enter func174,ntmps174
  go_wp2_with fail
  refine(HN.out _).mono ?_;rintro e w' ⟨rfl,rfl⟩;go_wp2;go_ret;exact⟨rfl,rfl⟩
def Qq(w:World)(pb:Nat)(m f t:Nat)(up:Int)(op:Bool):Prop:=zf w pb #[.int .i64 (m:Int),.int .i64 (f:Int),.int .i64 (t:Int),.int .i64 up,.bool op] 136
def zlm(s:ByteArray)(w:World)(pb f on:Nat)(v9:Value)(wr:World):Prop:=
 ∃k,v9=.int .i64 (k:Nat)/\k<=on/\Qq wr pb 0 f s.size (X3 s f k) true/\zg (λb=>b=pb) w wr
def zln(s:ByteArray)(w:World)(pb f:Nat)(up:Int)(v10:Value)(wr:World):Prop:=
 ∃k m,v10=.int .i64 (k:Nat)/\f+1<=k/\k<=s.size+1/\(∀j,f<j->j<k->zN s j f=true)/\m=(if k=f+1 then 0 else cnt (md s (k-1) f))/\Qq wr pb m f s.size up true/\zg (λb=>b=pb) w wr
def zlo(s:ByteArray)(w:World)(v5 v6:Value)(wr:World):Prop:=
 ∃f,f<=s.size/\v6=.int .i64 (f:Nat)/\QL wr w.heap.size v5 (X0 s f)/\Below w.heap.size w wr
section
variable(w:World)
theorem zeP(s:ByteArray)(hs:s.size<=60000):
  Calls prog 140 #[.string s] w λe w'=>(∃v,e=.returned v/\QL w' w.heap.size v (PL s))/\Below w.heap.size w w':=by
 go_enter func140,ntmps140
 go_wp2_with fail
 refine(Bv _).mono ?_;rintro e w1 ⟨S1,g1,n1,cap1,rfl,hR1,hb1,hg1⟩;go_wp2
 go_loopw [3,4] (λv3 v4 wr=>zlj s w v3 v4 wr) (λ_ v _=>s.size-(intOf v).toNat)
 case atStart=>
  have hR2:=hR1.below ((wag w1.heap.size w1).alloc (waa _) (.cells #[.string S1,.slice (some ⟨g1,0,none⟩) n1 cap1,.bool true] 112));have hs1:=hb1.size;have hlt:=hR1.lt;refine⟨0,w1.heap.size,1,λ_=>⟨S1,g1,n1,cap1⟩,Nat.zero_le _,rfl,rfl,⟨⟨rfl,.inr ⟨_,1,_,rfl,hs1,zf.new w1 _ _,waa _,by unfold maxLen;omega,rfl,rfl⟩⟩,λi hi=>?_⟩,hb1.alloc hs1 _⟩;obtain rfl:i=0:=by omega
  exact⟨hR2,by show w.heap.size<=g1;omega,by show g1≠_;omega⟩
 case round=>
  obtain⟨i,ab,Yq,rv,hi,rfl,rfl,hA,hB⟩:=hrel;clear hR1 hb1 hg1;by_cases hlt:(i:Int)<s.size
  ·have hlt':i<s.size:=by omega
   obtain⟨d0,d1,d2⟩:=hA.cells (i:=i) (by omega);obtain⟨hRi,hgi,hni⟩:=hA.rows i (by omega);have hI:=Yz s i;have hlen:=gQ s i;have hsucc:=Jv s i;obtain⟨r,hr⟩:∃r,rv i=r:=⟨_,rfl⟩;rw[hr]at d0 d1 hRi hgi hni;obtain⟨S,g,n,cap⟩:=r;simp only at d0 d1 hRi hgi hni;have hby:(s[i].toNat:Int)=(by8 s i:Nat):=by unfold by8;rw[zT hlt']
   have hstep:=λW (h:Below wr.heap.size wr W)=>BH W (by8 s i) i S g n cap (zU s i) hI (hRi.below h) (by omega);rw[←hsucc]at hstep;obtain⟨fr,hfr⟩:∃fr,(zU s i).fresh=fr:=⟨_,rfl⟩;rw[hfr]at d2 hstep;obtain⟨b,hb⟩:∃b,by8 s i=b:=⟨_,rfl⟩;rw[hb]at hby hstep;obtain⟨c,hc⟩:∃c,i+1=c:=⟨_,rfl⟩;rw[hc]at hA hstep ⊢;have hstep2:=λW (h:Below wr.heap.size wr W)=>(hstep W h).mono (R':=λe w'=>∃v,e=.returned v/\∃S2 g2 n2 cap2,v=.agg #[.string S2,.slice (some ⟨g2,0,none⟩) n2 cap2,.bool (zU s c).fresh]/\Rv w' (zU s c).st S2 g2 n2 cap2/\Below W.heap.size W w'/\(g2=g\/W.heap.size<=g2)) (by
    rintro e w' ⟨S2,g2,n2,cap2,rfl,h1,h2,h3⟩;exact⟨_,rfl,S2,g2,n2,cap2,rfl,h1,h2,h3⟩)
   have HST:=hid hstep2;have HA:=hid hA;have q0:(0:Int)<=(i:Int):=by omega
   have q1:(i:Int)<(c:Int):=by omega
   have hcl:c<=1000000:=by omega
   have hbs:=hB.size;have hal:=hA.lt;have zoP:=hA.ge;obtain⟨fc,hfc⟩:∃fc,(zU s c).fresh=fc:=⟨_,rfl⟩;have HFC:=hid hfc;rw[hfc]at HST;have e1:IntKind.i64.wrap ((i:Int)+1)=(c:Int):=by rw[IntWalk.i64_in _ (by omega)];omega
   have uw:=hid hc;clear hstep hstep2 hA hI hsucc hb hr hfr hRi hc hfc;go_wp2
   go_region_law (first
    |(refine GL (by rfl) func114 (by kernel_rfl) (by kernel_rfl) _ _ (by rfl) [.agg #[.string S,.slice (some ⟨g,0,none⟩) n cap,.bool fr],.int .u8 (b:Int),.int .i64 (i:Int)] (by rfl) _ (HST.out _ (wag _ _).drew) ?_;intro v w2 hh;obtain⟨S2,g2,n2,cap2,hv,hR2,hb2,hg2⟩:=hh;subst hv;have hA2:=(HA.out.below (wag _ _).drew).below hb2;have hB2:=hB.drew.trans (hb2.mono hbs))
    |(refine zle (by rfl) _ _ (by rfl) w.heap.size (.slice (some ⟨ab,0,none⟩) c Yq) c (KI s rv c) (by rfl) (hA2.below ((wag _ _).alloc (waa _) _)).own w2.heap.size ⟨S2,g2,n2,cap2⟩ fc (by rfl) (zf.new w2 _ _) hcl (by have:=hB2.size;rw[waf];omega) ?_;intro g3 c3 w3 hown hgr hg3))
   all_goals
    go_wp2
    go_roundw
    case rel=>
     have hg3':g3=ab\/w2.heap.size<=g3:=by
      rcases hg3 with h|h
      ·exact .inl (by simpa[Value.ownBlock]using h.symm)
      ·exact .inr (by rw[h,waf];omega)
     have zlp:w.heap.size<=g2:=by
      rcases hg2 with h|h
      ·rw[h];exact hgi
      ·exact Nat.le_trans hbs h
     have zlq:g2≠ab:=by
      rcases hg2 with h|h
      ·rw[h];exact hni
      ·have:wr.drew.heap.size=wr.heap.size:=rfl
       omega
     have hN:=hA2.next (w2:=w2) (X:=w2.alloc (.cells (Jj ⟨S2,g2,n2,cap2⟩ fc).toArray 112)) (wag _ _) ((wag _ _).alloc (waa _) _) ⟨S2,g2,n2,cap2⟩ hR2 zlp zlq hgr (by rw[HFC.out];exact hown) hg3';refine⟨c,g3,c3,_,by have:=uw.out;omega,rfl,rfl,hN,?_⟩;exact((hB2.alloc hB2.size _).grown hgr (by have:=hB2.size;rw[waf];omega) (λk hk=>by
      have:ab=k:=by simpa[Value.ownBlock]using hk
      omega))
    case measure=>have:=uw.out;simp[intOf];omega
  ·obtain rfl:i=s.size:=by omega
   obtain⟨W1,rfl⟩:∃W1,W1=wr:=⟨wr,rfl⟩;obtain⟨c,hc⟩:∃c,s.size+1=c:=⟨_,rfl⟩;rw[hc]at hA ⊢;have HA:=hid hA;have HB:=hid hB;have uw:=hid hc;clear hA hB hc hlt;go_wp2
   go_loopw [5,6] (λv5 v6 wr=>zlo s W1 v5 v6 wr) (λ_ v _=>s.size-(intOf v).toNat)
   case atStart=>exact⟨0,Nat.zero_le _,rfl,⟨rfl,.inl ⟨rfl,rfl⟩⟩,wag _ _⟩
   case round=>
    obtain⟨f,hf,rfl,hP,hB⟩:=hrel;obtain⟨oa,oc,rfl⟩:=Xw hP;by_cases hlt:(f:Int)<s.size
    ·have hlt':f<s.size:=by omega
     obtain⟨f1,hf1⟩:∃f1,f+1=f1:=⟨_,rfl⟩;have Hg:f1<c:=by have:=uw.out;omega
     have hAr:=HA.out.below (hB.mono (waa _));obtain⟨d0,d1,d2⟩:=hAr.cells Hg;obtain⟨Qr,hgf,hnf⟩:=hAr.rows f1 Hg;obtain⟨r,hr⟩:∃r,rv f1=r:=⟨_,rfl⟩;rw[hr]at d0 d1 Qr hgf hnf;obtain⟨S,g,n,cap⟩:=r;simp only at d0 d1 Qr hgf hnf;have hlen:=gQ s f1;obtain⟨fr,hfr⟩:∃fr,(zU s f1).fresh=fr:=⟨_,rfl⟩;rw[hfr]at d2;have zcn:=hid (λx=>zk1 s x f);have HAT:=hid (λW r (h:Below wr.heap.size wr W) (hr:VU s f1 f=r)=>oO W (zU s f1).st S g n cap fr f r (Qr.below h) (by omega) (hid (by rw[←hr];exact zcn.out f1)));have e1:IntKind.i64.wrap ((f:Int)+1)=(f1:Int):=by rw[IntWalk.i64_in _ (by omega)];omega
     have q0:(0:Int)<=(f1:Int):=by omega
     have q1:(f1:Int)<(c:Int):=by omega
     obtain⟨on,hon⟩:∃on,(X0 s f).length=on:=⟨_,rfl⟩;have qg:=hid hon;rw[hon]at hP ⊢;have HP:=hid hP;have HR:=hid Qr;have HRV:=hid hr;have qR:=hid hf1;have hmono:=hB.size;by_cases hb:born s f=true
     ·have hpr:zN s f1 f=true:=by rw[←hf1];exact hb
      have hat:VU s f1 f=(xR s f).length+1:=by unfold VU;rw[if_pos hpr]
      obtain⟨z,hz⟩:∃z,VU s f1 f=z:=⟨_,rfl⟩;have hzp:z=(xR s f).length+1:=by omega
      have hzb:z<=100000:=by
       have h1:=Jt (show zN s (f+1) f=true from hb);have h2:=oI s (f+1);rw[h1]at h2;simp at h2;omega
      have t0:((z:Int)==0)=false:=beq_eq_false_iff_ne.2 (by omega);have HZ:=hid hz;have Qs:=hid hzp;have ZJ:=hid hb;have qw:=hid hpr;clear hP Qr hr hf1 hon hb hat hz hzp hpr hfr
      go_wp2_with fail
      refine(HAT.out _ z (wag _ _) HZ.out).mono ?_;rintro e w2 ⟨rfl,hb2⟩;go_wp2;obtain⟨W2,hW2⟩:∃W2,W2=w2.alloc (.cells #[.int .i64 0,.int .i64 (f:Int),.int .i64 (s.size:Int),.int .i64 (-1),.bool true] 136):=⟨_,rfl⟩;have hp2:Qq W2 w2.heap.size 0 f s.size (X3 s f 0) true:=by rw[hW2,zlf];exact zf.new _ _ _
      have oQ:Below wr.heap.size wr W2:=by rw[hW2];exact hb2.alloc hb2.size _
      rw[←hW2];have Hl:wr.heap.size<=w2.heap.size:=hb2.size;obtain⟨pb,hpb⟩:∃pb,w2.heap.size=pb:=⟨_,rfl⟩;rw[hpb]at hp2 Hl ⊢;obtain⟨V,hV⟩:∃V,V=wr:=⟨_,rfl⟩;rw[←hV]at oQ Hl HP HR hB hmono;have zoQ:V.heap.size<=pb:=Hl;have zoR:on<=60000:=by
       have h1:=qg.out;have h2:=oL s f;rw[Ha]at h1;unfold idx at h1;omega
      have TD:Vu V w.heap.size ab Yq c s rv:=by rw[hV];exact hAr
      have hPV:=HP.out;clear hW2 hpb hV hb2 HAT d0 d1 d2 hAr;have hkeep:∀X,zg (λb=>b=pb) W2 X->zg (λb=>b=pb) V X:=λX h=>(zg.of_below oQ (p:=λb=>b=pb)).trans h (λ_ _ h=>h);have hAX:∀X,zg (λb=>b=pb) V X->∀i,i<c->X.cell? ⟨ab,i*3,none⟩=some (.string (rv i).S)/\X.cell? ⟨ab,i*3+1,none⟩=some (.slice (some ⟨(rv i).g,0,none⟩) (rv i).n (rv i).cap)/\X.cell? ⟨ab,i*3+2,none⟩=some (.bool (zU s i).fresh)/\Rv X (zU s i).st (rv i).S (rv i).g (rv i).n (rv i).cap:=by
       intro X hX i hi;have hl:=TD.lt;obtain⟨h0,h1,h2⟩:=TD.cells hi;obtain⟨h3,_,_⟩:=TD.rows i hi;have hl3:=h3.lt;have hne:¬(ab=pb):=by omega
       exact⟨(hX.cell hl hne).trans h0,(hX.cell hl hne).trans h1,(hX.cell hl hne).trans h2,h3.zh hX (by omega)⟩
      have hPX:∀X,zg (λb=>b=pb) V X->X.ownsRow W1.heap.size 136 5 (.slice oa on oc) on (vC (X0 s f)):=by
       intro X hX;have h1:V.ownsRow W1.heap.size 136 5 (.slice oa on oc) on (vC (X0 s f)):=by
        have:=hPV;unfold QL at this;rw[qg.out]at this;exact this
       exact xq hX h1 (λk hk e=>by
        have:=kK h1 k hk;have e2:k=pb:=e;omega)
      have Hm:=hid hkeep;have HAX:=hid hAX;have Ho:=hid hPX;have zlr:=hid oQ;have HAV:=hid TD;clear hkeep hAX hPX oQ TD hPV HP
      go_loopw [9] (λv9 wr=>zlm s W2 pb f on v9 wr) (λv _=>on-(intOf v).toNat)
      case atStart=>exact⟨0,rfl,Nat.zero_le _,hp2,zg.refl _ _⟩
      case round=>
       obtain⟨k,rfl,hk,hpk,VV⟩:=hrel;clear hp2;by_cases hlt3:(k:Int)<(on:Int)
       ·have hkn:k<on:=by omega
        have q5:(0:Int)<=(k:Int):=by omega
        have p3:wr.cell? ⟨pb,3,none⟩=some (.int .i64 (X3 s f k)):=hpk.cell 3;have pf3:=zf.frozen hpk 3
        cases hbl:xR s f with
        |nil=>
         have hz1:z=1:=by have:=Qs.out;rw[hbl]at this;exact this
         subst hz1;have oU:=hid (show X3 s f (k+1)=X3 s f k by rw[zck hbl,zck hbl]);clear hbl;go_wp2
         go_quiet (fail)
         go_wp2
         go_roundw
         case rel=>exact⟨k+1,by go_num,by omega,by rw[oU.out];exact hpk.drewN _,VV.drewN _⟩
         case measure=>simp[intOf];omega
        |cons x R=>
         obtain⟨m2,g2⟩:=x;have hzz:z=R.length+2:=by have:=Qs.out;rw[hbl]at this;exact this
         obtain⟨x0,x1,x2,x3⟩:=HAX.out wr (Hm.out wr VV) f1 Hg;rw[HRV.out]at x1 x3;simp only at x1 x3;have hba:=zlh ZJ.out hbl;rw[qR.out]at hba;have x4:=x3.p.cell hba;simp only at x4;have hRn:R.length+1<n:=by
          have h1:=(wak.1 hba).1;have h2:=x3.n;simp at h1;omega
         obtain⟨fk,hfk⟩:∃fk,(uG s f)[k]?=some fk:=⟨_,wal (by have:=qg.out;rw[Ha]at this;unfold idx at this;omega)⟩;obtain⟨hik,zls,hfb⟩:=SH hfk;have hPk:(X0 s f)[k]?=some (prt s fk):=by unfold X0;rw[List.getElem?_map,hfk];rfl
         have hpx:=Ho.out wr (Hm.out wr VV);obtain⟨ob,vO,hov,_,_,_,_⟩:=VD hpx (by omega);obtain⟨rfl,rfl⟩:oa=some ⟨ob,0,none⟩/\oc=vO:=by simpa using hov
         clear hov;have x5:wr.cell? ⟨ob,k*5+1,none⟩=some (.int .i64 (fk:Int)):=by
          have:=hpx.cells (g:=ob) rfl (k*5+1) _ (ou hPk 1 _ rfl);rw[Addr.add_lit,wac,Yc]at this;exact this
         have hup:=zli (s:=s) (f:=f) (k:=k) hbl;obtain⟨hgb,hgl⟩:=zcj ZJ.out hbl;have hiff:fk=g2↔idx s g2=k:=by
          constructor
          ·rintro rfl;exact hik
          ·intro h
           have:=G9 s g2 hgb hgl;rw[h,hfk]at this;simpa using this
         obtain⟨rr,hrr⟩:∃rr,R.length+1=rr:=⟨_,rfl⟩;rw[hrr]at x4 hRn;have e2:IntKind.i64.wrap ((z:Int)-1)=(rr:Int):=by rw[IntWalk.i64_in _ (by omega)];omega
         have t5:decide (1<z)=true:=by simp;omega
         have t6:(1:Int)<(z:Int):=by omega
         have q6:(rr:Int)<(n:Int):=by omega
         have q7:(0:Int)<=(rr:Int):=by omega
         have oU:=hid hup;have zco:=hid hiff;clear hbl hzz x0 x2 x3 hba hfk hik zls hfb hPk hpx hup hgb hgl hiff hrr;by_cases heq:fk=g2
         ·subst heq
          go_wp2
          go_quiet (fail)
          go_wp2
          go_roundw
          case rel=>
           refine⟨k+1,by go_num,by omega,?_,(VV.drewN _).put _ _⟩;rw[oU.out,if_pos (by simpa using zco.out)];have:=(hpk.drewN nq).set 3 (.int .i64 ((k:Nat):Int));simpa[Qq]using this
          case measure=>simp[intOf];omega
         ·have t7:((fk:Int)==(g2:Int))=false:=beq_eq_false_iff_ne.2 (by omega)
          have jF:=hid heq;clear heq;go_wp2
          go_quiet (fail)
          go_wp2
          go_roundw
          case rel=>
           refine⟨k+1,by go_num,by omega,?_,VV.drewN _⟩;rw[oU.out,if_neg (λh=>jF.out (zco.out.2 h))];exact hpk.drewN _
          case measure=>simp[intOf];omega
       ·obtain rfl:on=k:=by omega
        have hup:X3 s f on=Xk s f:=by
         have:=qg.out;rw[Ha]at this;rw[←this,zlg ZJ.out]
        rw[hup]at hpk;have Hq:=hid (Hm.out wr VV);obtain⟨U,rfl⟩:∃U,U=wr:=⟨wr,rfl⟩;clear hup VV hlt3;obtain⟨up,Hr⟩:∃up,Xk s f=up:=⟨_,rfl⟩;rw[Hr]at hpk;have zlt:=hid Hr;clear Hr
        go_upto_block 6 with fail
        go_cut [10]from 80 to 104 (λv10 wx=>Qq wx pb (cnt (md s (eK s f s.size) f)) f (if eK s f s.size=s.size then s.size else eK s f s.size+1) up (decide (eK s f s.size=s.size))/\zg (λb=>b=pb) U wx)
        case first=>
         go_wp2
         go_loopw [10] (λv10 wr=>zln s U pb f up v10 wr) (λv _=>s.size+2-(intOf v).toNat)
         case atStart=>exact⟨f1,0,rfl,by have:=qR.out;omega,by have:=qR.out;omega,λj h1 h2=>by have:=qR.out;omega,by rw[if_pos qR.out.symm],hpk,zg.refl _ _⟩
         case round=>
          clear hpk;obtain⟨k,m,rfl,hk1,hk2,hall,hm,hpk,VV⟩:=hrel;by_cases hlt4:(k:Int)<=s.size
          ·have hks:k<=s.size:=by omega
           have hkc:k<c:=by have:=uw.out;omega
           obtain⟨x0,x1,x2,x3⟩:=HAX.out wr (Hq.out.trans VV (λ_ _ h=>h)) k hkc;have q5:(0:Int)<=(k:Int):=by omega
           have q6:(k:Int)<(c:Int):=by omega
           have hlk:=gQ s k;obtain⟨rk,hrk⟩:∃rk,rv k=rk:=⟨_,rfl⟩;rw[hrk]at x0 x1 x3;obtain⟨Sk,gk2,nk,zlu⟩:=rk;simp only at x0 x1 x3;obtain⟨Ht,Hu⟩:∃Ht,(zU s k).fresh=Ht:=⟨_,rfl⟩;rw[Hu]at x2;have zcp:=hid (λr (hr:VU s k f=r)=>oO wr (zU s k).st Sk gk2 nk zlu Ht f r x3 (by omega) (hid (by rw[←hr];exact zcn.out k)));have Jk:=hid hall;have HM:=hid hm;have HX3:=hid x3
           cases hpr:zN s k f with
           |false=>
            have hz0:VU s k f=0:=zcf.2 hpr;have HZ0:=hid hz0;have HPF:=hid hpr;clear hall hm x3 hz0 hpr hrk Hu
            go_wp2_with fail
            refine(zcp.out 0 HZ0.out).mono ?_;rintro e w5 ⟨rfl,hb5⟩;have jU:Qq w5 pb m f s.size up true:=zf.below hpk hb5;have y2:w5.cell? ⟨pb,2,none⟩=some (.int .i64 (s.size:Int)):=jU.cell 2;have y4:w5.cell? ⟨pb,4,none⟩=some (.bool true):=jU.cell 4;have pR:=zf.frozen jU 2;have yf4:=zf.frozen jU 4;have Hw:=(VV.trans (zg.of_below hb5 (p:=λ_=>False)) (λ_ _ h=>h.elim));go_wp2;go_meet
            case rel=>
             have hp0:zN s (f+1) f=true:=ZJ.out;have rQ:k≠f+1:=by rintro rfl;rw[HPF.out]at hp0;cases hp0
             have he:eK s f s.size=k-1:=TE (by omega) (by omega) (λj h1 h2=>Jk.out j h1 (by omega)) (λ_=>by rw[show k-1+1=k by omega];exact HPF.out);have hm2:m=cnt (md s (k-1) f):=by rw[HM.out,if_neg rQ]
             rw[he,if_neg (by omega),show k-1+1=k by omega,show decide (k-1=s.size)=false by simp;omega,←hm2];refine⟨?_,(Hw.put _ _).put _ _⟩;have:=(zf.set jU 2 (.int .i64 ((k:Nat):Int))).set 4 (.bool false);simpa[Qq]using this
           |true=>
            have X9:VU s k f=z:=by unfold VU;rw[if_pos hpr];exact Qs.out.symm
            have HZK:=hid X9;have hsa:=zcg hpr;rw[←Qs.out]at hsa;have hzl:z<(zU s k).st.length:=by have:=(wak.1 hsa).1;simpa using this
            have hSl:=x3.size;have hzS:z<Sk.size:=by omega
            have hby:bt Sk z=xe (md s k f):=by rw[x3.s];exact pF hsa
            obtain⟨cb,hcb⟩:∃cb,cb=(xe (md s k f)).toNat:=⟨_,rfl⟩;have wI:(Sk[z].toNat:Int)=(cb:Int):=by rw[hcb,←hby,zT hzS]
            have zoS:(z:Int)<Sk.size:=by omega
            have q7:(0:Int)<=(z:Int):=by omega
            have WN:=hid (λW=>zk7 W (md s k f) cb (oV s k f) (hid hcb));obtain⟨mk,hmk⟩:∃mk,cnt (md s k f)=mk:=⟨_,rfl⟩;rw[hmk]at WN;have HMK:=hid hmk;have YK:=hid hpr;have zcq:∀W5,Below wr.heap.size wr W5->W5.cell? ⟨ab,k*3,none⟩=some (.string Sk)/\Qq W5 pb m f s.size up true:=by
             intro W5 h5;have hl:=HAV.out.lt;have:=zlr.out.size;refine⟨(h5.cell (p:=⟨ab,k*3,none⟩) ?_).trans x0,zf.below hpk h5⟩;have h1:=Hq.out.size;have h2:=VV.size;show ab<wr.heap.size;omega
            have HK5:=hid zcq;clear hall hm x3 X9 hsa hzl hSl hby hcb hmk hpr zcq hrk Hu
            go_wp2_with fail
            refine(zcp.out z HZK.out).mono ?_;rintro e w5 ⟨rfl,hb5⟩;obtain⟨y0,jU⟩:=HK5.out w5 hb5;have p0:w5.cell? ⟨pb,0,none⟩=some (.int .i64 (m:Int)):=jU.cell 0;have pf0:=zf.frozen jU 0;have Hw:=(VV.trans (zg.of_below hb5 (p:=λ_=>False)) (λ_ _ h=>h.elim));clear x0 x1 x2
            go_wp2_with fail
            refine(WN.out _).mono ?_;rintro e w6 ⟨rfl,rfl⟩;go_wp2
            go_roundw
            case rel=>
             refine⟨k+1,mk,by go_num,by omega,by omega,λj h1 h2=>?_,?_,?_,Hw.put _ _⟩
             ·by_cases e:j=k
              ·rw[e];exact YK.out
              ·exact Jk.out j h1 (by omega)
             ·rw[if_neg (by omega),Nat.add_sub_cancel,HMK.out]
             ·have:=zf.set jU 0 (.int .i64 ((mk:Nat):Int))
              simpa[Qq]using this
            case measure=>simp[intOf];omega
          ·have hke:k=s.size+1:=by omega
           have Qu:=hid hke;have Jk:=hid hall;have HM:=hid hm;clear hall hm hke;go_wp2;go_meet
           case rel=>
            have hke:=Qu.out;have he:eK s f s.size=s.size:=TE (by omega) (waa _) (λj h1 h2=>Jk.out j h1 (by omega)) (λh=>absurd h (Nat.lt_irrefl _));have hm2:m=cnt (md s s.size f):=by
             have:=HM.out;rw[if_neg (by omega)]at this;rw[this,show k-1=s.size by omega]
            rw[he,if_pos rfl,←hm2,decide_eq_true rfl];exact⟨hpk,VV⟩
        case rest=>
         obtain⟨hpk2,hFc⟩:=hcut;clear hpk;have oW:=Ju ZJ.out hlt';rw[zlt.out]at oW;obtain⟨M,hM⟩:∃M,cnt (md s (eK s f s.size) f)=M:=⟨_,rfl⟩;obtain⟨t,ht⟩:∃t,(if eK s f s.size=s.size then s.size else eK s f s.size+1)=t:=⟨_,rfl⟩;obtain⟨op,hop⟩:∃op,decide (eK s f s.size=s.size)=op:=⟨_,rfl⟩;rw[hM,ht,hop]at oW;rw[hM,ht,hop]at hpk2;have hFV:=Hq.out.trans hFc (λ_ _ h=>h);have jT:=hid oW;have HFV:=hid hFV;clear oW hM ht hop hFc hFV;have p0:wc.cell? ⟨pb,0,none⟩=some (.int .i64 (M:Int)):=hpk2.cell 0;by_cases Yp:M=12
         ·subst Yp
          obtain⟨N,hN⟩:∃N,uF s f1=N:=⟨_,rfl⟩;have hfs:f1<=s.size:=by have:=qR.out;omega
          have hNl:N<=60000:=by have:=oD s f1 hfs;omega
          obtain⟨t2,ht2⟩:∃t2,f1+N=t2:=⟨_,rfl⟩;have a2:IntKind.i64.wrap ((f1:Int)+(N:Int))=(t2:Int):=by rw[IntWalk.i64_in _ (by omega)];omega
          have HPA:=hid (λW=>zll s f1 N W (by omega) hfs (hid hN));have TF:prt s f=⟨12,f,t2,up,false⟩:=by rw[jT.out,if_pos rfl,qR.out,hN,ht2]
          replace jT:=hid TF;have p2:wc.cell? ⟨pb,2,none⟩=some (.int .i64 (t:Int)):=hpk2.cell 2;have p4:wc.cell? ⟨pb,4,none⟩=some (.bool op):=hpk2.cell 4;have pf2:=zf.frozen hpk2 2;have pf4:=zf.frozen hpk2 4;clear hN ht2 TF
          go_upto_region 28 with(go_at_call 174;refine(HPA.out _).mono ?_;rintro e w6 ⟨rfl,rfl⟩)
          obtain⟨Z,hZ⟩:∃Z,Z=(w6.setCell ⟨pb,2,none⟩ (.int .i64 (t2:Int))).setCell ⟨pb,4,none⟩ (.bool false):=⟨_,rfl⟩;have VW:Qq Z pb 12 f t2 up false:=by
           have:=(zf.set hpk2 2 (.int .i64 ((t2:Nat):Int))).set 4 (.bool false);rw[hZ];simpa[Qq]using this
          have TG:zg (λb=>b=pb) V Z:=by rw[hZ];exact(HFV.out.put _ _).put _ _
          rw[←hZ];clear hZ p2 p4 pf2 pf4;have z0:Z.cell? ⟨pb,0,none⟩=some (.int .i64 ((12:Nat):Int)):=VW.cell 0;have z1:Z.cell? ⟨pb,1,none⟩=some (.int .i64 (f:Int)):=VW.cell 1;have z2:Z.cell? ⟨pb,2,none⟩=some (.int .i64 (t2:Int)):=VW.cell 2;have z3:Z.cell? ⟨pb,3,none⟩=some (.int .i64 up):=VW.cell 3;have z4:Z.cell? ⟨pb,4,none⟩=some (.bool false):=VW.cell 4;have hown0:=Ho.out Z TG;have GM:Below W1.heap.size W1 Z:=hB.trans (TG.below hB.size (λk h=>by
           have e:k=pb:=h;omega))
          have Hy:=hid (λk (h:(Value.slice oa on oc).ownBlock=some k)=>xx hown0 k h);clear VW p0 hpk2
          go_wp2_with (at_builtin;refine zcl rfl _ _ rfl W1.heap.size (.slice oa on oc) on (vC (X0 s f)) rfl (xq ((zg.refl (λ_=>False) Z).alloc _) hown0 (λ_ _ h=>h)) Z.heap.size ⟨12,f,t2,up,false⟩ rfl (zf.new Z _ _) (by omega) (by have:=GM.size;rw[waf];omega) ?_;intro g3 c3 w7 WQ WR)
          go_roundw
          case rel=>
           refine⟨f1,by have:=qR.out;omega,rfl,?_,?_⟩
           ·rw[←qR.out,He,if_pos ZJ.out,jT.out]
            unfold QL;rw[FB,wam,qg.out];have e:vC [(⟨12,f,t2,up,false⟩:zQ)]=jr ⟨12,f,t2,up,false⟩:=by simp[vC]
            rw[e];exact WQ
           ·exact(GM.alloc GM.size _).grown WR (by have:=GM.size;rw[waf];omega) (λk hk=>Hy.out k hk)
          case measure=>have:=qR.out;simp[intOf];omega
         ·have t12:((M:Int)==12)=false:=beq_eq_false_iff_ne.2 (by omega)
          have TF:prt s f=⟨M,f,t,up,op⟩:=by rw[jT.out,if_neg Yp]
          replace jT:=hid TF;clear TF Yp
          go_upto_region 28 with fail
          obtain⟨Z,rfl⟩:∃Z,Z=wc:=⟨wc,rfl⟩;have VW:=hpk2;have TG:=HFV.out;have z0:Z.cell? ⟨pb,0,none⟩=some (.int .i64 (M:Int)):=VW.cell 0;have z1:Z.cell? ⟨pb,1,none⟩=some (.int .i64 (f:Int)):=VW.cell 1;have z2:Z.cell? ⟨pb,2,none⟩=some (.int .i64 (t:Int)):=VW.cell 2;have z3:Z.cell? ⟨pb,3,none⟩=some (.int .i64 up):=VW.cell 3;have z4:Z.cell? ⟨pb,4,none⟩=some (.bool op):=VW.cell 4;have hown0:=Ho.out Z TG;have GM:Below W1.heap.size W1 Z:=hB.trans (TG.below hB.size (λk h=>by
           have e:k=pb:=h;omega))
          have Hy:=hid (λk (h:(Value.slice oa on oc).ownBlock=some k)=>xx hown0 k h);clear VW p0 hpk2
          go_wp2_with (at_builtin;refine zcl rfl _ _ rfl W1.heap.size (.slice oa on oc) on (vC (X0 s f)) rfl (xq ((zg.refl (λ_=>False) Z).alloc _) hown0 (λ_ _ h=>h)) Z.heap.size ⟨M,f,t,up,op⟩ rfl (zf.new Z _ _) (by omega) (by have:=GM.size;rw[waf];omega) ?_;intro g3 c3 w7 WQ WR)
          go_roundw
          case rel=>
           refine⟨f1,by have:=qR.out;omega,rfl,?_,?_⟩
           ·rw[←qR.out,He,if_pos ZJ.out,jT.out]
            unfold QL;rw[FB,wam,qg.out];have e:vC [(⟨M,f,t,up,op⟩:zQ)]=jr ⟨M,f,t,up,op⟩:=by simp[vC]
            rw[e];exact WQ
           ·exact(GM.alloc GM.size _).grown WR (by have:=GM.size;rw[waf];omega) (λk hk=>Hy.out k hk)
          case measure=>have:=qR.out;simp[intOf];omega
     ·have hat:VU s f1 f=0:=by rw[zcf,←hf1];simpa[born]using hb
      have ZJ:=hid hb;have zlv:=hid hat
      clear hP Qr hr hf1 hon hb hat hfr
      go_wp2_with fail
      refine(HAT.out _ 0 (wag _ _) zlv.out).mono ?_;rintro e w2 ⟨rfl,hb2⟩;go_wp2
      go_roundw
      case rel=>
       refine⟨f1,by have:=qR.out;omega,rfl,?_,hB.trans (hb2.mono hmono)⟩;rw[←qR.out,He,if_neg ZJ.out,List.append_nil];have h1:=uh HP.out hb2;exact h1
      case measure=>have:=qR.out;simp[intOf];omega
    ·obtain rfl:f=s.size:=by omega
     have HP:=hid hP;clear hP;obtain⟨on,hon⟩:∃on,(X0 s s.size).length=on:=⟨_,rfl⟩;have qg:=hid hon;rw[hon]at HP ⊢;clear hon;go_wp2;go_ret;refine⟨⟨_,rfl,?_⟩,HB.out.trans (hB.mono HB.out.size)⟩;have h1:=HP.out;have h2:W1.ownsRow W1.heap.size 136 5 (.slice none 0 0) 0 []:=⟨rfl,.inl ⟨rfl,rfl⟩⟩;unfold QL at h1 ⊢;rw[show PL s=X0 s s.size from rfl];have:=Df h1 (c:=w.heap.size) (λk hk=>Nat.le_trans HB.out.size (xx h1 k hk));exact this
end
def jS(p:zQ):Value:=.agg #[.int .i64 (p.mode:Int),.int .i64 (p.zh:Int),.int .i64 (p.to:Int),.int .i64 p.up,.bool p.op]
structure Jy(w:World)(oa:Option Addr)(n:Nat)(L:List zQ):Prop where
 len:n=L.length
 cells:∀i p,L[i]?=some p->∃ob,oa=some ⟨ob,0,none⟩/\ob<w.heap.size/\∀c u,(jr p)[c]?=some u->w.cell? ⟨ob,i*5+c,none⟩=some u
theorem Jy.below{w w':World}{oa:Option Addr}{n:Nat}{L:List zQ}(h:Jy w oa n L)(hb:Below w.heap.size w w'):Jy w' oa n L:=
 ⟨h.len,λi p hp=>by
  obtain⟨ob,h1,h2,h3⟩:=h.cells i p hp;exact⟨ob,h1,wae h2 hb.size,λc u hu=>(hb.cell (p:=⟨ob,i*5+c,none⟩) h2).trans (h3 c u hu)⟩⟩
theorem Jy.zh{q:Nat->Prop}{w w':World}{oa:Option Addr}{n:Nat}{L:List zQ}(h:Jy w oa n L)(hb:zg q w w')(hq:∀b,b<w.heap.size->¬q b):Jy w' oa n L:=
 ⟨h.len,λi p hp=>by
  obtain⟨ob,h1,h2,h3⟩:=h.cells i p hp;exact⟨ob,h1,wae h2 hb.size,λc u hu=>(hb.cell h2 (hq ob h2)).trans (h3 c u hu)⟩⟩
theorem QL.read{w:World}{base:Nat}{v:Value}{L:List zQ}(h:QL w base v L):∃oa n oc,v=.slice oa n oc/\Jy w oa n L:=by
 have h':w.ownsRow base 136 5 v L.length (vC L):=h;obtain⟨oa,oc,rfl⟩:=Xw h';refine⟨oa,_,oc,rfl,rfl,λi p hp=>?_⟩;have hl:i<L.length:=(wak.1 hp).1;obtain⟨ob,vO,hov,_,_,_,hlt⟩:=VD h' (by omega);obtain⟨rfl,rfl⟩:oa=some ⟨ob,0,none⟩/\oc=vO:=by simpa using hov
 refine⟨ob,rfl,hlt,λc u hu=>?_⟩;have:=h'.cells (g:=ob) rfl (i*5+c) u (ou hp c u hu)
 rwa [Addr.add_lit,wac]at this
theorem Jy.at{w:World}{oa:Option Addr}{n:Nat}{L:List zQ}(h:Jy w oa n L){i:Nat}(hi:i<n):∃ob p,oa=some ⟨ob,0,none⟩/\L[i]?=some p/\ob<w.heap.size/\w.cell? ⟨ob,i*5,none⟩=some (.int .i64 (p.mode:Int))/\w.cell? ⟨ob,i*5+1,none⟩=some (.int .i64 (p.zh:Int))/\w.cell? ⟨ob,i*5+2,none⟩=some (.int .i64 (p.to:Int))/\w.cell? ⟨ob,i*5+3,none⟩=some (.int .i64 p.up)/\w.cell? ⟨ob,i*5+4,none⟩=some (.bool p.op):=by
 have hl:i<L.length:=by have:=h.len;omega
 obtain⟨ob,h1,h2,h3⟩:=h.cells i L[i] (wal hl);have h0:=h3 0 _ rfl;rw[Nat.add_zero]at h0;exact⟨ob,L[i],h1,wal hl,h2,h0,h3 1 _ rfl,h3 2 _ rfl,h3 3 _ rfl,h3 4 _ rfl⟩
theorem Xt{s:ByteArray}{f:Nat}(hf:f<s.size)(hb:born s f=true):(prt s f).to<=s.size/\(prt s f).mode<=14:=by
 have he:=RP s (Nat.le_of_lt hf);have hm:=Hz (oV s (eK s f s.size) f);rw[Ju hb hf];split
 ·exact⟨oD s (f+1) (by omega),by show 12<=14;omega⟩
 ·refine⟨?_,hm⟩
  show(if eK s f s.size=s.size then s.size else eK s f s.size+1)<=s.size;split<;>omega
theorem Am{s:ByteArray}{i:Nat}{p:zQ}(h:(PL s)[i]?=some p):∃f,(uG s s.size)[i]?=some f/\p=prt s f/\f<s.size/\born s f=true/\p.zh=f/\p.to<=s.size/\p.mode<=14:=by
 unfold PL at h;rw[List.getElem?_map]at h
 cases hf:(uG s s.size)[i]? with
 |none=>rw[hf]at h;cases h
 |some f=>
  rw[hf]at h;have e:prt s f=p:=by simpa using h
  obtain⟨_,h2,h3⟩:=SH hf;have:=Xt h2 h3;rw[←e];exact⟨f,rfl,rfl,h2,h3,Yc s f,this.1,this.2⟩
theorem Aj(s:ByteArray):(PL s).length<=s.size:=by unfold PL;rw[List.length_map];exact oL s _
end Go.Proofs.YtkolpaonccmgiaaGreatDoor

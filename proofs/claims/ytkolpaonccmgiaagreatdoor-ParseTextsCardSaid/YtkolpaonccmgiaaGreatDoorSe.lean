/- What the document's own Nests of layer 12 (rules)  -/
import Derived.Test.YtkolpaonccmgiaaGreatDoorPaO
import Derived.Test.YtkolpaonccmgiaaGreatDoorRuCc
namespace Go.Proofs.YtkolpaonccmgiaaGreatDoor.Q
set_option linter.unusedSectionVars false
set_option linter.unusedVariables false
open Go.Proofs.Tryz
set_option maxHeartbeats 8000000
open Go.RowKit
def Vq(k:Int):Bool:=decide (9<=k/\k<=14\/k=16)
section
variable(w:World)
theorem zaR(k:Int)(W:World):
  Calls prog 53 #[.int .i64 k] W λr w'=>r=.returned (.bool (Vq k))/\w'=W:=by
 by_cases h8:k<=8
 ·have e:Vq k=false:=decide_eq_false (by omega)
  rw[e];have d1:decide (9<=k)=false:=decide_eq_false (by omega);have d2:¬9<=k:=by omega
  have d3:(k==16)=false:=by simp;omega
  clear h8 e;go_enter func53,ntmps53;go_wp2;go_ret;exact⟨rfl,rfl⟩
 have d1:decide (9<=k)=true:=decide_eq_true (by omega);have d2:9<=k:=by omega
 by_cases wK:k<=14
 ·have e:Vq k=true:=decide_eq_true (by omega)
  rw[e];have d3:decide (k<=14)=true:=decide_eq_true wK;clear h8 e;go_enter func53,ntmps53;go_wp2;go_ret;exact⟨rfl,rfl⟩
 have d3:decide (k<=14)=false:=decide_eq_false wK;by_cases h16:k=16
 ·subst h16
  have e:Vq 16=true:=by decide
  rw[e];go_enter func53,ntmps53;go_wp2;go_ret;exact⟨rfl,rfl⟩
 ·have e:Vq k=false:=decide_eq_false (by omega)
  rw[e];have d4:(k==16)=false:=by simpa using h16
  clear h8 e;go_enter func53,ntmps53;go_wp2;go_ret;exact⟨rfl,rfl⟩
end
open Lib(hid)
set_option maxRecDepth 100000
def Kv(lo:Value)(S:ByteArray)(nv:Value)(a u d:Int):Array Value:=#[lo,.string S,nv,.int .i64 a,.int .i64 u,.int .i64 d]
def kN(n:Nat)(lv:Nat->Lf)(la:Option Addr)(lc:Nat)(S:ByteArray)(g:Nat):Kd:=⟨n,lv,la,g,λs nv=>Kv (.slice la n lc) S nv (s.a:Int) s.u (s.d:Int),54⟩
def qi(n:Nat)(lv:Nat->Lf)(S:ByteArray):Prop:=S.size=n/\∀i,i<n->(bt S i).toNat=zJ n lv i
theorem zjb{n:Nat}{lv:Nat->Lf}{la:Option Addr}{lc g:Nat}{S:ByteArray}{w0:World}{P:Nat->Prop}{s:PS}{w X w':World}{nv:Value}{g' c':Nat}{p:Nd}(hM:Mk (kN n lv la lc S g) w0 P s w)(hB:zf w g (Kv (.slice la n lc) S nv (s.a:Int) s.u (s.d:Int)) 54)(h3:nv.ownBlock≠some g)(h4:∀k,nv.ownBlock=some k->¬P k)
 (hX:Below w.heap.size w X)(hgr:X.grownBy w' nv.ownBlock)(hown:w'.ownsRow 0 32 4 (.slice (some ⟨g',0,none⟩) (s.L.length+1) c') (s.L.length+1) (vS s.L++qV p))(hg:nv.ownBlock=some g'\/w.heap.size<=g'):
  Mk (kN n lv la lc S g) w0 P ⟨s.a,s.L++ [p],s.u,s.d⟩ (w'.setCell ⟨g,2,none⟩ (.slice (some ⟨g',0,none⟩) (s.L.length+1) c')):=by
 have F1:zg (λk=>nv.ownBlock=some k) w w':=(zg.of_below hX).grown hgr (λk hk=> .inl hk);have F2:zg (λk=>k=g) w' (w'.setCell ⟨g,2,none⟩ (.slice (some ⟨g',0,none⟩) (s.L.length+1) c')):=(zg.refl _ _).put _ _;have hgl:g<w.heap.size:=hB.lt;have hgf:g'≠g:=by
  rintro rfl;rcases hg with h|h
  ·exact h3 h
  ·omega
 have CO:¬P g':=by
  rcases hg with h|h
  ·exact h4 g' h
  ·intro hp
   have:=hM.st.lt g' hp;have:=hM.zh.size;omega
 refine⟨hM.st,(hM.zh.trans F1 (λi _ hi=>h4 i hi)).trans F2 (λi _ hi hp=>hM.XI (hi▸hp)),hM.yM,hM.XI,.slice (some ⟨g',0,none⟩) (s.L.length+1) c',?_,?_,?_,?_⟩
 ·have:=(hB.zh F1 h3).set 2 (.slice (some ⟨g',0,none⟩) (s.L.length+1) c')
  exact this
 ·have e:vS (s.L++ [p])=vS s.L++qV p:=by rw[U6];simp[vS]
  show World.ownsRow _ 0 32 4 _ (s.L++ [p]).length (vS (s.L++ [p]));rw[e,List.length_append];exact xq F2 hown (λk hk=>by simp[Value.ownBlock]at hk;omega)
 ·intro e
  change(Value.slice (some ⟨g',0,none⟩) (s.L.length+1) c').ownBlock=some g at e;exact hgf (by simpa[Value.ownBlock]using e)
 ·intro k hk
  have:g'=k:=by simpa[Value.ownBlock]using hk
  exact this▸CO
theorem zjc{n:Nat}{lv:Nat->Lf}{la:Option Addr}{lc g:Nat}{S:ByteArray}{w0:World}{P:Nat->Prop}{s:PS}{w:World}{b c z:Nat}{p q:Nd}{v:Value}(hM:Mk (kN n lv la lc S g) w0 P s w)(hB:zf w g (Kv (.slice la n lc) S (.slice (some ⟨b,0,none⟩) s.L.length c) (s.a:Int) s.u (s.d:Int)) 54)(hO:w.ownsRow 0 32 4 (.slice (some ⟨b,0,none⟩) s.L.length c) s.L.length (vS s.L))(hbg:b≠g)(nU:¬P b)
 (hz:s.L[z]?=some p)(hq:qV q=(qV p).set 2 v):Mk (kN n lv la lc S g) w0 P ⟨s.a,s.L.set z q,s.u,s.d⟩ (w.setCell ⟨b,z*4+2,none⟩ v):=by
 have hzl:z<s.L.length:=(List.getElem?_eq_some_iff.1 hz).1;refine⟨hM.st,hM.zh.trans ((zg.refl (λk=>k=b) w).put (z*4+2) v) (λi _ hi hp=>nU (hi▸hp)),hM.yM,hM.XI,.slice (some ⟨b,0,none⟩) s.L.length c,?_,?_,?_,?_⟩
 ·exact hB.other _ _ (λe=>hbg e.symm)
 ·show World.ownsRow _ 0 32 4 _ (s.L.set z q).length (vS (s.L.set z q))
  rw[CP hz hq (by omega),List.length_set];exact dK hO _ _ (by rw[CQ];omega)
 ·intro e
  change(Value.slice (some ⟨b,0,none⟩) s.L.length c).ownBlock=some g at e;exact hbg (by simpa[Value.ownBlock]using e)
 ·intro k hk
  have:b=k:=by simpa[Value.ownBlock]using hk
  exact this▸nU
theorem zjd{ops:Array Oper}{o:Oper}{a:Act}{w:World}{K:Act->World->Prop}{Q:Exit->Act->World->Prop}{E:Prop}(hw:Region.wanted o (yielded ops a.tmps)=true){f:FuncId}{fn:Func}(hf:prog.funcs[f]?=some fn)(hname:(fn.name== "runtime.NumGoroutine")=false)(hb:fn.body.isSome=true)(args:List Operand)(Eo:Array TypeId)
 (ho:o.op=.call {callee:=.value (.func f),args:=args.toArray,argTypes:=Eo})(vs:List Value)(hv:args.map a.eval=vs)(v:Value)(R:World->Prop)
 (hc:Calls prog f vs.toArray w λe w'=>e=.returned v/\R w')(h:∀w',R w'->K (a.put o.dst v) w'):
  if Region.wanted o (yielded ops a.tmps)=true then Oper.wp prog o a w K Q else E:=by
 rw[if_pos hw];have e1:a.eval (.func f)=.func (.func f) #[] #[]:=rfl;obtain⟨c,hc'⟩:=Option.isSome_iff_exists.1 hb;have h1:fn.name≠ "runtime.NumGoroutine":=by simpa using hname
 have hen:(callFunc f vs.toArray).run prog w=.ok (.enter f vs.toArray) w:=by simp[callFunc,hf,h1,hc']
 unfold Oper.wp execOp;simp only[ho,resolve,List.map_toArray,hv,e1,Deferred.ofValue,invoke,Sem.run_bind,Sem.run_pure,Result.andThen_ok,Array.empty_append,Array.append_empty,hen];rw[Oper.upon_enter];refine hc.mono ?_;rintro e w' ⟨rfl,hr⟩;exact h w' hr
@[local go_sem] theorem zoo (f:Bool->Option Bool) (g:Option Value->Option Bool):yielded.match_1 (λ_=>Option Bool) (some undef) f g=g (some undef):=rfl
section
variable{n:Nat}{lv:Nat->Lf}{la:Option Addr}{lc g:Nat}{S:ByteArray}{w0:World}{P:Nat->Prop}
theorem Xh(k:Int){w:World}{s:PS}(hM:Mk (kN n lv la lc S g) w0 P s w)(hlen:s.L.length<=900000)(hd:Vq k=true->s.d<=1000):
  Calls prog 31 #[.pointer (some ⟨g,0,none⟩),.int .i64 k] w λe w'=>e=.returned (.int .i64 s.u)/\Mk (kN n lv la lc S g) w0 P (zk k (Vq k) s) w':=by
 obtain⟨nv,hB,hO,h3,h4⟩:=hM.own;obtain⟨oa,oc,rfl⟩:=nV hO;obtain⟨z,hz⟩:∃z,s.L.length=z:=⟨_,rfl⟩;rw[hz]at hB hO h3 h4 hlen;change zf w g (Kv (.slice la n lc) S (.slice oa z oc) (s.a:Int) s.u (s.d:Int)) 54 at hB;change(Value.slice oa z oc).ownBlock≠some g at h3;have d1:w.cell? ⟨g,3,none⟩=some (.int .i64 (s.a:Int)):=hB.cell 3;have d7:w.cell? ⟨g,2,none⟩=some (.slice oa z oc):=hB.cell 2;have d8:w.cell? ⟨g,4,none⟩=some (.int .i64 s.u):=hB.cell 4;have hne:¬w.heap.size=g:=by have:=hB.lt;omega
 have wM:=hid hM;have yg:=hid hB;have HOW:=hid hO;have dM:=hid (And.intro h3 h4);have hno:=h3;have HZ:=hid hz;have jF:=hid (λW=>zaR k W);have HD:=hid hd;clear hM hB hO h3 h4 hz hd;have hR:∀X,Below w.heap.size w X->X.ownsRow 0 32 4 (.slice oa z oc) z (vS s.L):=λX hX=>uh HOW.out hX;have CS:(w.alloc (.cells #[.int .i64 k,.int .i64 (s.a:Int),.int .i64 0,.int .i64 s.u] 32)).cell? ⟨g,2,none⟩=some (.slice oa z oc):=(yg.out.alloc _).cell 2;go_enter func31,ntmps31;go_wp2
 go_cut []from 10 to 26 (λwx=>Mk (kN n lv la lc S g) w0 P ⟨s.a,s.L++ [⟨k,s.a,0,s.u⟩],s.u,s.d⟩ wx)
 case first=>
  go_region_law (refine U5 (by rfl) _ _ (by rfl) (.slice oa z oc) z (vS s.L) (by rfl) (hR _ (((Below.refl w.heap.size w).alloc (Nat.le_refl _) _).drew)) w.heap.size ⟨k,s.a,0,s.u⟩ (by rfl) ((zf.new w _ _).drew) (by omega) ?_;intro g2 c2 w2 hown hgr hg';have o7:=((yg.out.alloc (.cells (qV ⟨k,s.a,0,s.u⟩).toArray 32)).drew).grown hgr (Ne.symm hno);have d7:w2.cell? ⟨g,2,none⟩=some (.slice oa z oc):=o7.cell 2;have df:=o7.frozen 2)
  all_goals
   go_wp2_with fail
   have hg2:(Value.slice oa z oc).ownBlock=some g2\/w.heap.size<=g2:=by
    refine hg'.imp id λh=>?_;have e:g2=w.heap.size+1:=h.trans (World.size_alloc _ _);omega
   have hT1:=zjb (p:=⟨k,s.a,0,s.u⟩) (c':=c2) wM.out yg.out dM.out.1 dM.out.2 (((Below.refl w.heap.size w).alloc (Nat.le_refl _) (.cells (qV ⟨k,s.a,0,s.u⟩).toArray 32)).drew) hgr (by rw[HZ.out];exact hown) hg2;rw[HZ.out]at hT1;go_meet;case rel=>exact hT1
 case rest=>
  have HC:=hid hcut;clear hcut hR d1 d7 CS d8 hno hne;obtain⟨V,hV⟩:∃V,V=wc:=⟨_,rfl⟩;rw[←hV]at HC ⊢;clear hV;obtain⟨nv,hB,hO,h3,h4⟩:=HC.out.own;obtain⟨xU,Ak,rfl⟩:=nV hO;have hl1:(s.L++ [(⟨k,s.a,0,s.u⟩:Nd)]).length=z+1:=by rw[←HZ.out];simp
  simp only[hl1]at hB;have e2:V.cell? ⟨g,2,none⟩=some (.slice xU (z+1) Ak):=hB.cell 2;have f8:V.frozen? ⟨g,4,none⟩=false:=zf.frozen (t:=54) hB 4;have e8:V.cell? ⟨g,4,none⟩=some (.int .i64 s.u):=hB.cell 4;have hw:IntKind.i64.wrap (((z+1:Nat):Int)-1)=(z:Int):=by rw[IntWalk.i64_in _ (by omega)];omega
  have hM2:Mk (kN n lv la lc S g) w0 P ⟨s.a,s.L++ [⟨k,s.a,0,s.u⟩],(z:Int),s.d⟩ (V.setCell ⟨g,4,none⟩ (.int .i64 (z:Int))):=
   HC.out.turn rfl HC.out.yM ((zg.refl _ _).put _ _) (λnv h=>h.set 4 (.int .i64 (z:Int)))
  obtain⟨V2,hV2⟩:∃V2,V.setCell ⟨g,4,none⟩ (.int .i64 (z:Int))=V2:=⟨_,rfl⟩;rw[hV2]at hM2;obtain⟨U9,vP,_⟩:=hM2.own;have e5:V2.cell? ⟨g,5,none⟩=some (.int .i64 (s.d:Int)):=vP.cell 5;have f5:V2.frozen? ⟨g,5,none⟩=false:=zf.frozen (t:=54) vP 5;have hbg:∀dp:Bool,(⟨s.a,s.L++ [⟨k,s.a,0,s.u⟩],(z:Int),s.d+dp.toNat⟩:PS)=zk k dp s:=λdp=>by unfold zk;rw[HZ.out]
  obtain⟨q,hq⟩:∃q,Vq k=q:=⟨_,rfl⟩;rw[hq]at jF;have HQ:=hid hq;have zo:=hid hM2;have LM:=hid hbg;clear hB hO h3 h4 hl1 hM2 vP hq hbg
  cases q with
  |true=>
   have hw5:IntKind.i64.wrap ((s.d:Int)+1)=((s.d+1:Nat):Int):=by
    have:=HD.out HQ.out;rw[IntWalk.i64_in _ (by omega)];rfl
   have zn:=hid (show Mk (kN n lv la lc S g) w0 P ⟨s.a,s.L++ [⟨k,s.a,0,s.u⟩],(z:Int),s.d+1⟩ (V2.setCell ⟨g,5,none⟩ (.int .i64 ((s.d+1:Nat):Int)))from
    zo.out.turn rfl zo.out.yM ((zg.refl _ _).put _ _) (λnv h=>h.set 5 (.int .i64 ((s.d+1:Nat):Int))))
   go_wp2_with fail
   refine(jF.out _).mono ?_;rintro e w5 ⟨rfl,rfl⟩;go_wp2;go_ret;refine⟨rfl,?_⟩;rw[HQ.out,←LM.out true];exact zn.out
  |false=>
   go_wp2_with fail
   refine(jF.out _).mono ?_;rintro e w5 ⟨rfl,rfl⟩;go_wp2;go_ret;refine⟨rfl,?_⟩;rw[HQ.out,←LM.out false];exact zo.out
end
def XP(t:ByteArray)(l:List Nat):Prop:=63∉l/\t.size<=100/\∀c,c<256->inB c t=l.contains c
instance (t:ByteArray) (l:List Nat):Decidable (XP t l):=by unfold XP;infer_instance
theorem zje{n:Nat}{lv:Nat->Lf}(i:Nat):zJ n lv i<256:=CW _ _
section
variable{n:Nat}{lv:Nat->Lf}{la:Option Addr}{lc g:Nat}{S:ByteArray}{w0:World}{P:Nat->Prop}
theorem jO{k:Int}{b:PP}{w:World}{s s':PS}(hev:Ev n lv b (zk k (Vq k) s) s')(hM:Mk (kN n lv la lc S g) w0 P s' w)(hd:Vq k=true->s.d<=1000):
  Calls prog 36 #[.pointer (some ⟨g,0,none⟩),.int .i64 s.u] w λe w'=>e=.returned (.tuple #[])/\Mk (kN n lv la lc S g) w0 P (fin k s s') w':=by
 have hkp:=hev.kp;have hlen5:(zk k (Vq k) s).L.length=s.L.length+1:=by simp[zk]
 obtain⟨z,hz⟩:∃z,s.L.length=z:=⟨_,rfl⟩;have hzl:z<s'.L.length:=by have:=hkp.l;omega
 have hu:s'.u=(z:Int):=by rw[hkp.u];show((s.L.length:Nat):Int)=z;rw[hz]
 have hdd:s'.d=s.d+(Vq k).toNat:=hkp.d;have hp:s'.L[z]?=some ⟨k,s.a,0,s.u⟩:=by
  rw[hkp.x z (by omega)];simp[zk,←hz]
 obtain⟨nv6,Zx,JQ,zV,h46⟩:=hM.own;obtain⟨gb,c6,rfl,_,hzc,_,CU⟩:=VD JQ (show 0<s'.L.length from by omega);change zf w g (Kv (.slice la n lc) S (.slice (some ⟨gb,0,none⟩) s'.L.length c6) (s'.a:Int) s'.u (s'.d:Int)) 54 at Zx;have hbg:gb≠g:=λe=>zV (by rw[e];rfl);have yX:=zjc (z:=z) (q:=⟨k,s.a,s'.a,s.u⟩) (v:=.int .i64 (s'.a:Int)) hM Zx JQ hbg (h46 gb rfl) hp rfl;have hcell:w.cell? ⟨gb,z*4+2,none⟩=some (.int .i64 0):=by
  have:=JQ.cells (g:=gb) rfl (z*4+2) _ (nX hp 2 _ rfl)
  rwa [Addr.add_lit,Nat.zero_add]at this
 have hfz:w.frozen? ⟨gb,z*4+2,none⟩=false:=nY JQ _;have g2:w.cell? ⟨g,2,none⟩=some (.slice (some ⟨gb,0,none⟩) s'.L.length c6):=Zx.cell 2;have g3:w.cell? ⟨g,3,none⟩=some (.int .i64 (s'.a:Int)):=Zx.cell 3;have g4:w.cell? ⟨g,4,none⟩=some (.int .i64 (z:Int)):=by rw[←hu];exact Zx.cell 4
 have hk0:(w.setCell ⟨gb,z*4+2,none⟩ (.int .i64 (s'.a:Int))).cell? ⟨gb,z*4,none⟩=some (.int .i64 k):=by
  obtain⟨nv7,hB7,hO7,_⟩:=yX.own;have hq:(s'.L.set z ⟨k,s.a,s'.a,s.u⟩)[z]?=some ⟨k,s.a,s'.a,s.u⟩:=by rw[List.getElem?_set_self hzl]
  have e2:(w.setCell ⟨gb,z*4+2,none⟩ (.int .i64 (s'.a:Int))).cell? ⟨g,2,none⟩=some nv7:=hB7.cell 2;have zjf:=Zx.other (b':=gb) (z*4+2) (.int .i64 (s'.a:Int)) (λe=>hbg e.symm);have e3:(w.setCell ⟨gb,z*4+2,none⟩ (.int .i64 (s'.a:Int))).cell? ⟨g,2,none⟩=some (.slice (some ⟨gb,0,none⟩) s'.L.length c6):=zjf.cell 2;have e4:nv7=.slice (some ⟨gb,0,none⟩) s'.L.length c6:=by rw[e3]at e2;exact(Option.some.inj e2).symm
  subst e4;have:=hO7.cells (g:=gb) rfl (z*4) _ (by simpa using nX hq 0 _ rfl)
  rwa [Addr.add_lit,Nat.zero_add]at this
 obtain⟨z5,Y6⟩:∃z5,s'.L.length=z5:=⟨_,rfl⟩;rw[Y6]at g2 hzl;have hzi:(z:Int)<(z5:Int):=by omega
 have hz0:(0:Int)<=(z:Int):=by omega
 have PW:zf (w.setCell ⟨gb,z*4+2,none⟩ (.int .i64 (s'.a:Int))) g (Kv (.slice la n lc) S (.slice (some ⟨gb,0,none⟩) z5 c6) (s'.a:Int) (z:Int) (s'.d:Int)) 54:=by
  have:=Zx.other (b':=gb) (z*4+2) (.int .i64 (s'.a:Int)) (λe=>hbg e.symm);rw[Y6,hu]at this;exact this
 obtain⟨sa,hsa⟩:∃sa:Int,(s'.a:Int)=sa:=⟨_,rfl⟩;rw[hsa]at g3 yX hk0 PW;have Ep:=hid hsa;obtain⟨W1,hW1⟩:∃W1,w.setCell ⟨gb,z*4+2,none⟩ (.int .i64 sa)=W1:=⟨_,rfl⟩;rw[hW1]at yX hk0 PW;have yJ:=hid yX;have Yl:=hid PW;have HK0:=hid hk0;have zaS:gb<W1.heap.size:=by rw[←hW1];simpa[World.setCell]using CU
 have HG:=hid zaS;have jF:=hid (λW=>zaR k W);obtain⟨q,hq⟩:∃q,Vq k=q:=⟨_,rfl⟩;rw[hq]at jF hdd hd;have Es:=hid (And.intro hdd (And.intro hz hd));clear hsa hkp hlen5 hz hu hdd hp Zx JQ zV h46 yX PW hk0 Y6 hM hev hq zaS CU hd;go_enter func36,ntmps36;go_wp2
 go_region
 obtain⟨W2,hW2⟩:∃W2,W1.drew=W2:=⟨_,rfl⟩;have hb2:Below W1.heap.size W1 W2:=by rw[←hW2];exact(Below.refl _ _).drew
 rw[hW2];clear hW2 hW1 g2 g3 g4 hcell hfz;have KZ:=Yl.out.below hb2;have i2:W2.cell? ⟨g,2,none⟩=some (.slice (some ⟨gb,0,none⟩) z5 c6):=KZ.cell 2;have i4:W2.cell? ⟨g,4,none⟩=some (.int .i64 (z:Int)):=KZ.cell 4;have ik:=(hb2.cell (p:=⟨gb,z*4,none⟩) HG.out).trans HK0.out;have yl:=hid (yJ.out.below hb2);clear hb2 KZ;go_wp2
 go_cut [29]from 18 to 30 (λv29 wx=>v29=.bool q/\Mk (kN n lv la lc S g) w0 P ⟨s'.a,s'.L.set z ⟨k,s.a,sa,s.u⟩,s'.u,s'.d⟩ wx)
 case first=>
  go_region_law (refine zjd (by rfl) func53 (by kernel_rfl) (by kernel_rfl) _ _ (by rfl) [.int .i64 k] (by rfl) (.bool q) _ (jF.out _) ?_;intro w5 hh5;subst hh5)
  all_goals
   go_wp2_with fail
   go_meet;case rel=>exact⟨rfl,yl.out.below (by first|exact Below.refl _ _|exact(Below.refl _ _).drew|exact((Below.refl _ _).drew).drew)⟩
 case rest=>
  obtain⟨rfl,vZ⟩:=hcut;clear i2 i4 ik;obtain⟨V,hV⟩:∃V,V=wc:=⟨_,rfl⟩;rw[←hV]at vZ ⊢;clear hV;have hfin:(⟨s'.a,s'.L.set z ⟨k,s.a,sa,s.u⟩,s.u,s.d⟩:PS)=fin k s s':=by unfold fin;rw[Es.out.2.1,Ep.out]
  have hd:=Es.out.2.2;have hdd:=Es.out.1;have HF:=hid hfin;obtain⟨nv,hB,_⟩:=vZ.own;have e4:V.cell? ⟨g,4,none⟩=some (.int .i64 s'.u):=hB.cell 4;have f4:V.frozen? ⟨g,4,none⟩=false:=zf.frozen (t:=54) hB 4;have e5:V.cell? ⟨g,5,none⟩=some (.int .i64 (s'.d:Int)):=hB.cell 5;have f5:V.frozen? ⟨g,5,none⟩=false:=zf.frozen (t:=54) hB 5;have uB:=hid vZ;clear hB vZ hfin
  cases q with
  |true=>
   have hd1:=hd rfl;have hw5:IntKind.i64.wrap ((s'.d:Int)-1)=(s.d:Int):=by
    simp only[Bool.toNat_true]at hdd;rw[IntWalk.i64_in _ (by omega)];omega
   have jD:Mk (kN n lv la lc S g) w0 P ⟨s'.a,s'.L.set z ⟨k,s.a,sa,s.u⟩,s'.u,s.d⟩ (V.setCell ⟨g,5,none⟩ (.int .i64 (s.d:Int))):=
    uB.out.turn rfl uB.out.yM ((zg.refl _ _).put _ _) (λnv h=>h.set 5 (.int .i64 (s.d:Int)))
   obtain⟨V2,hV2⟩:∃V2,V.setCell ⟨g,5,none⟩ (.int .i64 (s.d:Int))=V2:=⟨_,rfl⟩;rw[hV2]at jD;obtain⟨nv2,hB2,_⟩:=jD.own;have j4:V2.cell? ⟨g,4,none⟩=some (.int .i64 s'.u):=hB2.cell 4;have k4:V2.frozen? ⟨g,4,none⟩=false:=zf.frozen (t:=54) hB2 4;have uK:=hid (show Mk (kN n lv la lc S g) w0 P ⟨s'.a,s'.L.set z ⟨k,s.a,sa,s.u⟩,s.u,s.d⟩ (V2.setCell ⟨g,4,none⟩ (.int .i64 s.u))from
    jD.turn rfl jD.yM ((zg.refl _ _).put _ _) (λnv h=>h.set 4 (.int .i64 s.u)))
   clear hB2 jD hdd hd hd1;go_wp2
   go_end0
   rw[←HF.out];exact⟨rfl,uK.out⟩
  |false=>
   have hd2:s'.d=s.d:=by simpa using hdd
   have uK:=hid (show Mk (kN n lv la lc S g) w0 P ⟨s'.a,s'.L.set z ⟨k,s.a,sa,s.u⟩,s.u,s.d⟩ (V.setCell ⟨g,4,none⟩ (.int .i64 s.u))from
    uB.out.turn rfl uB.out.yM ((zg.refl _ _).put _ _) (λnv h=>by
     have:=h.set 4 (.int .i64 s.u);change zf _ g (Kv (.slice la n lc) S nv (s'.a:Int) s.u (s.d:Int)) 54;rw[←hd2];exact this))
   clear hdd hd hd2;go_wp2
   go_end0
   rw[←HF.out];exact⟨rfl,uK.out⟩
end
section
variable{n:Nat}{lv:Nat->Lf}{la:Option Addr}{lc g:Nat}{S:ByteArray}{w0:World}{P:Nat->Prop}
theorem vH(hS:qi n lv S)(t:ByteArray)(l:List Nat)(hl:XP t l){w:World}{s:PS}(hM:Mk (kN n lv la lc S g) w0 P s w)(b:Bool)(hb:isS n lv l s=b):
  Calls prog 32 #[.pointer (some ⟨g,0,none⟩),.string t] w λe w'=>e=.returned (.bool b)/\∃m,w'=w.drewN m:=by
 obtain⟨nv,hB,_⟩:=hM.own;have c1:w.cell? ⟨g,1,none⟩=some (.string S):=hB.cell 1;have c3:w.cell? ⟨g,3,none⟩=some (.int .i64 (s.a:Int)):=hB.cell 3;have kW:=hM.yM;change s.a<=n at kW;have hz:=hS.1;by_cases hlt:s.a<n
 ·have hbt:=hS.2 s.a hlt
  have hin:=hl.2.2 _ (zje (n:=n) (lv:=lv) s.a);have xP:=hid (λW=>Rx (zJ n lv s.a) t W (by have:=hl.2.1;omega));unfold isS at hb;rw[hin,hb]at xP;obtain⟨a,ha⟩:∃a,s.a=a:=⟨_,rfl⟩;rw[ha]at c3 hlt hbt;have q1:(a:Int)<(S.size:Int):=by omega
  have q1':a<S.size:=by omega
  have q0:(0:Int)<=(a:Int):=by omega
  have hbb:S[a].toNat=zJ n lv s.a:=by rw[←zT q1',hbt,ha]
  obtain⟨sg,hsg⟩:∃sg,zJ n lv s.a=sg:=⟨_,rfl⟩;rw[hsg]at hbb xP;have q2:decide ((a:Int)<(S.size:Int))=true:=decide_eq_true q1;have q3:decide (a<S.size)=true:=decide_eq_true q1';clear hB hM hS hl hb hin hsg hbt ha hz kW;go_enter func32,ntmps32;go_wp2
  go_quiet (exact Calls.quiet_of_same (xP.out _))
  go_wp2;go_ret;exact⟨rfl,_,rfl⟩
 ·have hbf:b=false:=by
   rw[←hb]
   cases e:isS n lv l s with
   |false=>rfl
   |true=>have:=yV (lv:=lv) e hl.1;omega
  subst hbf;obtain⟨a,ha⟩:∃a,s.a=a:=⟨_,rfl⟩;rw[ha]at c3 hlt;have q1:¬(a:Int)<(S.size:Int):=by omega
  have q2:decide ((a:Int)<(S.size:Int))=false:=decide_eq_false q1;have q3:decide (a<S.size)=false:=by simp;omega
  clear hB hM hS hl hb ha hz kW;go_enter func32,ntmps32;go_wp2
  go_quiet (fail)
  go_wp2;go_ret;exact⟨rfl,_,rfl⟩
def PX(K:Kd)(g:Nat)(F:Nat)(b:PS->Bool):Prop:=
 ∀(w0:World) (P:Nat->Prop) (w:World) (s:PS),Mk K w0 P s w->Calls prog F #[.pointer (some ⟨g,0,none⟩)] w λe w'=>e=.returned (.bool (b s))/\∃m,w'=w.drewN m
theorem zB{K:Kd}{w:World}{s:PS}(h:Mk K w0 P s w)(m:Nat):Mk K w0 P s (w.drewN m):=h.below (below_drewN (Below.refl _ _) _)
theorem zjg:XP ⟨#[60]⟩ [60]:=by decide+kernel
theorem zjh:XP ⟨#[35]⟩ [35]:=by decide+kernel
theorem zji:XP ⟨#[123,40,105,119,114,99]⟩ [123,40,105,119,114,99]:=by decide+kernel
theorem zaT:XP ⟨#[120]⟩ [120]:=by decide+kernel
theorem zjj:XP ⟨#[33]⟩ [33]:=by decide+kernel
theorem xu{c k:Nat}{s:PS}(h:zJ n lv s.a=c):isS n lv [k] s=(c==k):=by
 unfold isS;rw[h,List.contains_cons,List.contains_nil,Bool.or_false]
theorem We(hS:qi n lv S):PX (kN n lv la lc S g) g 80 (vG n lv):=by
 intro w0 P w s hM;obtain⟨nv,hB,_⟩:=hM.own;have c1:w.cell? ⟨g,1,none⟩=some (.string S):=hB.cell 1;have c3:w.cell? ⟨g,3,none⟩=some (.int .i64 (s.a:Int)):=hB.cell 3;have kW:=hM.yM;change s.a<=n at kW;have hn:=hM.st.nle;change n<=10000 at hn;have hz:=hS.1;unfold vG;obtain⟨x,hx⟩:∃x,zJ n lv s.a=x:=⟨_,rfl⟩;have HR:=hid (λm b hb=>vH hS _ _ zjg (zB hM m) b hb);have HH:=hid (λm b hb=>vH hS _ _ zjh (zB hM m) b hb);rw[xu hx]at HR HH;rw[hx];obtain⟨a,ha⟩:∃a,s.a=a:=⟨_,rfl⟩;have hw:IntKind.i64.wrap ((s.a:Int)+1)=((s.a+1:Nat):Int):=by rw[IntWalk.i64_in _ (by omega)];rfl
 by_cases h60:x=60
 ·subst h60
  have HR1:=hid (λm=>HR.out m true rfl);clear hB hM hS hx HR HH kW hn hz c1 c3 hw ha;go_enter func80,ntmps80;go_wp2
  go_quiet (exact Calls.quiet_of (HR1.out _))
  go_wp2;go_ret;exact⟨rfl,_,rfl⟩
 have HR1:=hid (λm=>HR.out m false (by simpa using h60));have e60:(x==60)=false:=by simpa using h60
 rw[e60,Bool.false_or];by_cases h35:x=35
 ·subst h35
  have PY:=hid (λm=>HH.out m true rfl);rw[ha]at c3 kW hw ⊢;obtain⟨a1,ha1⟩:∃a1,a+1=a1:=⟨_,rfl⟩;rw[ha1]at hw ⊢;by_cases hlt:a1<n
  ·have hbt:=hS.2 a1 hlt
   have q1':a1<S.size:=by omega
   have q1:(a1:Int)<(S.size:Int):=by omega
   have q2:decide ((a1:Int)<(S.size:Int))=true:=decide_eq_true q1;have q3:decide (a1<S.size)=true:=decide_eq_true q1';have q0:(0:Int)<=(a1:Int):=by omega
   obtain⟨y,hy⟩:∃y,zJ n lv a1=y:=⟨_,rfl⟩;obtain⟨z,hz2⟩:∃z,(y==60)=z:=⟨_,rfl⟩;rw[hy]at hbt ⊢;have hbb:S[a1].toNat=y:=by rw[←zT q1',hbt]
   have e2:((y:Int)==60)=z:=by rw[←hz2,Bool.eq_iff_iff];simp;omega
   rw[hz2];clear hB hM hS hx HR HH kW hn hz hy hz2 hbt h60 ha ha1;go_enter func80,ntmps80;go_wp2
   go_quiet (first|with_reducible exact Calls.quiet_of (HR1.out _)|with_reducible exact Calls.quiet_of (PY.out _))
   go_wp2;go_ret;exact⟨rfl,_,rfl⟩
  ·have q1:¬(a1:Int)<(S.size:Int):=by omega
   have q2:decide ((a1:Int)<(S.size:Int))=false:=decide_eq_false q1;have q3:decide (a1<S.size)=false:=by simp;omega
   have e2:(zJ n lv a1==60)=false:=by
    have:zJ n lv a1≠60:=λe=>by
     have:=Xd (lv:=lv) (n:=n) (i:=a1) (by omega);omega
    simpa using this
   rw[e2];clear hB hM hS hx HR HH kW hn hz h60 ha e2 ha1;go_enter func80,ntmps80;go_wp2
   go_quiet (first|with_reducible exact Calls.quiet_of (HR1.out _)|with_reducible exact Calls.quiet_of (PY.out _))
   go_wp2;go_ret;exact⟨rfl,_,rfl⟩
 ·have PY:=hid (λm=>HH.out m false (by simpa using h35))
  have e35:(x==35)=false:=by simpa using h35
  rw[e35,Bool.false_and];clear hB hM hS hx HR HH kW hn hz c1 c3 hw ha e35 e60 h35 h60;go_enter func80,ntmps80;go_wp2
  go_quiet (first|with_reducible exact Calls.quiet_of (HR1.out _)|with_reducible exact Calls.quiet_of (PY.out _))
  go_wp2;go_ret;exact⟨rfl,_,rfl⟩
end
end Go.Proofs.YtkolpaonccmgiaaGreatDoor.Q

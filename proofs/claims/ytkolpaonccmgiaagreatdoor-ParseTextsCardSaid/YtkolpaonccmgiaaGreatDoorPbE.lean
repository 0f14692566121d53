/- What Of of layer 13 (parse) returns, and the state -/
import Derived.Test.YtkolpaonccmgiaaGreatDoorPbB
import Derived.Test.YtkolpaonccmgiaaGreatDoorSa
import Derived.Test.YtkolpaonccmgiaaGreatDoorTt
namespace Go.Proofs.YtkolpaonccmgiaaGreatDoor.Q
set_option linter.unusedSectionVars false
set_option linter.unusedVariables false
open Go.Proofs.Tryz
open Lib(hid)
set_option maxHeartbeats 8000000
set_option maxRecDepth 100000
open Go.RowKit
def toL(x:Go.Proofs.YtkolpaonccmgiaaGreatDoor.Lf):Lf:=⟨x.kind,x.text,x.zh,x.en⟩
def Kr(F:List Go.Proofs.YtkolpaonccmgiaaGreatDoor.Lf)(i:Nat):Lf:=match F[i]? with|some x=>toL x|none=>lf0
theorem zaL{F:List Go.Proofs.YtkolpaonccmgiaaGreatDoor.Lf}{i:Nat}{x:Go.Proofs.YtkolpaonccmgiaaGreatDoor.Lf}(h:F[i]?=some x):Kr F i=toL x:=by unfold Kr;rw[h]
def Zk(s:ByteArray):List Go.Proofs.YtkolpaonccmgiaaGreatDoor.Lf:=uJ s (((vY s).map Prod.fst).map Tk.z)
theorem zaM{w:World}{oa:Option Addr}{n:Nat}{F:List Go.Proofs.YtkolpaonccmgiaaGreatDoor.Lf}(h:J3 w oa n F):ZQ w oa n (Kr F):=λi hi=>by
 have hl:=h.len;obtain⟨x,hx⟩:∃x,F[i]?=some x:=⟨F[i]'(by omega),List.getElem?_eq_getElem _⟩;obtain⟨b,off,h1,h2,h3,h4,h5,h6⟩:=h.cells i x hx;rw[zaL hx];exact⟨b,off,h1,h2,h3,h4,h5,h6⟩
theorem zaN(s:ByteArray):(Zk s).length<=s.size:=by
 have h1:=PV s (((vY s).map Prod.fst).map Tk.z);have h2:=NH s s.size 0 Lx.zero;rw[show Yj s s.size 0 Lx.zero=vY s from rfl]at h2;simp only[List.length_map]at h1;exact Nat.le_trans h1 h2
theorem zi3(s:ByteArray)(t:Tz):(J4 s t).size<=s.size:=by
 unfold J4;split
 ·rw[ByteArray.size_extract]
  omega
 ·exact Nat.zero_le _
theorem zi4(s:ByteArray):∀(l:List Tz) (x:Go.Proofs.YtkolpaonccmgiaaGreatDoor.Lf),x∈uJ s l->x.text.size<=s.size:=by
 intro l x hx;obtain⟨t,_,ht⟩:=List.mem_flatMap.1 hx;unfold Kt at ht;split at ht
 ·rw[List.mem_singleton]at ht
  subst ht;exact zi3 s t
 ·cases ht
theorem zaO{s:ByteArray}(hs:s.size<=100):∀i,i<(Zk s).length->(Kr (Zk s) i).s.size<=100:=by
 intro i hi;obtain⟨x,hx⟩:∃x,(Zk s)[i]?=some x:=⟨(Zk s)[i]'hi,List.getElem?_eq_getElem _⟩;rw[zaL hx];exact Nat.le_trans (zi4 s _ x (List.mem_of_getElem? hx)) hs
section
variable(w:World)
theorem zaP(s:ByteArray)(hs:s.size<=100)(hT:Tx w):
  Calls prog 17 #[.string s] w λe w'=>∃fa fc L oa oc,e=.returned (.tuple #[.slice fa (Zk s).length fc,.slice oa L.length oc])/\Jh (Zk s).length (Kr (Zk s)) L/\J3 w' fa (Zk s).length (Zk s)/\kz w' oa L.length (nl L)/\Below w.heap.size w w':=by
 have Di:=hid (zi5 w s (by omega) hT);have Vp:=hid hT;have hlen:=NH s s.size 0 Lx.zero;rw[show Yj s s.size 0 Lx.zero=vY s from rfl]at hlen;have Le:=hid (λW oa n c (h:Dj W oa n (((vY s).map Prod.fst).map Tk.z)) (hn:n<=900000)=>zi6 W s _ oa n c h (by omega) hn);have Xg:=hid (zaO hs);have hll:=zaN s;clear hT;go_enter func17,ntmps17
 go_wp2_with fail
 refine Di.out.mono ?_;rintro e w1 ⟨v,oa,n,c,rfl,hO1,hX1,hb1⟩;obtain⟨ta,tc,rfl,hK1⟩:=Ku.Y2 (by rw[List.length_map]) hO1;unfold zM;obtain⟨aw,haw⟩:∃aw:Int,((Yk (vY s)).await:Int)=aw:=⟨_,rfl⟩;obtain⟨bd,hbd⟩:∃bd,(Yk (vY s)).body=bd:=⟨_,rfl⟩;rw[haw,hbd];have hb2:Below w.heap.size w (w1.alloc (.cells #[.int .i64 aw,.slice oa n c,.bool bd] 62)):=hb1.alloc hb1.size _;have hr2:=(Ku.z hK1).below ((Below.refl _ w1).alloc (Nat.le_refl _) (.cells #[.int .i64 aw,.slice oa n c,.bool bd] 62));obtain⟨w2,hw2⟩:∃w2,w1.alloc (.cells #[.int .i64 aw,.slice oa n c,.bool bd] 62)=w2:=⟨_,rfl⟩;rw[hw2]at hb2 hr2;obtain⟨N,hN⟩:∃N,(vY s).length=N:=⟨_,rfl⟩;rw[hN]at hr2 hlen ⊢;have HL:=hid (Le.out w2 ta N tc hr2 (by omega));have HB2:=hid hb2;clear hO1 hX1 hb1 hK1 haw hbd hb2 hr2 hN Di Le
 go_wp2_with fail
 refine HL.out.mono ?_;rintro e w3 ⟨v,rfl,hO3,hb3⟩;obtain⟨fa,fc,rfl,hF3⟩:=J3.Y2 rfl hO3;have hB3:=HB2.out.trans (hb3.mono HB2.out.size);obtain⟨z,hz⟩:∃z,(Zk s).length=z:=⟨_,rfl⟩;have hz':(uJ s (((vY s).map Prod.fst).map Tk.z)).length=z:=hz;change J3 w3 fa (Zk s).length (Zk s)at hF3;rw[hz'];rw[hz]at hll hF3;have hsm:=Xg.out;rw[hz]at hsm;have HP:=hid (ziR (lc:=fc) w3 (zaM hF3) (Vp.out.b hB3) hsm (by omega));have HF3:=hid hF3;have HB3:=hid hB3;have HZ:=hid hz;clear hO3 hb3 hF3 hB3 hz hz' hsm Xg HL
 go_wp2_with fail
 refine HP.out.mono ?_;rintro e w4 ⟨L,VM,oc4,rfl,hT4,hO4,hb4⟩;have HX:=hid (And.intro hT4 (And.intro (HF3.out.below hb4) (And.intro (zaQ hO4).2 (HB3.out.trans (hb4.mono HB3.out.size)))));obtain⟨m,hm⟩:∃m,L.length=m:=⟨_,rfl⟩;rw[hm]at HX ⊢;have HM:=hid hm;clear hT4 hO4 hb4 hm;go_wp2;go_ret2;refine⟨fa,fc,L,VM,oc4,?_,?_,?_,?_,HX.out.2.2.2⟩
 ·rw[HM.out,HZ.out];rfl
 ·rw[HZ.out];exact HX.out.1
 ·rw[HZ.out];exact HX.out.2.1
 ·rw[HM.out];exact HX.out.2.2.1
end
def Em:ByteArray:=⟨#[105,102,32,97,59,32,116,104,101,110]⟩
def LJ:List Go.Proofs.YtkolpaonccmgiaaGreatDoor.Lf:=[⟨6,⟨#[105,102]⟩,0,2⟩,⟨6,⟨#[97]⟩,3,4⟩,⟨4,⟨#[59]⟩,4,5⟩,⟨6,⟨#[116,104,101,110]⟩,6,10⟩]
theorem zi7:Zk Em=LJ:=by kernel_rfl
def awP:Option PS:=ZT 4 (Kr LJ) 100 (.node 1 false (uZ 4 (Kr LJ))) ps0
theorem zi8:(match awP with|none=>false|some s=>s.a==4 &&(jm (qh (nl s.L)) s.L.length).length==2)=true:=by kernel_rfl
theorem zi9:∃L,Jh 4 (Kr LJ) L/\(jm (qh (nl L)) L.length).length=2:=by
 have h:=zi8
 cases e:awP with
 |none=>rw[e]at h;cases h
 |some s=>
  rw[e]at h;simp only[Bool.and_eq_true,beq_iff_eq]at h;exact⟨s.L,⟨s,zh8 4 (Kr LJ) _ _ _ _ e,h.1,rfl⟩,h.2⟩
section
variable(w:World)
theorem zja(hT:Tx w):Calls prog 10 #[] w λe w'=>e=.returned (.bool true)/\Below w.heap.size w w':=by
 have HO:=hid (zaP w Em (by decide) hT);clear hT;unfold Em at HO;rw[show Zk (⟨#[105,102,32,97,59,32,116,104,101,110]⟩:ByteArray)=LJ from zi7]at HO;go_enter func10,ntmps10
 go_wp2_with fail
 refine HO.out.mono ?_;rintro e w1 ⟨fa,fc,L,oa,oc,rfl,hTr,hF,hN,hb1⟩;obtain⟨L2,hT2,h2⟩:=zi9;have En:Jh 4 (Kr LJ) L:=hTr;have GZ:=En.one hT2;rw[←GZ]at h2;have hl:=En.len.2;obtain⟨m,hm⟩:∃m,L.length=m:=⟨_,rfl⟩;rw[hm]at hN h2 hl ⊢;have HFA:=hid (zi1 w1 oa m oc (nl L) hN (by omega));have hcl:=λW (h:Below w1.heap.size w1 W)=>zi2 W oa m oc (nl L) (hN.below h) (by omega);rw[show decide (jm (qh (nl L)) m=[])=false from decide_eq_false (λe=>by rw[e]at h2;cases h2)]at hcl;have XK:=hid hcl;rw[h2]at HFA;have HB1:=hid hb1;clear hTr hF hN hb1 hT2 En GZ hl hm hcl h2 HO
 go_wp2_with fail
 refine HFA.out.mono ?_;rintro e w2 ⟨v,rfl,hO2,hb2⟩;obtain⟨va,vc,rfl⟩:=KX hO2;have HB2:=hid hb2;clear hO2 hb2
 go_wp2_with fail
 refine(XK.out _ HB2.out).mono ?_;rintro e w3 ⟨rfl,hb3⟩;have HB3:=hid (HB1.out.trans ((HB2.out.trans (hb3.mono HB2.out.size)).mono HB1.out.size));clear hb3;go_wp2;go_ret;exact⟨rfl,HB3.out⟩
end
end Go.Proofs.YtkolpaonccmgiaaGreatDoor.Q

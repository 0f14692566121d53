/- What Of of layer 13 (parse) returns, and the state -/
import Derived.Test.YtkolpaonccmgiaaGreatDoorPbB
import Derived.Test.YtkolpaonccmgiaaGreatDoorSa
import Derived.Test.YtkolpaonccmgiaaGreatDoorTkZ
set_option linter.unusedVariables false
namespace Go.Proofs.YtkolpaonccmgiaaGreatDoor.Q
set_option linter.unusedSectionVars false
set_option linter.unusedVariables false
open Go.RowKit
def toL (x:Go.Proofs.YtkolpaonccmgiaaGreatDoor.Lf):Lf:=⟨x.kind,x.text,x.frm,x.en⟩
def lvOf (F:List Go.Proofs.YtkolpaonccmgiaaGreatDoor.Lf) (i:Nat):Lf:=match F[i]? with|some x=>toL x|none=>lf0
theorem lvOf_at {F:List Go.Proofs.YtkolpaonccmgiaaGreatDoor.Lf} {i:Nat} {x:Go.Proofs.YtkolpaonccmgiaaGreatDoor.Lf} (h:F[i]?=some x):lvOf F i=toL x:=by unfold lvOf;rw [h]
def lvS (s:ByteArray):List Go.Proofs.YtkolpaonccmgiaaGreatDoor.Lf:=lfs s (((TKs s).map Prod.fst).map Tk.z)
theorem rdf_row {w:World} {oa:Option Addr} {n:Nat} {F:List Go.Proofs.YtkolpaonccmgiaaGreatDoor.Lf} (h:RdF w oa n F):LfRow w oa n (lvOf F):=fun i hi=>by
 have hl:=h.len
 obtain⟨x,hx⟩:∃x,F[i]?=some x:=⟨F[i]'(by omega),List.getElem?_eq_getElem _⟩
 obtain⟨b,off,h1,h2,h3,h4,h5,h6⟩:=h.cells i x hx
 rw [lvOf_at hx]
 exact⟨b,off,h1,h2,h3,h4,h5,h6⟩
theorem lvS_len (s:ByteArray):(lvS s).length≤s.size:=by
 have h1:=lfs_len s (((TKs s).map Prod.fst).map Tk.z)
 have h2:=tksF_len s s.size 0 Lx.zero
 rw [show tksF s s.size 0 Lx.zero=TKs s from rfl]at h2
 simp only [List.length_map]at h1
 exact Nat.le_trans h1 h2
theorem txZ_size (s:ByteArray) (t:Tz):(txZ s t).size≤s.size:=by
 unfold txZ
 split
 ·rw [ByteArray.size_extract]
  omega
 ·exact Nat.zero_le _
theorem lfs_sml (s:ByteArray):∀(l:List Tz) (x:Go.Proofs.YtkolpaonccmgiaaGreatDoor.Lf),x∈lfs s l→x.text.size≤s.size:=by
 intro l x hx
 obtain⟨t,_,ht⟩:=List.mem_flatMap.1 hx
 unfold lfF at ht
 split at ht
 ·rw [List.mem_singleton]at ht
  subst ht
  exact txZ_size s t
 ·cases ht
theorem lvOf_sml {s:ByteArray} (hs:s.size≤100):∀i,i<(lvS s).length→(lvOf (lvS s) i).s.size≤100:=by
 intro i hi
 obtain⟨x,hx⟩:∃x,(lvS s)[i]?=some x:=⟨(lvS s)[i]'hi,List.getElem?_eq_getElem _⟩
 rw [lvOf_at hx]
 exact Nat.le_trans (lfs_sml s _ x (List.mem_of_getElem? hx)) hs
section
variable (w:World)
set_option maxRecDepth 100000 in
set_option maxHeartbeats 4000000 in
theorem ofP_any (s:ByteArray) (hs:s.size≤100) (hT:Tx w):
  Calls Tryz.prog 17 #[.string s] w fun e w'=>∃fa fc L oa oc,e=.returned (.tuple #[.slice fa (lvS s).length fc,.slice oa L.length oc])∧Tree (lvS s).length (lvOf (lvS s)) L∧RdF w' fa (lvS s).length (lvS s)∧NRow w' oa L.length (nl L)∧Below w.heap.size w w':=by
 have HLX:=Lib.hid (lex_any w s (by omega) hT)
 have HTX:=Lib.hid hT
 have hlen:=tksF_len s s.size 0 Lx.zero
 rw [show tksF s s.size 0 Lx.zero=TKs s from rfl]at hlen
 have HTL:=Lib.hid (fun W oa n c (h:RdZ W oa n (((TKs s).map Prod.fst).map Tk.z)) (hn:n≤900000)=>tleaves_any W s _ oa n c h (by omega) hn)
 have HSM:=Lib.hid (lvOf_sml hs)
 have hll:=lvS_len s
 clear hT
 go_enter Tryz.func17,Tryz.ntmps17
 go_wp2_with fail
 refine HLX.out.mono ?_
 rintro e w1 ⟨v,oa,n,c,rfl,hO1,hX1,hb1⟩
 obtain⟨ta,tc,rfl,hK1⟩:=RdK.of_own (by rw [List.length_map]) hO1
 unfold aggL
 obtain⟨aw,haw⟩:∃aw:Int,((lstX (TKs s)).await:Int)=aw:=⟨_,rfl⟩
 obtain⟨bd,hbd⟩:∃bd,(lstX (TKs s)).body=bd:=⟨_,rfl⟩
 rw [haw,hbd]
 have hb2:Below w.heap.size w (w1.alloc (.cells #[.int .i64 aw,.slice oa n c,.bool bd] 62)):=hb1.alloc hb1.size _
 have hr2:=(RdK.z hK1).below ((Below.refl _ w1).alloc (Nat.le_refl _) (.cells #[.int .i64 aw,.slice oa n c,.bool bd] 62))
 obtain⟨w2,hw2⟩:∃w2,w1.alloc (.cells #[.int .i64 aw,.slice oa n c,.bool bd] 62)=w2:=⟨_,rfl⟩
 rw [hw2]at hb2 hr2
 obtain⟨N,hN⟩:∃N,(TKs s).length=N:=⟨_,rfl⟩
 rw [hN]at hr2 hlen ⊢
 have HL:=Lib.hid (HTL.out w2 ta N tc hr2 (by omega))
 have HB2:=Lib.hid hb2
 clear hO1 hX1 hb1 hK1 haw hbd hb2 hr2 hN HLX HTL
 go_wp2_with fail
 refine HL.out.mono ?_
 rintro e w3 ⟨v,rfl,hO3,hb3⟩
 obtain⟨fa,fc,rfl,hF3⟩:=RdF.of_own rfl hO3
 have hB3:=HB2.out.trans (hb3.mono HB2.out.size)
 obtain⟨z,hz⟩:∃z,(lvS s).length=z:=⟨_,rfl⟩
 have hz':(lfs s (((TKs s).map Prod.fst).map Tk.z)).length=z:=hz
 change RdF w3 fa (lvS s).length (lvS s)at hF3
 rw [hz']
 rw [hz]at hll hF3
 have hsm:=HSM.out
 rw [hz]at hsm
 have HP:=Lib.hid (parse_any (lc:=fc) w3 (rdf_row hF3) (HTX.out.b hB3) hsm (by omega))
 have HF3:=Lib.hid hF3
 have HB3:=Lib.hid hB3
 have HZ:=Lib.hid hz
 clear hO3 hb3 hF3 hB3 hz hz' hsm HSM HL
 go_wp2_with fail
 refine HP.out.mono ?_
 rintro e w4 ⟨L,oa4,oc4,rfl,hT4,hO4,hb4⟩
 have HX:=Lib.hid (And.intro hT4 (And.intro (HF3.out.below hb4) (And.intro (owns_nrow hO4).2 (HB3.out.trans (hb4.mono HB3.out.size)))))
 obtain⟨m,hm⟩:∃m,L.length=m:=⟨_,rfl⟩
 rw [hm]at HX ⊢
 have HM:=Lib.hid hm
 clear hT4 hO4 hb4 hm
 go_wp2
 go_ret2
 refine⟨fa,fc,L,oa4,oc4,?_,?_,?_,?_,HX.out.2.2.2⟩
 ·rw [HM.out,HZ.out];rfl
 ·rw [HZ.out];exact HX.out.1
 ·rw [HZ.out];exact HX.out.2.1
 ·rw [HM.out];exact HX.out.2.2.1
end
def awS:ByteArray:=⟨#[105,102,32,97,59,32,116,104,101,110]⟩
def awF:List Go.Proofs.YtkolpaonccmgiaaGreatDoor.Lf:=[⟨6,⟨#[105,102]⟩,0,2⟩,⟨6,⟨#[97]⟩,3,4⟩,⟨4,⟨#[59]⟩,4,5⟩,⟨6,⟨#[116,104,101,110]⟩,6,10⟩]
theorem aw_lv:lvS awS=awF:=by kernel_rfl
def awP:Option PS:=runP 4 (lvOf awF) 100 (.node 1 false (prgP 4 (lvOf awF))) ps0
theorem aw_run:(match awP with|none=>false|some s=>s.a==4 &&(selN (fltB (nl s.L)) s.L.length).length==2)=true:=by kernel_rfl
theorem aw_tree:∃L,Tree 4 (lvOf awF) L∧(selN (fltB (nl L)) L.length).length=2:=by
 have h:=aw_run
 cases e:awP with
 |none=>rw [e]at h;cases h
 |some s=>
  rw [e]at h
  simp only [Bool.and_eq_true,beq_iff_eq]at h
  exact⟨s.L,⟨s,runP_ev 4 (lvOf awF) _ _ _ _ e,h.1,rfl⟩,h.2⟩
section
variable (w:World)
set_option maxRecDepth 100000 in
set_option maxHeartbeats 4000000 in
theorem awakeP_any (hT:Tx w):Calls Tryz.prog 10 #[] w fun e w'=>e=.returned (.bool true)∧Below w.heap.size w w':=by
 have HO:=Lib.hid (ofP_any w awS (by decide) hT)
 clear hT
 unfold awS at HO
 rw [show lvS (⟨#[105,102,32,97,59,32,116,104,101,110]⟩:ByteArray)=awF from aw_lv]at HO
 go_enter Tryz.func10,Tryz.ntmps10
 go_wp2_with fail
 refine HO.out.mono ?_
 rintro e w1 ⟨fa,fc,L,oa,oc,rfl,hTr,hF,hN,hb1⟩
 obtain⟨L2,hT2,h2⟩:=aw_tree
 have hTr':Tree 4 (lvOf awF) L:=hTr
 have hLL:=hTr'.one hT2
 rw [←hLL]at h2
 have hl:=hTr'.len.2
 obtain⟨m,hm⟩:∃m,L.length=m:=⟨_,rfl⟩
 rw [hm]at hN h2 hl ⊢
 have HFA:=Lib.hid (faults_any w1 oa m oc (nl L) hN (by omega))
 have hcl:=fun W (h:Below w1.heap.size w1 W)=>clean_any W oa m oc (nl L) (hN.below h) (by omega)
 rw [show decide (selN (fltB (nl L)) m=[])=false from decide_eq_false (fun e=>by rw [e]at h2;cases h2)]at hcl
 have HCL:=Lib.hid hcl
 rw [h2]at HFA
 have HB1:=Lib.hid hb1
 clear hTr hF hN hb1 hT2 hTr' hLL hl hm hcl h2 HO
 go_wp2_with fail
 refine HFA.out.mono ?_
 rintro e w2 ⟨v,rfl,hO2,hb2⟩
 obtain⟨va,vc,rfl⟩:=own_slice hO2
 have HB2:=Lib.hid hb2
 clear hO2 hb2
 go_wp2_with fail
 refine(HCL.out _ HB2.out).mono ?_
 rintro e w3 ⟨rfl,hb3⟩
 have HB3:=Lib.hid (HB1.out.trans ((HB2.out.trans (hb3.mono HB2.out.size)).mono HB1.out.size))
 clear hb3
 go_wp2
 go_ret
 exact⟨rfl,HB3.out⟩
end
end Go.Proofs.YtkolpaonccmgiaaGreatDoor.Q

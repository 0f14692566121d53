/- Tokens and leaves of any kind, plainly; what stand -/
import Derived.Test.YtkolpaonccmgiaaGreatDoorTkS
set_option linter.unusedVariables false
namespace Go.Proofs.YtkolpaonccmgiaaGreatDoor
set_option linter.unusedSectionVars false
set_option linter.unusedVariables false
open Go.RowKit
structure Tz where
 kind:Int
 frm:Int
 en:Int
 op:Bool
structure Lf where
 kind:Int
 text:ByteArray
 frm:Int
 en:Int
def Tk.z (t:Tk):Tz:=⟨t.kind,t.frm,t.en,t.op⟩
def aggZ (t:Tz):Value:=.agg #[.int .i64 t.kind,.int .i64 t.frm,.int .i64 t.en,.bool t.op]
def inZ (s:ByteArray) (t:Tz):Bool:=decide (0≤t.frm)&&(decide (t.frm≤t.en)&& decide (t.en≤(s.size:Int)))
def txZ (s:ByteArray) (t:Tz):ByteArray:=if inZ s t=true then s.extract t.frm.toNat t.en.toNat else⟨#[]⟩
def lfK (k:Int):Bool:=decide (k=2)||(decide (k=4)||(decide (k=5)||decide (k=6)))
def lfF (s:ByteArray) (t:Tz):List Lf:=if lfK t.kind=true∧inZ s t=true then [⟨t.kind,txZ s t,t.frm,t.en⟩]else []
def lfs (s:ByteArray) (l:List Tz):List Lf:=l.flatMap (lfF s)
theorem lfs_snoc (s:ByteArray) (l:List Tz) (t:Tz):lfs s (l++ [t])=lfs s l++lfF s t:=by
 unfold lfs
 rw [List.flatMap_append]
 simp
theorem lfF_len (s:ByteArray) (t:Tz):(lfF s t).length≤1:=by
 unfold lfF
 split
 ·exact Nat.le_refl _
 ·exact Nat.zero_le _
theorem lfs_len (s:ByteArray):∀l:List Tz,(lfs s l).length≤l.length
 | []=>Nat.zero_le _
 |t::l=>by
  have h1:=lfF_len s t
  have h2:=lfs_len s l
  have e:lfs s (t::l)=lfF s t++lfs s l:=by unfold lfs;rw [List.flatMap_cons]
  rw [e,List.length_append,List.length_cons]
  omega
theorem lfs_take (s:ByteArray) {l:List Tz} {j:Nat} {t:Tz} (h:l[j]?=some t):lfs s (l.take (j+1))=lfs s (l.take j)++lfF s t:=by
 rw [List.take_add_one,h]
 exact lfs_snoc s _ t
structure RdZ (W:World) (oa:Option Addr) (n:Nat) (l:List Tz):Prop where
 len:n=l.length
 cells:∀(j:Nat) t,l[j]?=some t→∃b off,oa=some ⟨b,off,none⟩∧b<W.heap.size∧W.cell? ⟨b,off+j*4,none⟩=some (.int .i64 t.kind)∧W.cell? ⟨b,off+j*4+1,none⟩=some (.int .i64 t.frm)∧W.cell? ⟨b,off+j*4+2,none⟩=some (.int .i64 t.en)∧W.cell? ⟨b,off+j*4+3,none⟩=some (.bool t.op)
theorem RdZ.below {W W':World} {oa:Option Addr} {n:Nat} {l:List Tz} (h:RdZ W oa n l) (hb:Below W.heap.size W W'):RdZ W' oa n l:=
 ⟨h.len,fun j d hj=>by
  obtain⟨b,off,h1,h2,h3,h4,h5,h6⟩:=h.cells j d hj
  have e:∀o,W'.cell? ⟨b,o,none⟩=W.cell? ⟨b,o,none⟩:=fun o=>hb.cell (p:=⟨b,o,none⟩) h2
  exact⟨b,off,h1,Nat.lt_of_lt_of_le h2 hb.size,(e _).trans h3,(e _).trans h4,(e _).trans h5,(e _).trans h6⟩⟩
theorem RdK.z {W:World} {oa:Option Addr} {n:Nat} {l:List Tk} (h:RdK W oa n l):RdZ W oa n (l.map Tk.z):=
 ⟨by rw [List.length_map];exact h.len,fun j t hj=>by
  rw [List.getElem?_map]at hj
  obtain⟨u,hu1,hu2⟩:=Option.map_eq_some_iff.1 hj
  subst hu2
  exact h.cells j u hu1⟩
def cellLf (x:Lf):List Value:=[.int .i64 x.kind,.string x.text,.int .i64 x.frm,.int .i64 x.en]
def cellsLf (l:List Lf):List Value:=l.flatMap cellLf
theorem cellsLf_append (l k:List Lf):cellsLf (l++k)=cellsLf l++cellsLf k:=by unfold cellsLf;rw [List.flatMap_append]
theorem cellLf_one (x:Lf):∀u∈cellLf x,u.oneCell'=true:=by
 intro u hu
 simp [cellLf]at hu
 rcases hu with rfl|rfl|rfl|rfl<;>rfl
theorem cellsLf_get:∀(l:List Lf) (j k:Nat) (t:Lf),l[j]?=some t→k<4→(cellsLf l)[j*4+k]?=(cellLf t)[k]?
 | [],j,k,t,h,_=>by cases h
 |a::l,0,k,t,h,hk=>by
  cases h
  show(cellLf a++cellsLf l)[0*4+k]?=_
  rw [List.getElem?_append_left (by show 0*4+k<4;omega),Nat.zero_mul,Nat.zero_add]
 |a::l,j+1,k,t,h,hk=>by
  show(cellLf a++cellsLf l)[(j+1)*4+k]?=_
  rw [List.getElem?_append_right (by show 4≤_;omega),show(j+1)*4+k - (cellLf a).length=j*4+k from by show(j+1)*4+k - 4=_;omega]
  exact cellsLf_get l j k t h hk
structure RdF (W:World) (oa:Option Addr) (n:Nat) (l:List Lf):Prop where
 len:n=l.length
 cells:∀(j:Nat) t,l[j]?=some t→∃b off,oa=some ⟨b,off,none⟩∧b<W.heap.size∧W.cell? ⟨b,off+j*4,none⟩=some (.int .i64 t.kind)∧W.cell? ⟨b,off+j*4+1,none⟩=some (.string t.text)∧W.cell? ⟨b,off+j*4+2,none⟩=some (.int .i64 t.frm)∧W.cell? ⟨b,off+j*4+3,none⟩=some (.int .i64 t.en)
theorem RdF.below {W W':World} {oa:Option Addr} {n:Nat} {l:List Lf} (h:RdF W oa n l) (hb:Below W.heap.size W W'):RdF W' oa n l:=
 ⟨h.len,fun j d hj=>by
  obtain⟨b,off,h1,h2,h3,h4,h5,h6⟩:=h.cells j d hj
  have e:∀o,W'.cell? ⟨b,o,none⟩=W.cell? ⟨b,o,none⟩:=fun o=>hb.cell (p:=⟨b,o,none⟩) h2
  exact⟨b,off,h1,Nat.lt_of_lt_of_le h2 hb.size,(e _).trans h3,(e _).trans h4,(e _).trans h5,(e _).trans h6⟩⟩
theorem RdF.of_own {W:World} {base:Nat} {v:Value} {l:List Lf} {n:Nat} (hn:n=l.length) (h:W.ownsRow base 37 4 v n (cellsLf l)):∃oa c,v=.slice oa n c∧RdF W oa n l:=by
 subst hn
 rcases Src.of_own h with⟨h1,h2,_⟩|⟨b,off,c,h1,h2,h3⟩
 ·have:=List.eq_nil_of_length_eq_zero h2
  subst this
  exact⟨none,0,h1,rfl,fun j t hj=>by cases hj⟩
 ·refine⟨_,c,h1,rfl,fun j t hj=>?_⟩
  have g:=fun k hk=>cellsLf_get l j k t hj hk
  refine⟨b,off,rfl,h2,h3 (j*4) _ (g 0 (by omega)),?_,?_,?_⟩
  ·exact h3 (j*4+1) _ (g 1 (by omega))
  ·exact h3 (j*4+2) _ (g 2 (by omega))
  ·exact h3 (j*4+3) _ (g 3 (by omega))
section
variable (w:World)
set_option maxHeartbeats 2000000 in
theorem standsZ_any (s:ByteArray) (t:Tz):Calls Tryz.prog 65 #[.string s,aggZ t] w fun e w'=>e=.returned (.bool (inZ s t))∧Below w.heap.size w w':=by
 obtain⟨tk,tf,te,top⟩:=t
 unfold aggZ inZ
 dsimp only
 have kb:=Blk.new w #[.int .i64 tk,.int .i64 tf,.int .i64 te,.bool top] 67
 have a1:=kb.cell 1
 have a2:=kb.cell 2
 have hB:=(Below.refl _ w).alloc (Nat.le_refl _) (.cells #[.int .i64 tk,.int .i64 tf,.int .i64 te,.bool top] 67)
 by_cases h1:0≤tf
 ·by_cases h2:tf≤te
  ·by_cases h3:te≤(s.size:Int)
   ·go_enter Tryz.func65,Tryz.ntmps65
    go_wp2
    go_ret
    exact⟨by simp [h1,h2,h3],hB⟩
   ·go_enter Tryz.func65,Tryz.ntmps65
    go_wp2
    go_ret
    exact⟨by simp;omega,hB⟩
  ·go_enter Tryz.func65,Tryz.ntmps65
   go_wp2
   go_ret
   exact⟨by simp;omega,hB⟩
 ·go_enter Tryz.func65,Tryz.ntmps65
  go_wp2
  go_ret
  exact⟨by simp;omega,hB⟩
set_option maxHeartbeats 2000000 in
theorem textZ_any (s:ByteArray) (t:Tz) (hs:s.size≤1000000):Calls Tryz.prog 66 #[.string s,aggZ t] w fun e w'=>e=.returned (.string (txZ s t))∧Below w.heap.size w w':=by
 have hst:=fun W=>standsZ_any W s t
 cases hin:inZ s t with
 |true=>
  have hcl:=fun W=>tclone_any (s.extract t.frm.toNat t.en.toNat) W (by rw [ByteArray.size_extract];omega)
  rw [hin]at hst
  have htx:txZ s t=s.extract t.frm.toNat t.en.toNat:=by unfold txZ;rw [if_pos hin]
  rw [htx]
  unfold inZ at hin
  simp only [Bool.and_eq_true,decide_eq_true_eq]at hin
  obtain⟨q0,q1,q2⟩:=hin
  clear htx
  obtain⟨tk,tf,te,top⟩:=t
  unfold aggZ at*
  dsimp only at*
  obtain⟨a,rfl⟩:=Int.eq_ofNat_of_zero_le q0
  obtain⟨b,rfl⟩:=Int.eq_ofNat_of_zero_le (show 0≤te by omega)
  rw [Int.toNat_natCast,Int.toNat_natCast]at*
  have HST:=Lib.hid hst
  have HCL:=Lib.hid hcl
  have kb:=Blk.new w #[.int .i64 tk,.int .i64 (a:Int),.int .i64 (b:Int),.bool top] 67
  have hB0:Below w.heap.size w (w.alloc (.cells #[.int .i64 tk,.int .i64 (a:Int),.int .i64 (b:Int),.bool top] 67)):=(Below.refl _ w).alloc (Nat.le_refl _) _
  have HB0:=Lib.hid hB0
  have HKB:=Lib.hid kb
  clear hst hcl hB0
  go_enter Tryz.func66,Tryz.ntmps66
  go_wp2_with fail
  refine(HST.out _).mono ?_
  rintro e w1 ⟨rfl,hb1⟩
  have k1:=HKB.out.below hb1
  have a1:=k1.cell 1
  have a2:=k1.cell 2
  go_wp2_with fail
  refine(HCL.out _).mono ?_
  rintro e w2 ⟨rfl,hb2⟩
  go_wp2
  go_ret
  have hz:=HB0.out.size
  exact⟨rfl,(HB0.out.trans (hb1.mono hz)).trans (hb2.mono (Nat.le_trans hz hb1.size))⟩
 |false=>
  rw [hin]at hst
  have htx:txZ s t=⟨#[]⟩:=by unfold txZ;rw [if_neg (by rw [hin];simp)]
  rw [htx]
  clear htx hin
  obtain⟨tk,tf,te,top⟩:=t
  unfold aggZ at*
  have HST:=Lib.hid hst
  have hB0:Below w.heap.size w (w.alloc (.cells #[.int .i64 tk,.int .i64 tf,.int .i64 te,.bool top] 67)):=(Below.refl _ w).alloc (Nat.le_refl _) _
  have HB0:=Lib.hid hB0
  clear hst hB0
  go_enter Tryz.func66,Tryz.ntmps66
  go_wp2_with fail
  refine(HST.out _).mono ?_
  rintro e w1 ⟨rfl,hb1⟩
  go_wp2
  go_ret
  exact⟨rfl,HB0.out.trans (hb1.mono HB0.out.size)⟩
set_option maxHeartbeats 2000000 in
theorem leaf_any (k:Int):Calls Tryz.prog 64 #[.int .i64 k] w fun e w'=>e=.returned (.bool (lfK k))∧w'=w:=by
 unfold lfK
 by_cases h4:k=4
 ·subst h4
  go_enter Tryz.func64,Tryz.ntmps64
  go_wp2
  go_ret
  exact⟨rfl,rfl⟩
 by_cases h5:k=5
 ·subst h5
  go_enter Tryz.func64,Tryz.ntmps64
  go_wp2
  go_ret
  exact⟨rfl,rfl⟩
 by_cases h6:k=6
 ·subst h6
  go_enter Tryz.func64,Tryz.ntmps64
  go_wp2
  go_ret
  exact⟨rfl,rfl⟩
 by_cases h2:k=2
 ·subst h2
  go_enter Tryz.func64,Tryz.ntmps64
  go_wp2
  go_ret
  exact⟨rfl,rfl⟩
 ·go_enter Tryz.func64,Tryz.ntmps64
  go_wp2
  go_ret
  exact⟨by simp [h2,h4,h5,h6],rfl⟩
end
theorem infoLf:(Tryz.prog.info? 37).map (fun i=>(i.zero,i.size,i.bytes))=some (some (.agg #[.int .i64 0,.string ⟨#[]⟩,.int .i64 0,.int .i64 0]),4,40):=by kernel_rfl
theorem src_f {W:World} {b:Nat} {x:Lf} (h:Blk W b #[.int .i64 x.kind,.string x.text,.int .i64 x.frm,.int .i64 x.en] 37):Src W (.slice (some ⟨b,0,none⟩) 1 1) 1 (cellLf x):=by
 refine .inr ⟨_,0,1,rfl,h.lt,fun j u hj=>?_⟩
 rw [Nat.zero_add,h.cell j]
 simpa [cellLf]using hj
def LvI (s:ByteArray) (l:List Tz) (w:World) (v4 v9:Value) (wr:World):Prop:=
 ∃i:Nat,i≤l.length∧v9=.int .i64 (i:Int)∧wr.ownsRow w.heap.size 37 4 v4 (lfs s (l.take i)).length (cellsLf (lfs s (l.take i)))∧Below w.heap.size w wr
section
variable (w:World) (s:ByteArray) (l:List Tz) (oa:Option Addr) (n c:Nat) (hR:RdZ w oa n l) (hs:s.size≤1000000) (hn:n≤900000)
include hR hs hn
set_option maxRecDepth 100000 in
set_option maxHeartbeats 8000000 in
theorem tleaves_any:Calls Tryz.prog 40 #[.string s,.slice oa n c] w fun e w'=>∃v,e=.returned v∧w'.ownsRow w.heap.size 37 4 v (lfs s l).length (cellsLf (lfs s l))∧Below w.heap.size w w':=by
 have hlen:=hR.len
 have HR:=Lib.hid hR
 have HLEN:=Lib.hid hlen
 have HTX:=Lib.hid (fun W t=>textZ_any W s t hs)
 have HST:=Lib.hid (fun W t=>standsZ_any W s t)
 clear hR hlen
 go_enter Tryz.func40,Tryz.ntmps40
 go_wp2
 go_loopw [4,9] (fun v4 v9 wr=>LvI s l w v4 v9 wr) (fun _ v _=>n - (intOf v).toNat)
 case atStart=>exact⟨0,Nat.zero_le _,rfl,World.ownsRow_nil _ _ _ _,Below.refl _ _⟩
 case round=>
  obtain⟨i,hi,rfl,hown,hBw⟩:=hrel
  obtain⟨ov,cv,rfl⟩:=own_slice hown
  have HO:=Lib.hid hown
  have HBW:=Lib.hid hBw
  have hL:=lfs_len s (l.take i)
  rw [List.length_take]at hL
  by_cases hlt:i<n
  ·have q1:(i:Int)<(n:Int):=by omega
   have q0:(0:Int)≤(i:Int):=by omega
   have hxa:l[i]?=some (l[i]'(by have:=HLEN.out;omega)):=List.getElem?_eq_getElem _
   generalize l[i]'(by have:=HLEN.out;omega)=x at hxa
   have hstep:=lfs_take s hxa
   obtain⟨g1,o1,rfl,h1,c0,c1,c2,c3⟩:=(HR.out.below hBw).cells i x hxa
   have HTZ:=Lib.hid (fun W=>HTX.out W x)
   have HSZ:=Lib.hid (fun W=>HST.out W x)
   have hF:lfF s x=if lfK x.kind=true∧inZ s x=true then [⟨x.kind,txZ s x,x.frm,x.en⟩]else []:=rfl
   rw [hF]at hstep
   obtain⟨tk,tf,te,top⟩:=x
   unfold aggZ at HTZ HSZ
   dsimp only at*
   generalize txZ s ⟨tk,tf,te,top⟩=TX at*
   obtain⟨z,hz⟩:∃z,(lfs s (l.take i)).length=z:=⟨_,rfl⟩
   rw [hz]at HO hL ⊢
   have HZ:=Lib.hid hz
   have HSTEP:=Lib.hid hstep
   have hi6:i+1≤l.length:=by have:=HLEN.out;omega
   have HI6:=Lib.hid hi6
   have hol:=own_lt HO.out
   have hog:=own_ge HO.out
   have HOL:=Lib.hid hol
   have HOG:=Lib.hid hog
   have kb:=Blk.new wr #[.int .i64 tk,.int .i64 tf,.int .i64 te,.bool top] 67
   have hal:=(Below.refl wr.heap.size wr).alloc (Nat.le_refl _) (.cells #[.int .i64 tk,.int .i64 tf,.int .i64 te,.bool top] 67)
   have HAL:=Lib.hid hal
   clear hown hxa hF hstep hi6 hz hol hog hal
   go_wp2_with fail
   obtain⟨W1,hW1⟩:∃X,wr.alloc (.cells #[.int .i64 tk,.int .i64 tf,.int .i64 te,.bool top] 67)=X:=⟨_,rfl⟩
   have hz1:W1.heap.size=wr.heap.size+1:=by rw [←hW1,World.size_alloc]
   rw [hW1]at kb HAL ⊢
   have ho1:=own_below HO.out HAL.out
   have hB1:=HBW.out.trans (HAL.out.mono HBW.out.size)
   have HO1:=Lib.hid ho1
   have HB1:=Lib.hid hB1
   clear hW1 ho1 hB1 HAL HO HR
   obtain⟨Bt,hBt⟩:∃z,wr.heap.size=z:=⟨_,rfl⟩
   have HBT:=Lib.hid hBt
   rw [hBt]at kb hz1 ⊢
   clear hBt
   have kb0:=kb
   refine(leaf_any W1 tk).mono ?_
   rintro e wl ⟨rfl,rfl⟩
   obtain⟨K,hK⟩:∃K,lfK tk=K:=⟨_,rfl⟩
   obtain⟨I,hI⟩:∃I,inZ s ⟨tk,tf,te,top⟩=I:=⟨_,rfl⟩
   rw [hK]at HSTEP ⊢
   rw [hI]at HSTEP HSZ
   clear hK hI
   have a0:=kb.cell 0
   have a1:=kb.cell 1
   have a2:=kb.cell 2
   have a3:=kb.cell 3
   have HKB:=Lib.hid kb
   have same:(K && I)=false→wl.ownsRow w.heap.size 37 4 (.slice ov z cv) (lfs s (l.take (i+1))).length (cellsLf (lfs s (l.take (i+1)))):=fun h=>by
    have e:¬(K=true∧I=true):=fun q=>by rw [q.1,q.2]at h;cases h
    rw [HSTEP.out,if_neg e,List.append_nil,HZ.out]
    exact HO1.out
   have SAME:=Lib.hid same
   clear same kb0 kb
   cases K with
   |false=>
    go_wp2
    go_roundw
    case rel=>exact⟨i+1,HI6.out,by go_num,SAME.out rfl,HB1.out⟩
    case measure=>simp [intOf];omega
   |true=>
    go_wp2_with fail
    refine(HSZ.out _).mono ?_
    rintro e w3 ⟨rfl,hb3⟩
    cases I with
    |false=>
     have HB3:=Lib.hid hb3
     clear hb3
     go_wp2
     go_roundw
     case rel=>exact⟨i+1,HI6.out,by go_num,own_below (SAME.out rfl) HB3.out,HB1.out.trans (HB3.out.mono HB1.out.size)⟩
     case measure=>simp [intOf];omega
    |true=>
     have kb3:=HKB.out.below hb3
     have ho3:=own_below HO1.out hb3
     have HO3:=Lib.hid ho3
     have HB3:=Lib.hid (HB1.out.trans (hb3.mono HB1.out.size))
     have HTZ2:=Lib.hid (fun W=>(HTZ.out W).mono (fun e w' (h:e=.returned (.string TX)∧Below W.heap.size W w')=>(⟨_,h.1,rfl,h.2⟩:∃v,e=.returned v∧(v=.string TX∧Below W.heap.size W w'))))
     have hz3:Bt+1≤w3.heap.size:=by have:=hb3.size;omega
     clear a0 a1 a2 a3 ho3 hb3 HKB
     have a1:=kb3.cell 1
     have a0:=kb3.cell 0
     have a2:=kb3.cell 2
     have a3:=kb3.cell 3
     go_upto_region 5 with fail
     have e0:w3.drew.cell? ⟨Bt,0,none⟩=some (.int .i64 tk)∧w3.drew.cell? ⟨Bt,1,none⟩=some (.int .i64 tf)∧w3.drew.cell? ⟨Bt,2,none⟩=some (.int .i64 te)∧w3.drew.cell? ⟨Bt,3,none⟩=some (.bool top):=⟨a0,a1,a2,a3⟩
     clear a0 a1 a2 a3
     go_region_held_law (fun w'=>w'.cell? ⟨Bt,0,none⟩=some (.int .i64 tk)∧w'.cell? ⟨Bt,1,none⟩=some (.int .i64 tf)∧w'.cell? ⟨Bt,2,none⟩=some (.int .i64 te)∧w'.cell? ⟨Bt,3,none⟩=some (.bool top)) (first|exact e0|exact s4|exact s4a _|exact s9) (first
      |(refine step_call (by rfl) Tryz.func66 (by kernel_rfl) (by kernel_rfl) _ _ (by rfl) [.string s,.agg #[.int .i64 tk,.int .i64 tf,.int .i64 te,.bool top]] (by rfl) _ (HTZ2.out _) ?_;intro v w4 hh;obtain⟨hv4,hb4⟩:=hh;subst hv4;have kb4:=kb3.drew.below hb4;have s4:w4.cell? ⟨Bt,0,none⟩=some (.int .i64 tk)∧w4.cell? ⟨Bt,1,none⟩=some (.int .i64 tf)∧w4.cell? ⟨Bt,2,none⟩=some (.int .i64 te)∧w4.cell? ⟨Bt,3,none⟩=some (.bool top):=⟨kb4.cell 0,kb4.cell 1,kb4.cell 2,kb4.cell 3⟩;have s4a:∀o,(w4.alloc o).cell? ⟨Bt,0,none⟩=some (.int .i64 tk)∧(w4.alloc o).cell? ⟨Bt,1,none⟩=some (.int .i64 tf)∧(w4.alloc o).cell? ⟨Bt,2,none⟩=some (.int .i64 te)∧(w4.alloc o).cell? ⟨Bt,3,none⟩=some (.bool top):=fun o=>⟨(kb4.alloc o).cell 0,(kb4.alloc o).cell 1,(kb4.alloc o).cell 2,(kb4.alloc o).cell 3⟩;have ho4:=own_below (own_drew HO3.out) hb4)
      |(refine step_app_gen (by rfl) _ _ 22 37 4 40 _ (by rfl) Tryz.underlying22 infoLf rfl (by omega) (by omega) w.heap.size (.slice ov z cv) z (cellsLf (lfs s (l.take i))) (by rfl) (own_below ho4 ((Below.refl _ _).alloc (Nat.le_refl _) _)) _ 1 (cellLf ⟨tk,TX,tf,te⟩) (by rfl) (src_f (x:=⟨tk,TX,tf,te⟩) (Blk.new w4 _ _)) rfl (cellLf_one _) (by omega) (by rw [World.size_alloc];have:=HB3.out.size;have:=hb4.size;have e:w3.drew.heap.size=w3.heap.size:=rfl;omega) (z+1) rfl ?_;intro oa9 c9 w9 hown9 hgr9 hg9;have kb9:=(kb4.alloc (.cells #[.int .i64 tk,.string TX,.int .i64 tf,.int .i64 te] 37)).grown hgr9 (fun e=>by have:=HBT.out;have:=HOL.out _ e.symm;omega);have s9:w9.cell? ⟨Bt,0,none⟩=some (.int .i64 tk)∧w9.cell? ⟨Bt,1,none⟩=some (.int .i64 tf)∧w9.cell? ⟨Bt,2,none⟩=some (.int .i64 te)∧w9.cell? ⟨Bt,3,none⟩=some (.bool top):=⟨kb9.cell 0,kb9.cell 1,kb9.cell 2,kb9.cell 3⟩))
     all_goals
      have hb34:Below w.heap.size w w4:=HB3.out.drew.trans (hb4.mono HB3.out.size)
      have hb39:Below w.heap.size w w9:=(hb34.alloc hb34.size _).grown hgr9 (by rw [World.size_alloc];have:=hb34.size;omega) (fun k hk=>HOG.out k hk)
      have hown:w9.ownsRow w.heap.size 37 4 (.slice oa9 (z+1) c9) (lfs s (l.take (i+1))).length (cellsLf (lfs s (l.take (i+1)))):=by
       rw [HSTEP.out,if_pos (by simp),cellsLf_append,List.length_append,HZ.out]
       simpa [cellsLf]using hown9
      have HOWN:=Lib.hid hown
      have HB39:=Lib.hid hb39
      clear hown hb39 hb34 s9 kb9 hgr9 hown9 ho4 s4 s4a kb4 hb4 kb3 e0
      go_wp2
      go_roundw
      case rel=>exact⟨i+1,HI6.out,by go_num,HOWN.out,HB39.out⟩
      case measure=>simp [intOf];omega
  ·have q1:¬(i:Int)<(n:Int):=by omega
   have hin:i=l.length:=by have:=HLEN.out;omega
   subst hin
   rw [List.take_length]at hown
   have HO2:=Lib.hid hown
   clear hown HO hL
   go_wp2
   go_ret
   exact⟨_,rfl,HO2.out,HBW.out⟩
end
end Go.Proofs.YtkolpaonccmgiaaGreatDoor

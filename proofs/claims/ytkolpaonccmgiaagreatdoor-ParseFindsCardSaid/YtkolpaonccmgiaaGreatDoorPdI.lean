/- What the document's own Form of layer 12 (rules) a -/
import Derived.Test.YtkolpaonccmgiaaGreatDoorSj
set_option linter.unusedVariables false
namespace Go.Proofs.YtkolpaonccmgiaaGreatDoor.Q
set_option linter.unusedSectionVars false
set_option linter.unusedVariables false
open Go.RowKit
theorem le_yesF {x:ByteArray} (h:x.size=0):x.toList=[]:=by
 rw [Go.ByteArray.toList_eq]
 have:x.data.size=0:=h
 rw [Array.eq_empty_of_size_eq_zero this]
theorem le_noF {x:ByteArray} (h:x.size≠0):¬x.toList=[]:=by
 rw [Go.ByteArray.toList_eq]
 intro g
 refine h ?_
 show x.data.size=0
 rw [←Array.length_toList,g]
 rfl
theorem le_inoF {x:ByteArray} (h:x.size≠0):x.toList.isEmpty=false:=by
 rw [Bool.eq_false_iff]
 intro g
 exact le_noF h (List.isEmpty_iff.1 g)
theorem le_iyesF {x:ByteArray} (h:x.size=0):x.toList.isEmpty=true:=by rw [le_yesF h];rfl
section
variable (w:World)
set_option maxRecDepth 100000 in
set_option maxHeartbeats 4000000 in
theorem form1_any (row:ByteArray) (hm:row.size≤100000):
  Calls Tryz.prog 58 #[.int .i64 1,.string row] w fun e w'=>e=.returned (.bool (form1 row row.size))∧Below w.heap.size w w':=by
 have HBG:=Lib.hid (begin_p_any w row hm)
 have q1:(row.size:Int)<(row.size:Int)+1:=by omega
 have q2:(0:Int)≤(row.size:Int):=by omega
 go_enter Tryz.func58,Tryz.ntmps58
 go_wp2_with fail
 refine HBG.out.mono ?_
 rintro e wa1 ⟨va1,rfl,hp1,hb1⟩
 have HB1:=Lib.hid hb1
 have HP1:=Lib.hid hp1
 clear hp1 hb1 HBG
 go_wp2_with fail
 refine(many_any wa1 row tN _ _ HP1.out hm (by decide)).mono ?_
 rintro e wa2 ⟨va2,rfl,hp2,hb2⟩
 have HB2:=Lib.hid (HB1.out.trans (hb2.mono HB1.out.size))
 have HP1:=Lib.hid (HP1.out.below hb2)
 have HP2:=Lib.hid hp2
 clear hp2 hb2
 go_wp2_with fail
 refine(pone_any wa2 row tL _ _ HP2.out hm (by decide)).mono ?_
 rintro e wa3 ⟨va3,rfl,hp3,hb3⟩
 have HB3:=Lib.hid (HB2.out.trans (hb3.mono HB2.out.size))
 have HP1:=Lib.hid (HP1.out.below hb3)
 have HP2:=Lib.hid (HP2.out.below hb3)
 have HP3:=Lib.hid hp3
 clear hp3 hb3
 go_wp2_with fail
 refine(or_any wa3 _ _ _ _ _ HP2.out HP3.out (by omega)).mono ?_
 rintro e wa4 ⟨va4,rfl,hp4,hb4⟩
 have HB4:=Lib.hid (HB3.out.trans (hb4.mono HB3.out.size))
 have HP1:=Lib.hid (HP1.out.below hb4)
 have HP2:=Lib.hid (HP2.out.below hb4)
 have HP3:=Lib.hid (HP3.out.below hb4)
 have HP4:=Lib.hid hp4
 clear hp4 hb4
 obtain⟨bz,cz,rfl,hbz,hcz⟩:=HP4.out
 have k1:=hcz row.size (by omega)
 have hff:form1 row row.size=_:=rfl
 clear hcz
 go_wp2
 go_ret
 exact⟨rfl,HB4.out⟩
set_option maxRecDepth 100000 in
set_option maxHeartbeats 4000000 in
theorem form2_any (row:ByteArray) (hm:row.size≤100000):
  Calls Tryz.prog 58 #[.int .i64 2,.string row] w fun e w'=>e=.returned (.bool (form2 row row.size))∧Below w.heap.size w w':=by
 have HBG:=Lib.hid (begin_p_any w row hm)
 have q1:(row.size:Int)<(row.size:Int)+1:=by omega
 have q2:(0:Int)≤(row.size:Int):=by omega
 go_enter Tryz.func58,Tryz.ntmps58
 go_wp2_with fail
 refine HBG.out.mono ?_
 rintro e wa1 ⟨va1,rfl,hp1,hb1⟩
 have HB1:=Lib.hid hb1
 have HP1:=Lib.hid hp1
 clear hp1 hb1 HBG
 go_wp2_with fail
 refine(pone_any wa1 row (t1 65) _ _ HP1.out hm (by decide)).mono ?_
 rintro e wa2 ⟨va2,rfl,hp2,hb2⟩
 have HB2:=Lib.hid (HB1.out.trans (hb2.mono HB1.out.size))
 have HP1:=Lib.hid (HP1.out.below hb2)
 have HP2:=Lib.hid hp2
 clear hp2 hb2
 go_wp2_with fail
 refine(rep_any wa2 row _ _ HP2.out hm 1 (by decide) (by decide)).mono ?_
 rintro e wa3 ⟨va3,rfl,hp3,hb3⟩
 have HB3:=Lib.hid (HB2.out.trans (hb3.mono HB2.out.size))
 have HP1:=Lib.hid (HP1.out.below hb3)
 have HP2:=Lib.hid (HP2.out.below hb3)
 have HP3:=Lib.hid hp3
 clear hp3 hb3
 go_wp2_with fail
 refine(psep_any wa3 row _ _ HP3.out hm).mono ?_
 rintro e wa4 ⟨va4,rfl,hp4,hb4⟩
 have HB4:=Lib.hid (HB3.out.trans (hb4.mono HB3.out.size))
 have HP1:=Lib.hid (HP1.out.below hb4)
 have HP2:=Lib.hid (HP2.out.below hb4)
 have HP3:=Lib.hid (HP3.out.below hb4)
 have HP4:=Lib.hid hp4
 clear hp4 hb4
 go_wp2_with fail
 refine(or_any wa4 _ _ _ _ _ HP3.out HP4.out (by omega)).mono ?_
 rintro e wa5 ⟨va5,rfl,hp5,hb5⟩
 have HB5:=Lib.hid (HB4.out.trans (hb5.mono HB4.out.size))
 have HP1:=Lib.hid (HP1.out.below hb5)
 have HP2:=Lib.hid (HP2.out.below hb5)
 have HP3:=Lib.hid (HP3.out.below hb5)
 have HP4:=Lib.hid (HP4.out.below hb5)
 have HP5:=Lib.hid hp5
 clear hp5 hb5
 obtain⟨bz,cz,rfl,hbz,hcz⟩:=HP5.out
 have k1:=hcz row.size (by omega)
 have hff:form2 row row.size=_:=rfl
 clear hcz
 go_wp2
 go_ret
 exact⟨rfl,HB5.out⟩
set_option maxRecDepth 100000 in
set_option maxHeartbeats 4000000 in
theorem form3_any (row:ByteArray) (hm:row.size≤100000):
  Calls Tryz.prog 58 #[.int .i64 3,.string row] w fun e w'=>e=.returned (.bool (form3 row row.size))∧Below w.heap.size w w':=by
 have HBG:=Lib.hid (begin_p_any w row hm)
 have q1:(row.size:Int)<(row.size:Int)+1:=by omega
 have q2:(0:Int)≤(row.size:Int):=by omega
 go_enter Tryz.func58,Tryz.ntmps58
 go_wp2_with fail
 refine HBG.out.mono ?_
 rintro e wa1 ⟨va1,rfl,hp1,hb1⟩
 have HB1:=Lib.hid hb1
 have HP1:=Lib.hid hp1
 clear hp1 hb1 HBG
 go_wp2_with fail
 refine(pone_any wa1 row (t1 73) _ _ HP1.out hm (by decide)).mono ?_
 rintro e wa2 ⟨va2,rfl,hp2,hb2⟩
 have HB2:=Lib.hid (HB1.out.trans (hb2.mono HB1.out.size))
 have HP1:=Lib.hid (HP1.out.below hb2)
 have HP2:=Lib.hid hp2
 clear hp2 hb2
 go_wp2_with fail
 refine(rep_any wa2 row _ _ HP2.out hm 2 (by decide) (by decide)).mono ?_
 rintro e wa3 ⟨va3,rfl,hp3,hb3⟩
 have HB3:=Lib.hid (HB2.out.trans (hb3.mono HB2.out.size))
 have HP1:=Lib.hid (HP1.out.below hb3)
 have HP2:=Lib.hid (HP2.out.below hb3)
 have HP3:=Lib.hid hp3
 clear hp3 hb3
 obtain⟨bz,cz,rfl,hbz,hcz⟩:=HP3.out
 have k1:=hcz row.size (by omega)
 have hff:form3 row row.size=_:=rfl
 clear hcz
 go_wp2
 go_ret
 exact⟨rfl,HB3.out⟩
set_option maxRecDepth 100000 in
set_option maxHeartbeats 4000000 in
theorem form4_any (row:ByteArray) (hm:row.size≤100000):
  Calls Tryz.prog 58 #[.int .i64 4,.string row] w fun e w'=>e=.returned (.bool (form4 row row.size))∧Below w.heap.size w w':=by
 have HBG:=Lib.hid (begin_p_any w row hm)
 have q1:(row.size:Int)<(row.size:Int)+1:=by omega
 have q2:(0:Int)≤(row.size:Int):=by omega
 go_enter Tryz.func58,Tryz.ntmps58
 go_wp2_with fail
 refine HBG.out.mono ?_
 rintro e wa1 ⟨va1,rfl,hp1,hb1⟩
 have HB1:=Lib.hid hb1
 have HP1:=Lib.hid hp1
 clear hp1 hb1 HBG
 go_wp2_with fail
 refine(pone_any wa1 row (t1 33) _ _ HP1.out hm (by decide)).mono ?_
 rintro e wa2 ⟨va2,rfl,hp2,hb2⟩
 have HB2:=Lib.hid (HB1.out.trans (hb2.mono HB1.out.size))
 have HP1:=Lib.hid (HP1.out.below hb2)
 have HP2:=Lib.hid hp2
 clear hp2 hb2
 go_wp2_with fail
 refine(or_any wa2 _ _ _ _ _ HP1.out HP2.out (by omega)).mono ?_
 rintro e wa3 ⟨va3,rfl,hp3,hb3⟩
 have HB3:=Lib.hid (HB2.out.trans (hb3.mono HB2.out.size))
 have HP1:=Lib.hid (HP1.out.below hb3)
 have HP2:=Lib.hid (HP2.out.below hb3)
 have HP3:=Lib.hid hp3
 clear hp3 hb3
 go_wp2_with fail
 refine(pone_any wa3 row tC _ _ HP3.out hm (by decide)).mono ?_
 rintro e wa4 ⟨va4,rfl,hp4,hb4⟩
 have HB4:=Lib.hid (HB3.out.trans (hb4.mono HB3.out.size))
 have HP1:=Lib.hid (HP1.out.below hb4)
 have HP2:=Lib.hid (HP2.out.below hb4)
 have HP3:=Lib.hid (HP3.out.below hb4)
 have HP4:=Lib.hid hp4
 clear hp4 hb4
 go_wp2_with fail
 refine(rep_any wa4 row _ _ HP4.out hm 3 (by decide) (by decide)).mono ?_
 rintro e wa5 ⟨va5,rfl,hp5,hb5⟩
 have HB5:=Lib.hid (HB4.out.trans (hb5.mono HB4.out.size))
 have HP1:=Lib.hid (HP1.out.below hb5)
 have HP2:=Lib.hid (HP2.out.below hb5)
 have HP3:=Lib.hid (HP3.out.below hb5)
 have HP4:=Lib.hid (HP4.out.below hb5)
 have HP5:=Lib.hid hp5
 clear hp5 hb5
 obtain⟨bz,cz,rfl,hbz,hcz⟩:=HP5.out
 have k1:=hcz row.size (by omega)
 have hff:form4 row row.size=_:=rfl
 clear hcz
 go_wp2
 go_ret
 exact⟨rfl,HB5.out⟩
set_option maxRecDepth 100000 in
set_option maxHeartbeats 4000000 in
theorem form5_any (row:ByteArray) (hm:row.size≤100000) (h0:row.size≠0):
  Calls Tryz.prog 58 #[.int .i64 5,.string row] w fun e w'=>e=.returned (.bool (form5 row row.size))∧Below w.heap.size w w':=by
 have z1:(row.size==0)=false:=by simpa using h0
 have z2:((row.size:Int)==0)=false:=by simpa using h0
 have z4:=le_noF h0
 have z5:=le_inoF h0
 have HBG:=Lib.hid (begin_p_any w row hm)
 have q1:(row.size:Int)<(row.size:Int)+1:=by omega
 have q2:(0:Int)≤(row.size:Int):=by omega
 go_enter Tryz.func58,Tryz.ntmps58
 go_wp2_with fail
 refine HBG.out.mono ?_
 rintro e wa1 ⟨va1,rfl,hp1,hb1⟩
 have HB1:=Lib.hid hb1
 have HP1:=Lib.hid hp1
 clear hp1 hb1 HBG
 go_wp2_with fail
 refine(many_any wa1 row (t2 88 82) _ _ HP1.out hm (by decide)).mono ?_
 rintro e wa2 ⟨va2,rfl,hp2,hb2⟩
 have HB2:=Lib.hid (HB1.out.trans (hb2.mono HB1.out.size))
 have HP1:=Lib.hid (HP1.out.below hb2)
 have HP2:=Lib.hid hp2
 clear hp2 hb2
 go_wp2_with fail
 refine(pone_any wa2 row (t1 87) _ _ HP2.out hm (by decide)).mono ?_
 rintro e wa3 ⟨va3,rfl,hp3,hb3⟩
 have HB3:=Lib.hid (HB2.out.trans (hb3.mono HB2.out.size))
 have HP1:=Lib.hid (HP1.out.below hb3)
 have HP2:=Lib.hid (HP2.out.below hb3)
 have HP3:=Lib.hid hp3
 clear hp3 hb3
 go_wp2_with fail
 refine(many_any wa3 row (t2 87 82) _ _ HP3.out hm (by decide)).mono ?_
 rintro e wa4 ⟨va4,rfl,hp4,hb4⟩
 have HB4:=Lib.hid (HB3.out.trans (hb4.mono HB3.out.size))
 have HP1:=Lib.hid (HP1.out.below hb4)
 have HP2:=Lib.hid (HP2.out.below hb4)
 have HP3:=Lib.hid (HP3.out.below hb4)
 have HP4:=Lib.hid hp4
 clear hp4 hb4
 go_wp2_with fail
 refine(or_any wa4 _ _ _ _ _ HP2.out HP4.out (by omega)).mono ?_
 rintro e wa5 ⟨va5,rfl,hp5,hb5⟩
 have HB5:=Lib.hid (HB4.out.trans (hb5.mono HB4.out.size))
 have HP1:=Lib.hid (HP1.out.below hb5)
 have HP2:=Lib.hid (HP2.out.below hb5)
 have HP3:=Lib.hid (HP3.out.below hb5)
 have HP4:=Lib.hid (HP4.out.below hb5)
 have HP5:=Lib.hid hp5
 clear hp5 hb5
 obtain⟨bz,cz,rfl,hbz,hcz⟩:=HP5.out
 have k1:=hcz row.size (by omega)
 have hff:form5 row row.size=_:=rfl
 clear hcz
 go_wp2
 go_ret
 exact⟨rfl,HB5.out⟩
set_option maxRecDepth 100000 in
set_option maxHeartbeats 4000000 in
theorem form8_any (row:ByteArray) (hm:row.size≤100000):
  Calls Tryz.prog 58 #[.int .i64 8,.string row] w fun e w'=>e=.returned (.bool (form8 row row.size))∧Below w.heap.size w w':=by
 have HBG:=Lib.hid (begin_p_any w row hm)
 have q1:(row.size:Int)<(row.size:Int)+1:=by omega
 have q2:(0:Int)≤(row.size:Int):=by omega
 go_enter Tryz.func58,Tryz.ntmps58
 go_wp2_with fail
 refine HBG.out.mono ?_
 rintro e wa1 ⟨va1,rfl,hp1,hb1⟩
 have HB1:=Lib.hid hb1
 have HP1:=Lib.hid hp1
 clear hp1 hb1 HBG
 go_wp2_with fail
 refine(pone_any wa1 row (t1 35) _ _ HP1.out hm (by decide)).mono ?_
 rintro e wa2 ⟨va2,rfl,hp2,hb2⟩
 have HB2:=Lib.hid (HB1.out.trans (hb2.mono HB1.out.size))
 have HP1:=Lib.hid (HP1.out.below hb2)
 have HP2:=Lib.hid hp2
 clear hp2 hb2
 go_wp2_with fail
 refine(or_any wa2 _ _ _ _ _ HP1.out HP2.out (by omega)).mono ?_
 rintro e wa3 ⟨va3,rfl,hp3,hb3⟩
 have HB3:=Lib.hid (HB2.out.trans (hb3.mono HB2.out.size))
 have HP1:=Lib.hid (HP1.out.below hb3)
 have HP2:=Lib.hid (HP2.out.below hb3)
 have HP3:=Lib.hid hp3
 clear hp3 hb3
 go_wp2_with fail
 refine(pone_any wa3 row (t1 60) _ _ HP3.out hm (by decide)).mono ?_
 rintro e wa4 ⟨va4,rfl,hp4,hb4⟩
 have HB4:=Lib.hid (HB3.out.trans (hb4.mono HB3.out.size))
 have HP1:=Lib.hid (HP1.out.below hb4)
 have HP2:=Lib.hid (HP2.out.below hb4)
 have HP3:=Lib.hid (HP3.out.below hb4)
 have HP4:=Lib.hid hp4
 clear hp4 hb4
 go_wp2_with fail
 refine(pone_any wa4 row (t1 87) _ _ HP4.out hm (by decide)).mono ?_
 rintro e wa5 ⟨va5,rfl,hp5,hb5⟩
 have HB5:=Lib.hid (HB4.out.trans (hb5.mono HB4.out.size))
 have HP1:=Lib.hid (HP1.out.below hb5)
 have HP2:=Lib.hid (HP2.out.below hb5)
 have HP3:=Lib.hid (HP3.out.below hb5)
 have HP4:=Lib.hid (HP4.out.below hb5)
 have HP5:=Lib.hid hp5
 clear hp5 hb5
 obtain⟨bz,cz,rfl,hbz,hcz⟩:=HP5.out
 have k1:=hcz row.size (by omega)
 have hff:form8 row row.size=_:=rfl
 clear hcz
 go_wp2
 go_ret
 exact⟨rfl,HB5.out⟩
set_option maxRecDepth 100000 in
set_option maxHeartbeats 4000000 in
theorem form9_any (row:ByteArray) (hm:row.size≤100000):
  Calls Tryz.prog 58 #[.int .i64 9,.string row] w fun e w'=>e=.returned (.bool (form9 row row.size))∧Below w.heap.size w w':=by
 have HBG:=Lib.hid (begin_p_any w row hm)
 have q1:(row.size:Int)<(row.size:Int)+1:=by omega
 have q2:(0:Int)≤(row.size:Int):=by omega
 go_enter Tryz.func58,Tryz.ntmps58
 go_wp2_with fail
 refine HBG.out.mono ?_
 rintro e wa1 ⟨va1,rfl,hp1,hb1⟩
 have HB1:=Lib.hid hb1
 have HP1:=Lib.hid hp1
 clear hp1 hb1 HBG
 go_wp2_with fail
 refine(pone_any wa1 row (t1 123) _ _ HP1.out hm (by decide)).mono ?_
 rintro e wa2 ⟨va2,rfl,hp2,hb2⟩
 have HB2:=Lib.hid (HB1.out.trans (hb2.mono HB1.out.size))
 have HP1:=Lib.hid (HP1.out.below hb2)
 have HP2:=Lib.hid hp2
 clear hp2 hb2
 go_wp2_with fail
 refine(plist_any wa2 row _ _ HP2.out hm).mono ?_
 rintro e wa3 ⟨va3,rfl,hp3,hb3⟩
 have HB3:=Lib.hid (HB2.out.trans (hb3.mono HB2.out.size))
 have HP1:=Lib.hid (HP1.out.below hb3)
 have HP2:=Lib.hid (HP2.out.below hb3)
 have HP3:=Lib.hid hp3
 clear hp3 hb3
 go_wp2_with fail
 refine(pone_any wa3 row (t1 125) _ _ HP3.out hm (by decide)).mono ?_
 rintro e wa4 ⟨va4,rfl,hp4,hb4⟩
 have HB4:=Lib.hid (HB3.out.trans (hb4.mono HB3.out.size))
 have HP1:=Lib.hid (HP1.out.below hb4)
 have HP2:=Lib.hid (HP2.out.below hb4)
 have HP3:=Lib.hid (HP3.out.below hb4)
 have HP4:=Lib.hid hp4
 clear hp4 hb4
 go_wp2_with fail
 refine(many_any wa4 row tR _ _ HP4.out hm (by decide)).mono ?_
 rintro e wa5 ⟨va5,rfl,hp5,hb5⟩
 have HB5:=Lib.hid (HB4.out.trans (hb5.mono HB4.out.size))
 have HP1:=Lib.hid (HP1.out.below hb5)
 have HP2:=Lib.hid (HP2.out.below hb5)
 have HP3:=Lib.hid (HP3.out.below hb5)
 have HP4:=Lib.hid (HP4.out.below hb5)
 have HP5:=Lib.hid hp5
 clear hp5 hb5
 obtain⟨bz,cz,rfl,hbz,hcz⟩:=HP5.out
 have k1:=hcz row.size (by omega)
 have hff:form9 row row.size=_:=rfl
 clear hcz
 go_wp2
 go_ret
 exact⟨rfl,HB5.out⟩
set_option maxRecDepth 100000 in
set_option maxHeartbeats 4000000 in
theorem form10_any (row:ByteArray) (hm:row.size≤100000):
  Calls Tryz.prog 58 #[.int .i64 10,.string row] w fun e w'=>e=.returned (.bool (form10 row row.size))∧Below w.heap.size w w':=by
 have HBG:=Lib.hid (begin_p_any w row hm)
 have q1:(row.size:Int)<(row.size:Int)+1:=by omega
 have q2:(0:Int)≤(row.size:Int):=by omega
 go_enter Tryz.func58,Tryz.ntmps58
 go_wp2_with fail
 refine HBG.out.mono ?_
 rintro e wa1 ⟨va1,rfl,hp1,hb1⟩
 have HB1:=Lib.hid hb1
 have HP1:=Lib.hid hp1
 clear hp1 hb1 HBG
 go_wp2_with fail
 refine(pone_any wa1 row (t1 40) _ _ HP1.out hm (by decide)).mono ?_
 rintro e wa2 ⟨va2,rfl,hp2,hb2⟩
 have HB2:=Lib.hid (HB1.out.trans (hb2.mono HB1.out.size))
 have HP1:=Lib.hid (HP1.out.below hb2)
 have HP2:=Lib.hid hp2
 clear hp2 hb2
 go_wp2_with fail
 refine(plist_any wa2 row _ _ HP2.out hm).mono ?_
 rintro e wa3 ⟨va3,rfl,hp3,hb3⟩
 have HB3:=Lib.hid (HB2.out.trans (hb3.mono HB2.out.size))
 have HP1:=Lib.hid (HP1.out.below hb3)
 have HP2:=Lib.hid (HP2.out.below hb3)
 have HP3:=Lib.hid hp3
 clear hp3 hb3
 go_wp2_with fail
 refine(pone_any wa3 row (t1 41) _ _ HP3.out hm (by decide)).mono ?_
 rintro e wa4 ⟨va4,rfl,hp4,hb4⟩
 have HB4:=Lib.hid (HB3.out.trans (hb4.mono HB3.out.size))
 have HP1:=Lib.hid (HP1.out.below hb4)
 have HP2:=Lib.hid (HP2.out.below hb4)
 have HP3:=Lib.hid (HP3.out.below hb4)
 have HP4:=Lib.hid hp4
 clear hp4 hb4
 go_wp2_with fail
 refine(many_any wa4 row tR _ _ HP4.out hm (by decide)).mono ?_
 rintro e wa5 ⟨va5,rfl,hp5,hb5⟩
 have HB5:=Lib.hid (HB4.out.trans (hb5.mono HB4.out.size))
 have HP1:=Lib.hid (HP1.out.below hb5)
 have HP2:=Lib.hid (HP2.out.below hb5)
 have HP3:=Lib.hid (HP3.out.below hb5)
 have HP4:=Lib.hid (HP4.out.below hb5)
 have HP5:=Lib.hid hp5
 clear hp5 hb5
 obtain⟨bz,cz,rfl,hbz,hcz⟩:=HP5.out
 have k1:=hcz row.size (by omega)
 have hff:form10 row row.size=_:=rfl
 clear hcz
 go_wp2
 go_ret
 exact⟨rfl,HB5.out⟩
set_option maxRecDepth 100000 in
set_option maxHeartbeats 4000000 in
theorem form11_any (row:ByteArray) (hm:row.size≤100000):
  Calls Tryz.prog 58 #[.int .i64 11,.string row] w fun e w'=>e=.returned (.bool (form11 row row.size))∧Below w.heap.size w w':=by
 have HBG:=Lib.hid (begin_p_any w row hm)
 have q1:(row.size:Int)<(row.size:Int)+1:=by omega
 have q2:(0:Int)≤(row.size:Int):=by omega
 go_enter Tryz.func58,Tryz.ntmps58
 go_wp2_with fail
 refine HBG.out.mono ?_
 rintro e wa1 ⟨va1,rfl,hp1,hb1⟩
 have HB1:=Lib.hid hb1
 have HP1:=Lib.hid hp1
 clear hp1 hb1 HBG
 go_wp2_with fail
 refine(pone_any wa1 row (t1 105) _ _ HP1.out hm (by decide)).mono ?_
 rintro e wa2 ⟨va2,rfl,hp2,hb2⟩
 have HB2:=Lib.hid (HB1.out.trans (hb2.mono HB1.out.size))
 have HP1:=Lib.hid (HP1.out.below hb2)
 have HP2:=Lib.hid hp2
 clear hp2 hb2
 go_wp2_with fail
 refine(plist_any wa2 row _ _ HP2.out hm).mono ?_
 rintro e wa3 ⟨va3,rfl,hp3,hb3⟩
 have HB3:=Lib.hid (HB2.out.trans (hb3.mono HB2.out.size))
 have HP1:=Lib.hid (HP1.out.below hb3)
 have HP2:=Lib.hid (HP2.out.below hb3)
 have HP3:=Lib.hid hp3
 clear hp3 hb3
 go_wp2_with fail
 refine(pone_any wa3 row (t1 116) _ _ HP3.out hm (by decide)).mono ?_
 rintro e wa4 ⟨va4,rfl,hp4,hb4⟩
 have HB4:=Lib.hid (HB3.out.trans (hb4.mono HB3.out.size))
 have HP1:=Lib.hid (HP1.out.below hb4)
 have HP2:=Lib.hid (HP2.out.below hb4)
 have HP3:=Lib.hid (HP3.out.below hb4)
 have HP4:=Lib.hid hp4
 clear hp4 hb4
 go_wp2_with fail
 refine(plist_any wa4 row _ _ HP4.out hm).mono ?_
 rintro e wa5 ⟨va5,rfl,hp5,hb5⟩
 have HB5:=Lib.hid (HB4.out.trans (hb5.mono HB4.out.size))
 have HP1:=Lib.hid (HP1.out.below hb5)
 have HP2:=Lib.hid (HP2.out.below hb5)
 have HP3:=Lib.hid (HP3.out.below hb5)
 have HP4:=Lib.hid (HP4.out.below hb5)
 have HP5:=Lib.hid hp5
 clear hp5 hb5
 go_wp2_with fail
 refine(rep_any wa5 row _ _ HP5.out hm 4 (by decide) (by decide)).mono ?_
 rintro e wa6 ⟨va6,rfl,hp6,hb6⟩
 have HB6:=Lib.hid (HB5.out.trans (hb6.mono HB5.out.size))
 have HP1:=Lib.hid (HP1.out.below hb6)
 have HP2:=Lib.hid (HP2.out.below hb6)
 have HP3:=Lib.hid (HP3.out.below hb6)
 have HP4:=Lib.hid (HP4.out.below hb6)
 have HP5:=Lib.hid (HP5.out.below hb6)
 have HP6:=Lib.hid hp6
 clear hp6 hb6
 go_wp2_with fail
 refine(pone_any wa6 row (t1 108) _ _ HP6.out hm (by decide)).mono ?_
 rintro e wa7 ⟨va7,rfl,hp7,hb7⟩
 have HB7:=Lib.hid (HB6.out.trans (hb7.mono HB6.out.size))
 have HP1:=Lib.hid (HP1.out.below hb7)
 have HP2:=Lib.hid (HP2.out.below hb7)
 have HP3:=Lib.hid (HP3.out.below hb7)
 have HP4:=Lib.hid (HP4.out.below hb7)
 have HP5:=Lib.hid (HP5.out.below hb7)
 have HP6:=Lib.hid (HP6.out.below hb7)
 have HP7:=Lib.hid hp7
 clear hp7 hb7
 go_wp2_with fail
 refine(plist_any wa7 row _ _ HP7.out hm).mono ?_
 rintro e wa8 ⟨va8,rfl,hp8,hb8⟩
 have HB8:=Lib.hid (HB7.out.trans (hb8.mono HB7.out.size))
 have HP1:=Lib.hid (HP1.out.below hb8)
 have HP2:=Lib.hid (HP2.out.below hb8)
 have HP3:=Lib.hid (HP3.out.below hb8)
 have HP4:=Lib.hid (HP4.out.below hb8)
 have HP5:=Lib.hid (HP5.out.below hb8)
 have HP6:=Lib.hid (HP6.out.below hb8)
 have HP7:=Lib.hid (HP7.out.below hb8)
 have HP8:=Lib.hid hp8
 clear hp8 hb8
 go_wp2_with fail
 refine(or_any wa8 _ _ _ _ _ HP6.out HP8.out (by omega)).mono ?_
 rintro e wa9 ⟨va9,rfl,hp9,hb9⟩
 have HB9:=Lib.hid (HB8.out.trans (hb9.mono HB8.out.size))
 have HP1:=Lib.hid (HP1.out.below hb9)
 have HP2:=Lib.hid (HP2.out.below hb9)
 have HP3:=Lib.hid (HP3.out.below hb9)
 have HP4:=Lib.hid (HP4.out.below hb9)
 have HP5:=Lib.hid (HP5.out.below hb9)
 have HP6:=Lib.hid (HP6.out.below hb9)
 have HP7:=Lib.hid (HP7.out.below hb9)
 have HP8:=Lib.hid (HP8.out.below hb9)
 have HP9:=Lib.hid hp9
 clear hp9 hb9
 go_wp2_with fail
 refine(pone_any wa9 row (t1 102) _ _ HP9.out hm (by decide)).mono ?_
 rintro e wa10 ⟨va10,rfl,hp10,hb10⟩
 have HB10:=Lib.hid (HB9.out.trans (hb10.mono HB9.out.size))
 have HP1:=Lib.hid (HP1.out.below hb10)
 have HP2:=Lib.hid (HP2.out.below hb10)
 have HP3:=Lib.hid (HP3.out.below hb10)
 have HP4:=Lib.hid (HP4.out.below hb10)
 have HP5:=Lib.hid (HP5.out.below hb10)
 have HP6:=Lib.hid (HP6.out.below hb10)
 have HP7:=Lib.hid (HP7.out.below hb10)
 have HP8:=Lib.hid (HP8.out.below hb10)
 have HP9:=Lib.hid (HP9.out.below hb10)
 have HP10:=Lib.hid hp10
 clear hp10 hb10
 go_wp2_with fail
 refine(many_any wa10 row tR _ _ HP10.out hm (by decide)).mono ?_
 rintro e wa11 ⟨va11,rfl,hp11,hb11⟩
 have HB11:=Lib.hid (HB10.out.trans (hb11.mono HB10.out.size))
 have HP1:=Lib.hid (HP1.out.below hb11)
 have HP2:=Lib.hid (HP2.out.below hb11)
 have HP3:=Lib.hid (HP3.out.below hb11)
 have HP4:=Lib.hid (HP4.out.below hb11)
 have HP5:=Lib.hid (HP5.out.below hb11)
 have HP6:=Lib.hid (HP6.out.below hb11)
 have HP7:=Lib.hid (HP7.out.below hb11)
 have HP8:=Lib.hid (HP8.out.below hb11)
 have HP9:=Lib.hid (HP9.out.below hb11)
 have HP10:=Lib.hid (HP10.out.below hb11)
 have HP11:=Lib.hid hp11
 clear hp11 hb11
 obtain⟨bz,cz,rfl,hbz,hcz⟩:=HP11.out
 have k1:=hcz row.size (by omega)
 have hff:form11 row row.size=_:=rfl
 clear hcz
 go_wp2
 go_ret
 exact⟨rfl,HB11.out⟩
set_option maxRecDepth 100000 in
set_option maxHeartbeats 4000000 in
theorem form12_any (row:ByteArray) (hm:row.size≤100000):
  Calls Tryz.prog 58 #[.int .i64 12,.string row] w fun e w'=>e=.returned (.bool (form12 row row.size))∧Below w.heap.size w w':=by
 have HBG:=Lib.hid (begin_p_any w row hm)
 have q1:(row.size:Int)<(row.size:Int)+1:=by omega
 have q2:(0:Int)≤(row.size:Int):=by omega
 go_enter Tryz.func58,Tryz.ntmps58
 go_wp2_with fail
 refine HBG.out.mono ?_
 rintro e wa1 ⟨va1,rfl,hp1,hb1⟩
 have HB1:=Lib.hid hb1
 have HP1:=Lib.hid hp1
 clear hp1 hb1 HBG
 go_wp2_with fail
 refine(pone_any wa1 row (t1 119) _ _ HP1.out hm (by decide)).mono ?_
 rintro e wa2 ⟨va2,rfl,hp2,hb2⟩
 have HB2:=Lib.hid (HB1.out.trans (hb2.mono HB1.out.size))
 have HP1:=Lib.hid (HP1.out.below hb2)
 have HP2:=Lib.hid hp2
 clear hp2 hb2
 go_wp2_with fail
 refine(plist_any wa2 row _ _ HP2.out hm).mono ?_
 rintro e wa3 ⟨va3,rfl,hp3,hb3⟩
 have HB3:=Lib.hid (HB2.out.trans (hb3.mono HB2.out.size))
 have HP1:=Lib.hid (HP1.out.below hb3)
 have HP2:=Lib.hid (HP2.out.below hb3)
 have HP3:=Lib.hid hp3
 clear hp3 hb3
 go_wp2_with fail
 refine(pone_any wa3 row (t1 100) _ _ HP3.out hm (by decide)).mono ?_
 rintro e wa4 ⟨va4,rfl,hp4,hb4⟩
 have HB4:=Lib.hid (HB3.out.trans (hb4.mono HB3.out.size))
 have HP1:=Lib.hid (HP1.out.below hb4)
 have HP2:=Lib.hid (HP2.out.below hb4)
 have HP3:=Lib.hid (HP3.out.below hb4)
 have HP4:=Lib.hid hp4
 clear hp4 hb4
 go_wp2_with fail
 refine(plist_any wa4 row _ _ HP4.out hm).mono ?_
 rintro e wa5 ⟨va5,rfl,hp5,hb5⟩
 have HB5:=Lib.hid (HB4.out.trans (hb5.mono HB4.out.size))
 have HP1:=Lib.hid (HP1.out.below hb5)
 have HP2:=Lib.hid (HP2.out.below hb5)
 have HP3:=Lib.hid (HP3.out.below hb5)
 have HP4:=Lib.hid (HP4.out.below hb5)
 have HP5:=Lib.hid hp5
 clear hp5 hb5
 go_wp2_with fail
 refine(pone_any wa5 row (t1 103) _ _ HP5.out hm (by decide)).mono ?_
 rintro e wa6 ⟨va6,rfl,hp6,hb6⟩
 have HB6:=Lib.hid (HB5.out.trans (hb6.mono HB5.out.size))
 have HP1:=Lib.hid (HP1.out.below hb6)
 have HP2:=Lib.hid (HP2.out.below hb6)
 have HP3:=Lib.hid (HP3.out.below hb6)
 have HP4:=Lib.hid (HP4.out.below hb6)
 have HP5:=Lib.hid (HP5.out.below hb6)
 have HP6:=Lib.hid hp6
 clear hp6 hb6
 go_wp2_with fail
 refine(many_any wa6 row tR _ _ HP6.out hm (by decide)).mono ?_
 rintro e wa7 ⟨va7,rfl,hp7,hb7⟩
 have HB7:=Lib.hid (HB6.out.trans (hb7.mono HB6.out.size))
 have HP1:=Lib.hid (HP1.out.below hb7)
 have HP2:=Lib.hid (HP2.out.below hb7)
 have HP3:=Lib.hid (HP3.out.below hb7)
 have HP4:=Lib.hid (HP4.out.below hb7)
 have HP5:=Lib.hid (HP5.out.below hb7)
 have HP6:=Lib.hid (HP6.out.below hb7)
 have HP7:=Lib.hid hp7
 clear hp7 hb7
 obtain⟨bz,cz,rfl,hbz,hcz⟩:=HP7.out
 have k1:=hcz row.size (by omega)
 have hff:form12 row row.size=_:=rfl
 clear hcz
 go_wp2
 go_ret
 exact⟨rfl,HB7.out⟩
set_option maxRecDepth 100000 in
set_option maxHeartbeats 4000000 in
theorem form13_any (row:ByteArray) (hm:row.size≤100000):
  Calls Tryz.prog 58 #[.int .i64 13,.string row] w fun e w'=>e=.returned (.bool (form13 row row.size))∧Below w.heap.size w w':=by
 have HBG:=Lib.hid (begin_p_any w row hm)
 have q1:(row.size:Int)<(row.size:Int)+1:=by omega
 have q2:(0:Int)≤(row.size:Int):=by omega
 go_enter Tryz.func58,Tryz.ntmps58
 go_wp2_with fail
 refine HBG.out.mono ?_
 rintro e wa1 ⟨va1,rfl,hp1,hb1⟩
 have HB1:=Lib.hid hb1
 have HP1:=Lib.hid hp1
 clear hp1 hb1 HBG
 go_wp2_with fail
 refine(pone_any wa1 row (t1 114) _ _ HP1.out hm (by decide)).mono ?_
 rintro e wa2 ⟨va2,rfl,hp2,hb2⟩
 have HB2:=Lib.hid (HB1.out.trans (hb2.mono HB1.out.size))
 have HP1:=Lib.hid (HP1.out.below hb2)
 have HP2:=Lib.hid hp2
 clear hp2 hb2
 go_wp2_with fail
 refine(pone_any wa2 row (t1 87) _ _ HP2.out hm (by decide)).mono ?_
 rintro e wa3 ⟨va3,rfl,hp3,hb3⟩
 have HB3:=Lib.hid (HB2.out.trans (hb3.mono HB2.out.size))
 have HP1:=Lib.hid (HP1.out.below hb3)
 have HP2:=Lib.hid (HP2.out.below hb3)
 have HP3:=Lib.hid hp3
 clear hp3 hb3
 go_wp2_with fail
 refine(many_any wa3 row tN _ _ HP3.out hm (by decide)).mono ?_
 rintro e wa4 ⟨va4,rfl,hp4,hb4⟩
 have HB4:=Lib.hid (HB3.out.trans (hb4.mono HB3.out.size))
 have HP1:=Lib.hid (HP1.out.below hb4)
 have HP2:=Lib.hid (HP2.out.below hb4)
 have HP3:=Lib.hid (HP3.out.below hb4)
 have HP4:=Lib.hid hp4
 clear hp4 hb4
 go_wp2_with fail
 refine(pone_any wa4 row (t1 107) _ _ HP4.out hm (by decide)).mono ?_
 rintro e wa5 ⟨va5,rfl,hp5,hb5⟩
 have HB5:=Lib.hid (HB4.out.trans (hb5.mono HB4.out.size))
 have HP1:=Lib.hid (HP1.out.below hb5)
 have HP2:=Lib.hid (HP2.out.below hb5)
 have HP3:=Lib.hid (HP3.out.below hb5)
 have HP4:=Lib.hid (HP4.out.below hb5)
 have HP5:=Lib.hid hp5
 clear hp5 hb5
 go_wp2_with fail
 refine(many_any wa5 row (t1 87) _ _ HP5.out hm (by decide)).mono ?_
 rintro e wa6 ⟨va6,rfl,hp6,hb6⟩
 have HB6:=Lib.hid (HB5.out.trans (hb6.mono HB5.out.size))
 have HP1:=Lib.hid (HP1.out.below hb6)
 have HP2:=Lib.hid (HP2.out.below hb6)
 have HP3:=Lib.hid (HP3.out.below hb6)
 have HP4:=Lib.hid (HP4.out.below hb6)
 have HP5:=Lib.hid (HP5.out.below hb6)
 have HP6:=Lib.hid hp6
 clear hp6 hb6
 go_wp2_with fail
 refine(pone_any wa6 row (t1 59) _ _ HP6.out hm (by decide)).mono ?_
 rintro e wa7 ⟨va7,rfl,hp7,hb7⟩
 have HB7:=Lib.hid (HB6.out.trans (hb7.mono HB6.out.size))
 have HP1:=Lib.hid (HP1.out.below hb7)
 have HP2:=Lib.hid (HP2.out.below hb7)
 have HP3:=Lib.hid (HP3.out.below hb7)
 have HP4:=Lib.hid (HP4.out.below hb7)
 have HP5:=Lib.hid (HP5.out.below hb7)
 have HP6:=Lib.hid (HP6.out.below hb7)
 have HP7:=Lib.hid hp7
 clear hp7 hb7
 go_wp2_with fail
 refine(many_any wa7 row tN _ _ HP7.out hm (by decide)).mono ?_
 rintro e wa8 ⟨va8,rfl,hp8,hb8⟩
 have HB8:=Lib.hid (HB7.out.trans (hb8.mono HB7.out.size))
 have HP1:=Lib.hid (HP1.out.below hb8)
 have HP2:=Lib.hid (HP2.out.below hb8)
 have HP3:=Lib.hid (HP3.out.below hb8)
 have HP4:=Lib.hid (HP4.out.below hb8)
 have HP5:=Lib.hid (HP5.out.below hb8)
 have HP6:=Lib.hid (HP6.out.below hb8)
 have HP7:=Lib.hid (HP7.out.below hb8)
 have HP8:=Lib.hid hp8
 clear hp8 hb8
 go_wp2_with fail
 refine(pone_any wa8 row tN _ _ HP6.out hm (by decide)).mono ?_
 rintro e wa9 ⟨va9,rfl,hp9,hb9⟩
 have HB9:=Lib.hid (HB8.out.trans (hb9.mono HB8.out.size))
 have HP1:=Lib.hid (HP1.out.below hb9)
 have HP2:=Lib.hid (HP2.out.below hb9)
 have HP3:=Lib.hid (HP3.out.below hb9)
 have HP4:=Lib.hid (HP4.out.below hb9)
 have HP5:=Lib.hid (HP5.out.below hb9)
 have HP6:=Lib.hid (HP6.out.below hb9)
 have HP7:=Lib.hid (HP7.out.below hb9)
 have HP8:=Lib.hid (HP8.out.below hb9)
 have HP9:=Lib.hid hp9
 clear hp9 hb9
 go_wp2_with fail
 refine(many_any wa9 row tN _ _ HP9.out hm (by decide)).mono ?_
 rintro e wa10 ⟨va10,rfl,hp10,hb10⟩
 have HB10:=Lib.hid (HB9.out.trans (hb10.mono HB9.out.size))
 have HP1:=Lib.hid (HP1.out.below hb10)
 have HP2:=Lib.hid (HP2.out.below hb10)
 have HP3:=Lib.hid (HP3.out.below hb10)
 have HP4:=Lib.hid (HP4.out.below hb10)
 have HP5:=Lib.hid (HP5.out.below hb10)
 have HP6:=Lib.hid (HP6.out.below hb10)
 have HP7:=Lib.hid (HP7.out.below hb10)
 have HP8:=Lib.hid (HP8.out.below hb10)
 have HP9:=Lib.hid (HP9.out.below hb10)
 have HP10:=Lib.hid hp10
 clear hp10 hb10
 go_wp2_with fail
 refine(or_any wa10 _ _ _ _ _ HP8.out HP10.out (by omega)).mono ?_
 rintro e wa11 ⟨va11,rfl,hp11,hb11⟩
 have HB11:=Lib.hid (HB10.out.trans (hb11.mono HB10.out.size))
 have HP1:=Lib.hid (HP1.out.below hb11)
 have HP2:=Lib.hid (HP2.out.below hb11)
 have HP3:=Lib.hid (HP3.out.below hb11)
 have HP4:=Lib.hid (HP4.out.below hb11)
 have HP5:=Lib.hid (HP5.out.below hb11)
 have HP6:=Lib.hid (HP6.out.below hb11)
 have HP7:=Lib.hid (HP7.out.below hb11)
 have HP8:=Lib.hid (HP8.out.below hb11)
 have HP9:=Lib.hid (HP9.out.below hb11)
 have HP10:=Lib.hid (HP10.out.below hb11)
 have HP11:=Lib.hid hp11
 clear hp11 hb11
 go_wp2_with fail
 refine(pone_any wa11 row (t1 59) _ _ HP3.out hm (by decide)).mono ?_
 rintro e wa12 ⟨va12,rfl,hp12,hb12⟩
 have HB12:=Lib.hid (HB11.out.trans (hb12.mono HB11.out.size))
 have HP1:=Lib.hid (HP1.out.below hb12)
 have HP2:=Lib.hid (HP2.out.below hb12)
 have HP3:=Lib.hid (HP3.out.below hb12)
 have HP4:=Lib.hid (HP4.out.below hb12)
 have HP5:=Lib.hid (HP5.out.below hb12)
 have HP6:=Lib.hid (HP6.out.below hb12)
 have HP7:=Lib.hid (HP7.out.below hb12)
 have HP8:=Lib.hid (HP8.out.below hb12)
 have HP9:=Lib.hid (HP9.out.below hb12)
 have HP10:=Lib.hid (HP10.out.below hb12)
 have HP11:=Lib.hid (HP11.out.below hb12)
 have HP12:=Lib.hid hp12
 clear hp12 hb12
 go_wp2_with fail
 refine(many_any wa12 row tN _ _ HP12.out hm (by decide)).mono ?_
 rintro e wa13 ⟨va13,rfl,hp13,hb13⟩
 have HB13:=Lib.hid (HB12.out.trans (hb13.mono HB12.out.size))
 have HP1:=Lib.hid (HP1.out.below hb13)
 have HP2:=Lib.hid (HP2.out.below hb13)
 have HP3:=Lib.hid (HP3.out.below hb13)
 have HP4:=Lib.hid (HP4.out.below hb13)
 have HP5:=Lib.hid (HP5.out.below hb13)
 have HP6:=Lib.hid (HP6.out.below hb13)
 have HP7:=Lib.hid (HP7.out.below hb13)
 have HP8:=Lib.hid (HP8.out.below hb13)
 have HP9:=Lib.hid (HP9.out.below hb13)
 have HP10:=Lib.hid (HP10.out.below hb13)
 have HP11:=Lib.hid (HP11.out.below hb13)
 have HP12:=Lib.hid (HP12.out.below hb13)
 have HP13:=Lib.hid hp13
 clear hp13 hb13
 go_wp2_with fail
 refine(many_any wa13 row tN _ _ HP3.out hm (by decide)).mono ?_
 rintro e wa14 ⟨va14,rfl,hp14,hb14⟩
 have HB14:=Lib.hid (HB13.out.trans (hb14.mono HB13.out.size))
 have HP1:=Lib.hid (HP1.out.below hb14)
 have HP2:=Lib.hid (HP2.out.below hb14)
 have HP3:=Lib.hid (HP3.out.below hb14)
 have HP4:=Lib.hid (HP4.out.below hb14)
 have HP5:=Lib.hid (HP5.out.below hb14)
 have HP6:=Lib.hid (HP6.out.below hb14)
 have HP7:=Lib.hid (HP7.out.below hb14)
 have HP8:=Lib.hid (HP8.out.below hb14)
 have HP9:=Lib.hid (HP9.out.below hb14)
 have HP10:=Lib.hid (HP10.out.below hb14)
 have HP11:=Lib.hid (HP11.out.below hb14)
 have HP12:=Lib.hid (HP12.out.below hb14)
 have HP13:=Lib.hid (HP13.out.below hb14)
 have HP14:=Lib.hid hp14
 clear hp14 hb14
 go_wp2_with fail
 refine(or_any wa14 _ _ _ _ _ HP13.out HP14.out (by omega)).mono ?_
 rintro e wa15 ⟨va15,rfl,hp15,hb15⟩
 have HB15:=Lib.hid (HB14.out.trans (hb15.mono HB14.out.size))
 have HP1:=Lib.hid (HP1.out.below hb15)
 have HP2:=Lib.hid (HP2.out.below hb15)
 have HP3:=Lib.hid (HP3.out.below hb15)
 have HP4:=Lib.hid (HP4.out.below hb15)
 have HP5:=Lib.hid (HP5.out.below hb15)
 have HP6:=Lib.hid (HP6.out.below hb15)
 have HP7:=Lib.hid (HP7.out.below hb15)
 have HP8:=Lib.hid (HP8.out.below hb15)
 have HP9:=Lib.hid (HP9.out.below hb15)
 have HP10:=Lib.hid (HP10.out.below hb15)
 have HP11:=Lib.hid (HP11.out.below hb15)
 have HP12:=Lib.hid (HP12.out.below hb15)
 have HP13:=Lib.hid (HP13.out.below hb15)
 have HP14:=Lib.hid (HP14.out.below hb15)
 have HP15:=Lib.hid hp15
 clear hp15 hb15
 go_wp2_with fail
 refine(or_any wa15 _ _ _ _ _ HP11.out HP15.out (by omega)).mono ?_
 rintro e wa16 ⟨va16,rfl,hp16,hb16⟩
 have HB16:=Lib.hid (HB15.out.trans (hb16.mono HB15.out.size))
 have HP1:=Lib.hid (HP1.out.below hb16)
 have HP2:=Lib.hid (HP2.out.below hb16)
 have HP3:=Lib.hid (HP3.out.below hb16)
 have HP4:=Lib.hid (HP4.out.below hb16)
 have HP5:=Lib.hid (HP5.out.below hb16)
 have HP6:=Lib.hid (HP6.out.below hb16)
 have HP7:=Lib.hid (HP7.out.below hb16)
 have HP8:=Lib.hid (HP8.out.below hb16)
 have HP9:=Lib.hid (HP9.out.below hb16)
 have HP10:=Lib.hid (HP10.out.below hb16)
 have HP11:=Lib.hid (HP11.out.below hb16)
 have HP12:=Lib.hid (HP12.out.below hb16)
 have HP13:=Lib.hid (HP13.out.below hb16)
 have HP14:=Lib.hid (HP14.out.below hb16)
 have HP15:=Lib.hid (HP15.out.below hb16)
 have HP16:=Lib.hid hp16
 clear hp16 hb16
 go_wp2_with fail
 refine(pone_any wa16 row (t1 100) _ _ HP16.out hm (by decide)).mono ?_
 rintro e wa17 ⟨va17,rfl,hp17,hb17⟩
 have HB17:=Lib.hid (HB16.out.trans (hb17.mono HB16.out.size))
 have HP1:=Lib.hid (HP1.out.below hb17)
 have HP2:=Lib.hid (HP2.out.below hb17)
 have HP3:=Lib.hid (HP3.out.below hb17)
 have HP4:=Lib.hid (HP4.out.below hb17)
 have HP5:=Lib.hid (HP5.out.below hb17)
 have HP6:=Lib.hid (HP6.out.below hb17)
 have HP7:=Lib.hid (HP7.out.below hb17)
 have HP8:=Lib.hid (HP8.out.below hb17)
 have HP9:=Lib.hid (HP9.out.below hb17)
 have HP10:=Lib.hid (HP10.out.below hb17)
 have HP11:=Lib.hid (HP11.out.below hb17)
 have HP12:=Lib.hid (HP12.out.below hb17)
 have HP13:=Lib.hid (HP13.out.below hb17)
 have HP14:=Lib.hid (HP14.out.below hb17)
 have HP15:=Lib.hid (HP15.out.below hb17)
 have HP16:=Lib.hid (HP16.out.below hb17)
 have HP17:=Lib.hid hp17
 clear hp17 hb17
 go_wp2_with fail
 refine(plist_any wa17 row _ _ HP17.out hm).mono ?_
 rintro e wa18 ⟨va18,rfl,hp18,hb18⟩
 have HB18:=Lib.hid (HB17.out.trans (hb18.mono HB17.out.size))
 have HP1:=Lib.hid (HP1.out.below hb18)
 have HP2:=Lib.hid (HP2.out.below hb18)
 have HP3:=Lib.hid (HP3.out.below hb18)
 have HP4:=Lib.hid (HP4.out.below hb18)
 have HP5:=Lib.hid (HP5.out.below hb18)
 have HP6:=Lib.hid (HP6.out.below hb18)
 have HP7:=Lib.hid (HP7.out.below hb18)
 have HP8:=Lib.hid (HP8.out.below hb18)
 have HP9:=Lib.hid (HP9.out.below hb18)
 have HP10:=Lib.hid (HP10.out.below hb18)
 have HP11:=Lib.hid (HP11.out.below hb18)
 have HP12:=Lib.hid (HP12.out.below hb18)
 have HP13:=Lib.hid (HP13.out.below hb18)
 have HP14:=Lib.hid (HP14.out.below hb18)
 have HP15:=Lib.hid (HP15.out.below hb18)
 have HP16:=Lib.hid (HP16.out.below hb18)
 have HP17:=Lib.hid (HP17.out.below hb18)
 have HP18:=Lib.hid hp18
 clear hp18 hb18
 go_wp2_with fail
 refine(pone_any wa18 row (t1 103) _ _ HP18.out hm (by decide)).mono ?_
 rintro e wa19 ⟨va19,rfl,hp19,hb19⟩
 have HB19:=Lib.hid (HB18.out.trans (hb19.mono HB18.out.size))
 have HP1:=Lib.hid (HP1.out.below hb19)
 have HP2:=Lib.hid (HP2.out.below hb19)
 have HP3:=Lib.hid (HP3.out.below hb19)
 have HP4:=Lib.hid (HP4.out.below hb19)
 have HP5:=Lib.hid (HP5.out.below hb19)
 have HP6:=Lib.hid (HP6.out.below hb19)
 have HP7:=Lib.hid (HP7.out.below hb19)
 have HP8:=Lib.hid (HP8.out.below hb19)
 have HP9:=Lib.hid (HP9.out.below hb19)
 have HP10:=Lib.hid (HP10.out.below hb19)
 have HP11:=Lib.hid (HP11.out.below hb19)
 have HP12:=Lib.hid (HP12.out.below hb19)
 have HP13:=Lib.hid (HP13.out.below hb19)
 have HP14:=Lib.hid (HP14.out.below hb19)
 have HP15:=Lib.hid (HP15.out.below hb19)
 have HP16:=Lib.hid (HP16.out.below hb19)
 have HP17:=Lib.hid (HP17.out.below hb19)
 have HP18:=Lib.hid (HP18.out.below hb19)
 have HP19:=Lib.hid hp19
 clear hp19 hb19
 go_wp2_with fail
 refine(many_any wa19 row tR _ _ HP19.out hm (by decide)).mono ?_
 rintro e wa20 ⟨va20,rfl,hp20,hb20⟩
 have HB20:=Lib.hid (HB19.out.trans (hb20.mono HB19.out.size))
 have HP1:=Lib.hid (HP1.out.below hb20)
 have HP2:=Lib.hid (HP2.out.below hb20)
 have HP3:=Lib.hid (HP3.out.below hb20)
 have HP4:=Lib.hid (HP4.out.below hb20)
 have HP5:=Lib.hid (HP5.out.below hb20)
 have HP6:=Lib.hid (HP6.out.below hb20)
 have HP7:=Lib.hid (HP7.out.below hb20)
 have HP8:=Lib.hid (HP8.out.below hb20)
 have HP9:=Lib.hid (HP9.out.below hb20)
 have HP10:=Lib.hid (HP10.out.below hb20)
 have HP11:=Lib.hid (HP11.out.below hb20)
 have HP12:=Lib.hid (HP12.out.below hb20)
 have HP13:=Lib.hid (HP13.out.below hb20)
 have HP14:=Lib.hid (HP14.out.below hb20)
 have HP15:=Lib.hid (HP15.out.below hb20)
 have HP16:=Lib.hid (HP16.out.below hb20)
 have HP17:=Lib.hid (HP17.out.below hb20)
 have HP18:=Lib.hid (HP18.out.below hb20)
 have HP19:=Lib.hid (HP19.out.below hb20)
 have HP20:=Lib.hid hp20
 clear hp20 hb20
 obtain⟨bz,cz,rfl,hbz,hcz⟩:=HP20.out
 have k1:=hcz row.size (by omega)
 have hff:form13 row row.size=_:=rfl
 clear hcz
 go_wp2
 go_ret
 exact⟨rfl,HB20.out⟩
set_option maxRecDepth 100000 in
set_option maxHeartbeats 4000000 in
theorem form14_any (row:ByteArray) (hm:row.size≤100000):
  Calls Tryz.prog 58 #[.int .i64 14,.string row] w fun e w'=>e=.returned (.bool (form14 row row.size))∧Below w.heap.size w w':=by
 have HBG:=Lib.hid (begin_p_any w row hm)
 have q1:(row.size:Int)<(row.size:Int)+1:=by omega
 have q2:(0:Int)≤(row.size:Int):=by omega
 go_enter Tryz.func58,Tryz.ntmps58
 go_wp2_with fail
 refine HBG.out.mono ?_
 rintro e wa1 ⟨va1,rfl,hp1,hb1⟩
 have HB1:=Lib.hid hb1
 have HP1:=Lib.hid hp1
 clear hp1 hb1 HBG
 go_wp2_with fail
 refine(pone_any wa1 row (t1 99) _ _ HP1.out hm (by decide)).mono ?_
 rintro e wa2 ⟨va2,rfl,hp2,hb2⟩
 have HB2:=Lib.hid (HB1.out.trans (hb2.mono HB1.out.size))
 have HP1:=Lib.hid (HP1.out.below hb2)
 have HP2:=Lib.hid hp2
 clear hp2 hb2
 go_wp2_with fail
 refine(pone_any wa2 row (t1 87) _ _ HP2.out hm (by decide)).mono ?_
 rintro e wa3 ⟨va3,rfl,hp3,hb3⟩
 have HB3:=Lib.hid (HB2.out.trans (hb3.mono HB2.out.size))
 have HP1:=Lib.hid (HP1.out.below hb3)
 have HP2:=Lib.hid (HP2.out.below hb3)
 have HP3:=Lib.hid hp3
 clear hp3 hb3
 go_wp2_with fail
 refine(many_any wa3 row tN _ _ HP3.out hm (by decide)).mono ?_
 rintro e wa4 ⟨va4,rfl,hp4,hb4⟩
 have HB4:=Lib.hid (HB3.out.trans (hb4.mono HB3.out.size))
 have HP1:=Lib.hid (HP1.out.below hb4)
 have HP2:=Lib.hid (HP2.out.below hb4)
 have HP3:=Lib.hid (HP3.out.below hb4)
 have HP4:=Lib.hid hp4
 clear hp4 hb4
 go_wp2_with fail
 refine(pone_any wa4 row (t1 107) _ _ HP4.out hm (by decide)).mono ?_
 rintro e wa5 ⟨va5,rfl,hp5,hb5⟩
 have HB5:=Lib.hid (HB4.out.trans (hb5.mono HB4.out.size))
 have HP1:=Lib.hid (HP1.out.below hb5)
 have HP2:=Lib.hid (HP2.out.below hb5)
 have HP3:=Lib.hid (HP3.out.below hb5)
 have HP4:=Lib.hid (HP4.out.below hb5)
 have HP5:=Lib.hid hp5
 clear hp5 hb5
 go_wp2_with fail
 refine(many_any wa5 row tN _ _ HP5.out hm (by decide)).mono ?_
 rintro e wa6 ⟨va6,rfl,hp6,hb6⟩
 have HB6:=Lib.hid (HB5.out.trans (hb6.mono HB5.out.size))
 have HP1:=Lib.hid (HP1.out.below hb6)
 have HP2:=Lib.hid (HP2.out.below hb6)
 have HP3:=Lib.hid (HP3.out.below hb6)
 have HP4:=Lib.hid (HP4.out.below hb6)
 have HP5:=Lib.hid (HP5.out.below hb6)
 have HP6:=Lib.hid hp6
 clear hp6 hb6
 go_wp2_with fail
 refine(rep_any wa6 row _ _ HP6.out hm 5 (by decide) (by decide)).mono ?_
 rintro e wa7 ⟨va7,rfl,hp7,hb7⟩
 have HB7:=Lib.hid (HB6.out.trans (hb7.mono HB6.out.size))
 have HP1:=Lib.hid (HP1.out.below hb7)
 have HP2:=Lib.hid (HP2.out.below hb7)
 have HP3:=Lib.hid (HP3.out.below hb7)
 have HP4:=Lib.hid (HP4.out.below hb7)
 have HP5:=Lib.hid (HP5.out.below hb7)
 have HP6:=Lib.hid (HP6.out.below hb7)
 have HP7:=Lib.hid hp7
 clear hp7 hb7
 go_wp2_with fail
 refine(pone_any wa7 row (t1 84) _ _ HP7.out hm (by decide)).mono ?_
 rintro e wa8 ⟨va8,rfl,hp8,hb8⟩
 have HB8:=Lib.hid (HB7.out.trans (hb8.mono HB7.out.size))
 have HP1:=Lib.hid (HP1.out.below hb8)
 have HP2:=Lib.hid (HP2.out.below hb8)
 have HP3:=Lib.hid (HP3.out.below hb8)
 have HP4:=Lib.hid (HP4.out.below hb8)
 have HP5:=Lib.hid (HP5.out.below hb8)
 have HP6:=Lib.hid (HP6.out.below hb8)
 have HP7:=Lib.hid (HP7.out.below hb8)
 have HP8:=Lib.hid hp8
 clear hp8 hb8
 go_wp2_with fail
 refine(or_any wa8 _ _ _ _ _ HP7.out HP8.out (by omega)).mono ?_
 rintro e wa9 ⟨va9,rfl,hp9,hb9⟩
 have HB9:=Lib.hid (HB8.out.trans (hb9.mono HB8.out.size))
 have HP1:=Lib.hid (HP1.out.below hb9)
 have HP2:=Lib.hid (HP2.out.below hb9)
 have HP3:=Lib.hid (HP3.out.below hb9)
 have HP4:=Lib.hid (HP4.out.below hb9)
 have HP5:=Lib.hid (HP5.out.below hb9)
 have HP6:=Lib.hid (HP6.out.below hb9)
 have HP7:=Lib.hid (HP7.out.below hb9)
 have HP8:=Lib.hid (HP8.out.below hb9)
 have HP9:=Lib.hid hp9
 clear hp9 hb9
 go_wp2_with fail
 refine(pone_any wa9 row (t1 122) _ _ HP9.out hm (by decide)).mono ?_
 rintro e wa10 ⟨va10,rfl,hp10,hb10⟩
 have HB10:=Lib.hid (HB9.out.trans (hb10.mono HB9.out.size))
 have HP1:=Lib.hid (HP1.out.below hb10)
 have HP2:=Lib.hid (HP2.out.below hb10)
 have HP3:=Lib.hid (HP3.out.below hb10)
 have HP4:=Lib.hid (HP4.out.below hb10)
 have HP5:=Lib.hid (HP5.out.below hb10)
 have HP6:=Lib.hid (HP6.out.below hb10)
 have HP7:=Lib.hid (HP7.out.below hb10)
 have HP8:=Lib.hid (HP8.out.below hb10)
 have HP9:=Lib.hid (HP9.out.below hb10)
 have HP10:=Lib.hid hp10
 clear hp10 hb10
 go_wp2_with fail
 refine(many_any wa10 row tR _ _ HP10.out hm (by decide)).mono ?_
 rintro e wa11 ⟨va11,rfl,hp11,hb11⟩
 have HB11:=Lib.hid (HB10.out.trans (hb11.mono HB10.out.size))
 have HP1:=Lib.hid (HP1.out.below hb11)
 have HP2:=Lib.hid (HP2.out.below hb11)
 have HP3:=Lib.hid (HP3.out.below hb11)
 have HP4:=Lib.hid (HP4.out.below hb11)
 have HP5:=Lib.hid (HP5.out.below hb11)
 have HP6:=Lib.hid (HP6.out.below hb11)
 have HP7:=Lib.hid (HP7.out.below hb11)
 have HP8:=Lib.hid (HP8.out.below hb11)
 have HP9:=Lib.hid (HP9.out.below hb11)
 have HP10:=Lib.hid (HP10.out.below hb11)
 have HP11:=Lib.hid hp11
 clear hp11 hb11
 obtain⟨bz,cz,rfl,hbz,hcz⟩:=HP11.out
 have k1:=hcz row.size (by omega)
 have hff:form14 row row.size=_:=rfl
 clear hcz
 go_wp2
 go_ret
 exact⟨rfl,HB11.out⟩
set_option maxRecDepth 100000 in
set_option maxHeartbeats 4000000 in
theorem form15_any (row:ByteArray) (hm:row.size≤100000):
  Calls Tryz.prog 58 #[.int .i64 15,.string row] w fun e w'=>e=.returned (.bool (form15 row row.size))∧Below w.heap.size w w':=by
 have HBG:=Lib.hid (begin_p_any w row hm)
 have q1:(row.size:Int)<(row.size:Int)+1:=by omega
 have q2:(0:Int)≤(row.size:Int):=by omega
 go_enter Tryz.func58,Tryz.ntmps58
 go_wp2_with fail
 refine HBG.out.mono ?_
 rintro e wa1 ⟨va1,rfl,hp1,hb1⟩
 have HB1:=Lib.hid hb1
 have HP1:=Lib.hid hp1
 clear hp1 hb1 HBG
 go_wp2_with fail
 refine(pone_any wa1 row (t1 40) _ _ HP1.out hm (by decide)).mono ?_
 rintro e wa2 ⟨va2,rfl,hp2,hb2⟩
 have HB2:=Lib.hid (HB1.out.trans (hb2.mono HB1.out.size))
 have HP1:=Lib.hid (HP1.out.below hb2)
 have HP2:=Lib.hid hp2
 clear hp2 hb2
 go_wp2_with fail
 refine(or_any wa2 _ _ _ _ _ HP1.out HP2.out (by omega)).mono ?_
 rintro e wa3 ⟨va3,rfl,hp3,hb3⟩
 have HB3:=Lib.hid (HB2.out.trans (hb3.mono HB2.out.size))
 have HP1:=Lib.hid (HP1.out.below hb3)
 have HP2:=Lib.hid (HP2.out.below hb3)
 have HP3:=Lib.hid hp3
 clear hp3 hb3
 go_wp2_with fail
 refine(pone_any wa3 row (t1 87) _ _ HP3.out hm (by decide)).mono ?_
 rintro e wa4 ⟨va4,rfl,hp4,hb4⟩
 have HB4:=Lib.hid (HB3.out.trans (hb4.mono HB3.out.size))
 have HP1:=Lib.hid (HP1.out.below hb4)
 have HP2:=Lib.hid (HP2.out.below hb4)
 have HP3:=Lib.hid (HP3.out.below hb4)
 have HP4:=Lib.hid hp4
 clear hp4 hb4
 go_wp2_with fail
 refine(rep_any wa4 row _ _ HP4.out hm 6 (by decide) (by decide)).mono ?_
 rintro e wa5 ⟨va5,rfl,hp5,hb5⟩
 have HB5:=Lib.hid (HB4.out.trans (hb5.mono HB4.out.size))
 have HP1:=Lib.hid (HP1.out.below hb5)
 have HP2:=Lib.hid (HP2.out.below hb5)
 have HP3:=Lib.hid (HP3.out.below hb5)
 have HP4:=Lib.hid (HP4.out.below hb5)
 have HP5:=Lib.hid hp5
 clear hp5 hb5
 go_wp2_with fail
 refine(pone_any wa5 row (t1 41) _ _ HP5.out hm (by decide)).mono ?_
 rintro e wa6 ⟨va6,rfl,hp6,hb6⟩
 have HB6:=Lib.hid (HB5.out.trans (hb6.mono HB5.out.size))
 have HP1:=Lib.hid (HP1.out.below hb6)
 have HP2:=Lib.hid (HP2.out.below hb6)
 have HP3:=Lib.hid (HP3.out.below hb6)
 have HP4:=Lib.hid (HP4.out.below hb6)
 have HP5:=Lib.hid (HP5.out.below hb6)
 have HP6:=Lib.hid hp6
 clear hp6 hb6
 go_wp2_with fail
 refine(many_any wa6 row tN _ _ HP6.out hm (by decide)).mono ?_
 rintro e wa7 ⟨va7,rfl,hp7,hb7⟩
 have HB7:=Lib.hid (HB6.out.trans (hb7.mono HB6.out.size))
 have HP1:=Lib.hid (HP1.out.below hb7)
 have HP2:=Lib.hid (HP2.out.below hb7)
 have HP3:=Lib.hid (HP3.out.below hb7)
 have HP4:=Lib.hid (HP4.out.below hb7)
 have HP5:=Lib.hid (HP5.out.below hb7)
 have HP6:=Lib.hid (HP6.out.below hb7)
 have HP7:=Lib.hid hp7
 clear hp7 hb7
 go_wp2_with fail
 refine(pone_any wa7 row tL _ _ HP7.out hm (by decide)).mono ?_
 rintro e wa8 ⟨va8,rfl,hp8,hb8⟩
 have HB8:=Lib.hid (HB7.out.trans (hb8.mono HB7.out.size))
 have HP1:=Lib.hid (HP1.out.below hb8)
 have HP2:=Lib.hid (HP2.out.below hb8)
 have HP3:=Lib.hid (HP3.out.below hb8)
 have HP4:=Lib.hid (HP4.out.below hb8)
 have HP5:=Lib.hid (HP5.out.below hb8)
 have HP6:=Lib.hid (HP6.out.below hb8)
 have HP7:=Lib.hid (HP7.out.below hb8)
 have HP8:=Lib.hid hp8
 clear hp8 hb8
 go_wp2_with fail
 refine(or_any wa8 _ _ _ _ _ HP7.out HP8.out (by omega)).mono ?_
 rintro e wa9 ⟨va9,rfl,hp9,hb9⟩
 have HB9:=Lib.hid (HB8.out.trans (hb9.mono HB8.out.size))
 have HP1:=Lib.hid (HP1.out.below hb9)
 have HP2:=Lib.hid (HP2.out.below hb9)
 have HP3:=Lib.hid (HP3.out.below hb9)
 have HP4:=Lib.hid (HP4.out.below hb9)
 have HP5:=Lib.hid (HP5.out.below hb9)
 have HP6:=Lib.hid (HP6.out.below hb9)
 have HP7:=Lib.hid (HP7.out.below hb9)
 have HP8:=Lib.hid (HP8.out.below hb9)
 have HP9:=Lib.hid hp9
 clear hp9 hb9
 obtain⟨bz,cz,rfl,hbz,hcz⟩:=HP9.out
 have k1:=hcz row.size (by omega)
 have hff:form15 row row.size=_:=rfl
 clear hcz
 go_wp2
 go_ret
 exact⟨rfl,HB9.out⟩
set_option maxRecDepth 100000 in
set_option maxHeartbeats 4000000 in
theorem form16_any (row:ByteArray) (hm:row.size≤100000):
  Calls Tryz.prog 58 #[.int .i64 16,.string row] w fun e w'=>e=.returned (.bool (form16 row row.size))∧Below w.heap.size w w':=by
 have HBG:=Lib.hid (begin_p_any w row hm)
 have q1:(row.size:Int)<(row.size:Int)+1:=by omega
 have q2:(0:Int)≤(row.size:Int):=by omega
 go_enter Tryz.func58,Tryz.ntmps58
 go_wp2_with fail
 refine HBG.out.mono ?_
 rintro e wa1 ⟨va1,rfl,hp1,hb1⟩
 have HB1:=Lib.hid hb1
 have HP1:=Lib.hid hp1
 clear hp1 hb1 HBG
 go_wp2_with fail
 refine(pone_any wa1 row (t1 87) _ _ HP1.out hm (by decide)).mono ?_
 rintro e wa2 ⟨va2,rfl,hp2,hb2⟩
 have HB2:=Lib.hid (HB1.out.trans (hb2.mono HB1.out.size))
 have HP1:=Lib.hid (HP1.out.below hb2)
 have HP2:=Lib.hid hp2
 clear hp2 hb2
 go_wp2_with fail
 refine(pone_any wa2 row (t1 40) _ _ HP2.out hm (by decide)).mono ?_
 rintro e wa3 ⟨va3,rfl,hp3,hb3⟩
 have HB3:=Lib.hid (HB2.out.trans (hb3.mono HB2.out.size))
 have HP1:=Lib.hid (HP1.out.below hb3)
 have HP2:=Lib.hid (HP2.out.below hb3)
 have HP3:=Lib.hid hp3
 clear hp3 hb3
 go_wp2_with fail
 refine(pone_any wa3 row (t1 41) _ _ HP3.out hm (by decide)).mono ?_
 rintro e wa4 ⟨va4,rfl,hp4,hb4⟩
 have HB4:=Lib.hid (HB3.out.trans (hb4.mono HB3.out.size))
 have HP1:=Lib.hid (HP1.out.below hb4)
 have HP2:=Lib.hid (HP2.out.below hb4)
 have HP3:=Lib.hid (HP3.out.below hb4)
 have HP4:=Lib.hid hp4
 clear hp4 hb4
 go_wp2_with fail
 refine(many_any wa4 row tN _ _ HP4.out hm (by decide)).mono ?_
 rintro e wa5 ⟨va5,rfl,hp5,hb5⟩
 have HB5:=Lib.hid (HB4.out.trans (hb5.mono HB4.out.size))
 have HP1:=Lib.hid (HP1.out.below hb5)
 have HP2:=Lib.hid (HP2.out.below hb5)
 have HP3:=Lib.hid (HP3.out.below hb5)
 have HP4:=Lib.hid (HP4.out.below hb5)
 have HP5:=Lib.hid hp5
 clear hp5 hb5
 go_wp2_with fail
 refine(pone_any wa5 row ⟨#[66,85,70,72,79,67]⟩ _ _ HP5.out hm (by decide)).mono ?_
 rintro e wa6 ⟨va6,rfl,hp6,hb6⟩
 have HB6:=Lib.hid (HB5.out.trans (hb6.mono HB5.out.size))
 have HP1:=Lib.hid (HP1.out.below hb6)
 have HP2:=Lib.hid (HP2.out.below hb6)
 have HP3:=Lib.hid (HP3.out.below hb6)
 have HP4:=Lib.hid (HP4.out.below hb6)
 have HP5:=Lib.hid (HP5.out.below hb6)
 have HP6:=Lib.hid hp6
 clear hp6 hb6
 obtain⟨bz,cz,rfl,hbz,hcz⟩:=HP6.out
 have k1:=hcz row.size (by omega)
 have hff:form16 row row.size=_:=rfl
 clear hcz
 go_wp2
 go_ret
 exact⟨rfl,HB6.out⟩
set_option maxRecDepth 100000 in
set_option maxHeartbeats 4000000 in
theorem form5_nil (row:ByteArray) (h0:row.size=0):
  Calls Tryz.prog 58 #[.int .i64 5,.string row] w fun e w'=>e=.returned (.bool false)∧Below w.heap.size w w':=by
 have HBG:=Lib.hid (begin_p_any w row (by omega))
 have z1:(row.size==0)=true:=by simpa using h0
 have z2:((row.size:Int)==0)=true:=by simpa using h0
 have z4:=le_yesF h0
 have z5:=le_iyesF h0
 go_enter Tryz.func58,Tryz.ntmps58
 go_wp2_with fail
 refine HBG.out.mono ?_
 rintro e wa1 ⟨va1,rfl,hp1,hb1⟩
 have HB1:=Lib.hid hb1
 clear hp1 hb1 HBG
 go_wp2
 go_ret
 exact⟨rfl,HB1.out⟩
set_option maxRecDepth 100000 in
set_option maxHeartbeats 4000000 in
theorem form_none (kind:Int) (row:ByteArray) (hm:row.size≤100000) (hk:kind≠1∧kind≠2∧kind≠3∧kind≠4∧kind≠5∧kind≠8∧kind≠9∧kind≠10∧kind≠11∧kind≠12∧kind≠13∧kind≠14∧kind≠15∧kind≠16):
  Calls Tryz.prog 58 #[.int .i64 kind,.string row] w fun e w'=>e=.returned (.bool false)∧Below w.heap.size w w':=by
 have HBG:=Lib.hid (begin_p_any w row hm)
 obtain⟨h1,h2,h3,h4,h5,h8,h9,h10,h11,h12,h13,h14,h15,h16⟩:=hk
 have n1:(kind==1)=false:=by simpa using h1
 have n2:(kind==2)=false:=by simpa using h2
 have n3:(kind==3)=false:=by simpa using h3
 have n4:(kind==4)=false:=by simpa using h4
 have n5:(kind==5)=false:=by simpa using h5
 have n8:(kind==8)=false:=by simpa using h8
 have n9:(kind==9)=false:=by simpa using h9
 have n10:(kind==10)=false:=by simpa using h10
 have n11:(kind==11)=false:=by simpa using h11
 have n12:(kind==12)=false:=by simpa using h12
 have n13:(kind==13)=false:=by simpa using h13
 have n14:(kind==14)=false:=by simpa using h14
 have n15:(kind==15)=false:=by simpa using h15
 have n16:(kind==16)=false:=by simpa using h16
 clear h1 h2 h3 h4 h5 h8 h9 h10 h11 h12 h13 h14 h15 h16
 go_enter Tryz.func58,Tryz.ntmps58
 go_wp2_with fail
 refine HBG.out.mono ?_
 rintro e wa1 ⟨va1,rfl,hp1,hb1⟩
 have HB1:=Lib.hid hb1
 clear hp1 hb1 HBG
 go_wp2
 go_ret
 exact⟨rfl,HB1.out⟩
theorem pform_any (kind:Int) (row:ByteArray) (hm:row.size≤100000):
  Calls Tryz.prog 58 #[.int .i64 kind,.string row] w fun e w'=>e=.returned (.bool (formF kind row))∧Below w.heap.size w w':=by
 by_cases e1:kind=1
 ·subst e1
  have e:formF 1 row=form1 row row.size:=by simp [formF]
  rw [e]
  exact form1_any w row hm
 by_cases e2:kind=2
 ·subst e2
  have e:formF 2 row=form2 row row.size:=by simp [formF]
  rw [e]
  exact form2_any w row hm
 by_cases e3:kind=3
 ·subst e3
  have e:formF 3 row=form3 row row.size:=by simp [formF]
  rw [e]
  exact form3_any w row hm
 by_cases e4:kind=4
 ·subst e4
  have e:formF 4 row=form4 row row.size:=by simp [formF]
  rw [e]
  exact form4_any w row hm
 by_cases e5:kind=5
 ·subst e5
  by_cases h0:row.size=0
  ·have e:formF 5 row=false:=by simp [formF,h0]
   rw [e]
   exact form5_nil w row h0
  ·have e:formF 5 row=form5 row row.size:=by simp [formF,h0]
   rw [e]
   exact form5_any w row hm h0
 by_cases e8:kind=8
 ·subst e8
  have e:formF 8 row=form8 row row.size:=by simp [formF]
  rw [e]
  exact form8_any w row hm
 by_cases e9:kind=9
 ·subst e9
  have e:formF 9 row=form9 row row.size:=by simp [formF]
  rw [e]
  exact form9_any w row hm
 by_cases e10:kind=10
 ·subst e10
  have e:formF 10 row=form10 row row.size:=by simp [formF]
  rw [e]
  exact form10_any w row hm
 by_cases e11:kind=11
 ·subst e11
  have e:formF 11 row=form11 row row.size:=by simp [formF]
  rw [e]
  exact form11_any w row hm
 by_cases e12:kind=12
 ·subst e12
  have e:formF 12 row=form12 row row.size:=by simp [formF]
  rw [e]
  exact form12_any w row hm
 by_cases e13:kind=13
 ·subst e13
  have e:formF 13 row=form13 row row.size:=by simp [formF]
  rw [e]
  exact form13_any w row hm
 by_cases e14:kind=14
 ·subst e14
  have e:formF 14 row=form14 row row.size:=by simp [formF]
  rw [e]
  exact form14_any w row hm
 by_cases e15:kind=15
 ·subst e15
  have e:formF 15 row=form15 row row.size:=by simp [formF]
  rw [e]
  exact form15_any w row hm
 by_cases e16:kind=16
 ·subst e16
  have e:formF 16 row=form16 row row.size:=by simp [formF]
  rw [e]
  exact form16_any w row hm
 have e:formF kind row=false:=by
  unfold formF
  rw [if_neg e1,if_neg e2,if_neg e3,if_neg e4,if_neg e5,if_neg e8,if_neg e9,if_neg e10,if_neg e11,if_neg e12,if_neg e13,if_neg e14,if_neg e15,if_neg e16]
 rw [e]
 exact form_none w kind row hm ⟨e1,e2,e3,e4,e5,e8,e9,e10,e11,e12,e13,e14,e15,e16⟩
end
end Go.Proofs.YtkolpaonccmgiaaGreatDoor.Q

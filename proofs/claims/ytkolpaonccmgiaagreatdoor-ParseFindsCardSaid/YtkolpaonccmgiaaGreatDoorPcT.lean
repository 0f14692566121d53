/- What the row's listed variable gives the walks: th -/
import Derived.Test.YtkolpaonccmgiaaGreatDoorCards
import Derived.Test.YtkolpaonccmgiaaGreatDoorTie
import Derived.Deep.DeepHandedRow
import Derived.Lay
import Derived.Test.YtkolpaonccmgiaaGreatDoorTkC
import Derived.Lib.SmallJoins
set_option linter.unusedVariables false
namespace Go.Proofs.YtkolpaonccmgiaaGreatDoor
set_option linter.unusedVariables false
open Go.ChangeShapes Go.WideShapes Go.ChangeAt Go.RowKit
def txtL:List (List UInt8):=(List.range 18).map fun i=>(txt i).data.toList
theorem gTexts:Tryz.prog.globalNamed "quillwort/oper.texts"=some 0:=by kernel_rfl
theorem gTextsType:(Tryz.prog.globals[0]?).map (·.type)=some 143:=by kernel_rfl
theorem cellsTexts:Tryz.prog.cellsOf 143=18:=by kernel_rfl
theorem cellsText:Tryz.prog.cellsOf 9=1:=by kernel_rfl
theorem tx_of_laid {W:World} (h:laidMet Tryz.prog [("unicode/utf8.acceptRanges",Rows.laid_unicode_utf8_acceptRanges),("quillwort/oper.texts",Rows.laid_quillwort_oper_texts),("unicode/utf8.first",Rows.laid_unicode_utf8_first)] W):Tx W:=by
 obtain⟨ps0,⟨g0,t0,cs0,fuel0,p0,q0,hg0,ht0,hvar0,hd0,htail,_⟩,_⟩:=h
 obtain⟨g',t',cs,fuel,p,q,hg',ht',hvar,hd,_,_⟩:=htail
 obtain rfl:=Option.some.inj (gTexts.symm.trans hg')
 obtain rfl:=Option.some.inj (gTextsType.symm.trans ht')
 have hcell:∀i,i<18→W.cell? ⟨0,i,none⟩=some (.string (txt i)):=fun i hi=>by
  obtain⟨xs,m,-,hx,hlen,hn,hel⟩:=DataW.trod_array Tryz.underlying143 hd
  rw [cellsTexts]at hlen
  have hi2:i<xs.length:=by omega
  have h1:=hel i hi
  rw [cellsText,Nat.mul_one,List.getElem?_eq_getElem hi2]at h1
  obtain⟨z,hz,hxi,-⟩:=DataW.trod_string Tryz.underlying9 h1
  have hti:(txtL.map fun t=>(DataW.lit (.string t):DataW Unit))[i]?=some (.lit (.string z.data.toList)):=by
   have e:txtL.map (fun t=>(DataW.lit (.string t):DataW Unit))=xs.map (·.1):=(DataW.agg.inj (Prod.mk.inj hx).1:)
   rw [e,List.getElem?_map,List.getElem?_eq_getElem hi2,hxi]
   rfl
  have hzt:z=txt i:=by
   have e:(txt i).data.toList=z.data.toList:=by simpa [txtL,hi]using hti
   exact ByteArray.ext (Array.toList_inj.1 e.symm)
  have hc:cs[i]?=some (.string z):=by
   have e:=congrArg (·[0]?) hz
   simpa [List.getElem?_take,List.getElem?_drop]using e
  have hv:=World.var?_cell gTexts hvar i
  rw [hv,←hzt,←hc]
 refine⟨?_,hcell⟩
 have h0:=hcell 0 (by omega)
 refine Nat.pos_of_ne_zero fun g=>?_
 have:W.heap[0]?=none:=Array.getElem?_eq_none (by omega)
 simp [World.cell?,this]at h0
theorem pf_laid:laidOutB Tryz.prog=true:=by kernel_rfl
theorem pf_maps:mapsRowed Tryz.prog=true:=by kernel_rfl
theorem pf_keys:(Rows.parseFaultsRow.plainKeys==Tryz.prog.plainKeys)=true:=by kernel_rfl
theorem pf_heard:Tryz.prog.stopsHeard=true:=by kernel_rfl
theorem pf_enter:Tryz.prog.mayEnter=true:=by kernel_rfl
theorem pf_lifts:(Rows.parseFaultsRow.lifted==Tryz.prog.liftsFinal)=true:=by kernel_rfl
theorem pf_make:(Tryz.prog.make==some Rows.parseFaultsRow.make)=true:=by kernel_rfl
noncomputable def laidWorld (os:Os):World:=World.laidAll Tryz.prog os [("unicode/utf8.acceptRanges",Rows.laid_unicode_utf8_acceptRanges),("quillwort/oper.texts",Rows.laid_quillwort_oper_texts),("unicode/utf8.first",Rows.laid_unicode_utf8_first)]
theorem laidWorld_os (os:Os):(laidWorld os).os=os:=World.laidAll_os _ _ _
end Go.Proofs.YtkolpaonccmgiaaGreatDoor

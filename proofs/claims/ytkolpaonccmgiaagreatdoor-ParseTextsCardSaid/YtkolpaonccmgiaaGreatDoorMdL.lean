/- What a strings.Builder's WriteString returns: the  -/
import Derived.Test.YtkolpaonccmgiaaGreatDoorShelf
import Derived.Test.YtkolpaonccmgiaaGreatDoorMdM
namespace Go.Proofs.YtkolpaonccmgiaaGreatDoor
set_option linter.unusedVariables false
open Go.Proofs.Tryz
open Go.RowKit Go.Shelf
def pq:Go.Shelf.Ren:=⟨fun|240=>197|276=>224|166=>165|n=>n,fun|0=>0|3=>3|4=>4|5=>5|9=>9|20=>20|37=>127|70=>153|72=>155|75=>162|80=>165|127=>128|164=>201|n=>n,fun|n=>n⟩
theorem Bc:Go.Proofs.Lays.n166 prog pq where
 mixed:=by kernel_rfl
 f166:=Tryz.func165.trans (congrArg some (by kernel_rfl))
 f240:=Tryz.func197.trans (congrArg some (by kernel_rfl))
 f276:=Tryz.func224.trans (congrArg some (by kernel_rfl))
 t0:=underlying0
 a0:=isAgg0
 z0:=sizeOf0
 v0:=zeroValue0
 t3:=underlying3
 a3:=isAgg3
 z3:=sizeOf3
 v3:=zeroValue3
 t4:=underlying4
 a4:=isAgg4
 z4:=sizeOf4
 v4:=zeroValue4
 t9:=underlying9
 a9:=isAgg9
 z9:=sizeOf9
 v9:=zeroValue9
 t20:=underlying20
 a20:=isAgg20
 z20:=sizeOf20
 v20:=zeroValue20
 t37:=underlying127
 a37:=isAgg127
 z37:=sizeOf127
 v37:=zeroValue127
 t70:=underlying153
 a70:=isAgg153
 z70:=sizeOf153
 v70:=zeroValue153
 t72:=underlying155
 a72:=isAgg155
 z72:=sizeOf155
 v72:=zeroValue155
 t75:=underlying162
 a75:=isAgg162
 z75:=sizeOf162
 v75:=zeroValue162
 t164:=underlying201
 a164:=isAgg201
 z164:=sizeOf201
 v164:=zeroValue201
theorem Bg:Builder.Extra prog pq where
 sizeBuilder:=by kernel_rfl
 liesBuilder:=by kernel_rfl
 t5:=underlying5
 a5:=isAgg5
 z5:=sizeOf5
 v5:=zeroValue5
 infoByte:=by kernel_rfl
 cellsByte:=by kernel_rfl
 sizeByte:=by kernel_rfl
 neB5:=by decide
def Bld(B:Nat)(x:List Value)(w:World):Prop:=Lib.IsBuilder 155 5 B B x w
end Go.Proofs.YtkolpaonccmgiaaGreatDoor

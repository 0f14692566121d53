/- What a strings.Builder's WriteString returns: the library's contracts, laid at this program by hand: the builder holds the bytes. Condition: a builder of the call's own; the new length takes at most 2^47 bytes. -/
import Derived.Test.YtiklnlkakhghdaaGreatDoorShelf
import Derived.Lib.AppendStr
import Derived.Test.YtiklnlkakhghdaaGreatDoorMdM
namespace Go.Proofs.YtiklnlkakhghdaaGreatDoor
open Go.RowKit Go.Shelf
set_option linter.unusedVariables false

/-- Which of this program's numbers stand for the library's. -/
def renB : Go.Shelf.Ren := ⟨fun | 240 => 99 | 276 => 118 | 166 => 74 | n => n, fun | 0 => 0 | 3 => 3 | 4 => 4 | 5 => 5 | 9 => 9 | 20 => 20 | 37 => 79 | 70 => 107 | 72 => 109 | 75 => 116 | 80 => 119 | 127 => 80 | 164 => 155 | n => n, fun | n => n⟩
theorem laidN166 : Go.Proofs.Lays.n166 Tryz.prog renB where
  mixed := by kernel_rfl
  f166 := Tryz.func74.trans (congrArg some (by kernel_rfl))
  f240 := Tryz.func99.trans (congrArg some (by kernel_rfl))
  f276 := Tryz.func118.trans (congrArg some (by kernel_rfl))
  t0 := Tryz.underlying0
  a0 := Tryz.isAgg0
  z0 := Tryz.sizeOf0
  v0 := Tryz.zeroValue0
  t3 := Tryz.underlying3
  a3 := Tryz.isAgg3
  z3 := Tryz.sizeOf3
  v3 := Tryz.zeroValue3
  t4 := Tryz.underlying4
  a4 := Tryz.isAgg4
  z4 := Tryz.sizeOf4
  v4 := Tryz.zeroValue4
  t9 := Tryz.underlying9
  a9 := Tryz.isAgg9
  z9 := Tryz.sizeOf9
  v9 := Tryz.zeroValue9
  t20 := Tryz.underlying20
  a20 := Tryz.isAgg20
  z20 := Tryz.sizeOf20
  v20 := Tryz.zeroValue20
  t37 := Tryz.underlying79
  a37 := Tryz.isAgg79
  z37 := Tryz.sizeOf79
  v37 := Tryz.zeroValue79
  t70 := Tryz.underlying107
  a70 := Tryz.isAgg107
  z70 := Tryz.sizeOf107
  v70 := Tryz.zeroValue107
  t72 := Tryz.underlying109
  a72 := Tryz.isAgg109
  z72 := Tryz.sizeOf109
  v72 := Tryz.zeroValue109
  t75 := Tryz.underlying116
  a75 := Tryz.isAgg116
  z75 := Tryz.sizeOf116
  v75 := Tryz.zeroValue116
  t164 := Tryz.underlying155
  a164 := Tryz.isAgg155
  z164 := Tryz.sizeOf155
  v164 := Tryz.zeroValue155
theorem laidX : Builder.Extra Tryz.prog renB where
  sizeBuilder := by kernel_rfl
  liesBuilder := by kernel_rfl
  t5 := Tryz.underlying5
  a5 := Tryz.isAgg5
  z5 := Tryz.sizeOf5
  v5 := Tryz.zeroValue5
  infoByte := by kernel_rfl
  cellsByte := by kernel_rfl
  sizeByte := by kernel_rfl
  neB5 := by decide

/-- A strings.Builder of the call's own that holds these bytes. -/
def Bld (B : Nat) (x : List Value) (w : World) : Prop := Lib.IsBuilder 109 5 B B x w
theorem bstring_any (B : Nat) (x : List Value) (s : ByteArray) (w : World) (h : Bld B x w) (hl : x.length ≤ 1000000) (hs : s.size ≤ 1000000) (hB : B ≤ w.heap.size) :
    Calls Tryz.prog 74 #[.pointer (some ⟨B, 0, none⟩), .string s] w fun e w' => e = .returned (.tuple #[.int .i64 s.size, .nilIface]) ∧ Bld B (x ++ Lib.strCells s) w' ∧ Below B w w' :=
  (Any.Builder_WriteString laidN166 laidX B B x s w h (by omega) hB).mono fun _ _ ⟨he, hb, hw⟩ => ⟨he, .inr hb, hw⟩
end Go.Proofs.YtiklnlkakhghdaaGreatDoor

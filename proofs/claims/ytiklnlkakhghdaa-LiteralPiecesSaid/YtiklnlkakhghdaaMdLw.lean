/- What a strings.Builder's WriteByte returns: the library's contract, laid at this program by hand: the builder holds the bytes. Condition: a builder of the call's own; the new length takes at most 2^47 bytes. -/
import Derived.Test.YtiklnlkakhghdaaMdL
namespace Go.Proofs.Ytiklnlkakhghdaa
open Go.RowKit Go.Shelf
set_option linter.unusedVariables false

/-- Which of this program's numbers stand for the library's. -/
def renBw : Go.Shelf.Ren := ⟨fun | 240 => 41 | 276 => 60 | 167 => 40 | 166 => 26 | n => n, fun | 0 => 0 | 3 => 3 | 4 => 4 | 5 => 5 | 9 => 9 | 20 => 20 | 37 => 50 | 70 => 49 | 72 => 52 | 75 => 54 | 80 => 57 | 127 => 76 | 164 => 98 | n => n, fun | n => n⟩
theorem laidN167 : Go.Proofs.Lays.n167 Try.prog renBw where
  mixed := by kernel_rfl
  f167 := Try.func40.trans (congrArg some (by kernel_rfl))
  f240 := Try.func41.trans (congrArg some (by kernel_rfl))
  f276 := Try.func60.trans (congrArg some (by kernel_rfl))
  t0 := Try.underlying0
  a0 := Try.isAgg0
  z0 := Try.sizeOf0
  v0 := Try.zeroValue0
  t4 := Try.underlying4
  a4 := Try.isAgg4
  z4 := Try.sizeOf4
  v4 := Try.zeroValue4
  t5 := Try.underlying5
  a5 := Try.isAgg5
  z5 := Try.sizeOf5
  v5 := Try.zeroValue5
  t9 := Try.underlying9
  a9 := Try.isAgg9
  z9 := Try.sizeOf9
  v9 := Try.zeroValue9
  t20 := Try.underlying20
  a20 := Try.isAgg20
  z20 := Try.sizeOf20
  v20 := Try.zeroValue20
  t37 := Try.underlying50
  a37 := Try.isAgg50
  z37 := Try.sizeOf50
  v37 := Try.zeroValue50
  t70 := Try.underlying49
  a70 := Try.isAgg49
  z70 := Try.sizeOf49
  v70 := Try.zeroValue49
  t72 := Try.underlying52
  a72 := Try.isAgg52
  z72 := Try.sizeOf52
  v72 := Try.zeroValue52
  t75 := Try.underlying54
  a75 := Try.isAgg54
  z75 := Try.sizeOf54
  v75 := Try.zeroValue54
  t164 := Try.underlying98
  a164 := Try.isAgg98
  z164 := Try.sizeOf98
  v164 := Try.zeroValue98
theorem laidXw : Builder.Extra Try.prog renBw where
  sizeBuilder := by kernel_rfl
  liesBuilder := by kernel_rfl
  t5 := Try.underlying5
  a5 := Try.isAgg5
  z5 := Try.sizeOf5
  v5 := Try.zeroValue5
  infoByte := by kernel_rfl
  cellsByte := by kernel_rfl
  sizeByte := by kernel_rfl
  neB5 := by decide

theorem bbyte_any (B : Nat) (x : List Value) (c : Int) (w : World) (h : Bld B x w) (hl : x.length ≤ 1000000) (hB : B ≤ w.heap.size) :
    Calls Try.prog 40 #[.pointer (some ⟨B, 0, none⟩), .int .u8 c] w fun e w' => e = .returned .nilIface ∧ Bld B (x ++ [.int .u8 c]) w' ∧ Below B w w' :=
  (Any.Builder_WriteByte laidN167 laidXw B B x c w h (by omega) hB).mono fun _ _ ⟨he, hb, hw⟩ => ⟨he, .inr hb, hw⟩
end Go.Proofs.Ytiklnlkakhghdaa

/- What the document's own Lines of layer 3 (lines) returns: a new row of the text's lines. Condition: texts of at most a million bytes. -/
import Derived.Test.YtiiebholgmhogaaLnA
import Derived.Test.YtiiebholgmhogaaMem
import Derived.RangeFuncBox
import Derived.Maps.AppendAt
import Derived.Laws.AppendOwn
namespace Go.Proofs.Ytiiebholgmhogaa
open Go.RowKit
set_option linter.unusedVariables false

theorem infoS : (Try.prog.info? 9).map (fun i => (i.zero, i.size, i.bytes)) = some (some (.string ⟨#[]⟩), 1, 16) := by kernel_rfl

def strCells (zs : List ByteArray) : List Value := zs.map Value.string
def LiRel (s : ByteArray) (w : World) (v3 v4 v5 : Value) (wr : World) : Prop :=
  ∃ k n : Nat, ∃ x : ByteArray, ∃ zs : List Value, k ≤ s.size ∧ v5 = .int .i64 k ∧ v4 = .string x ∧ x = s.extract (hd s k) k ∧ n = ct s k ∧ zs = strCells (ln s k) ∧ wr.ownsRow w.heap.size 9 1 v3 n zs ∧ Below w.heap.size w wr

set_option maxHeartbeats 1000000 in
theorem reflines_any (s : ByteArray) (w : World) (hs : s.size ≤ 1000000) :
    Calls Try.prog 9 #[.string s] w fun e w' => ∃ v, e = .returned v ∧ w'.ownsRow w.heap.size 9 1 v (ct s s.size + 1) (strCells (lns s)) ∧ Below w.heap.size w w' := by
  obtain ⟨i0, hi, hz0, hz1, hz2⟩ := info_parts infoS
  go_enter Try.func9, Try.ntmps9
  go_wp2
  go_loopw [3, 4, 5] (fun v3 v4 v5 wr => LiRel s w v3 v4 v5 wr) (fun _ _ v5 _ => s.size - (intOf v5).toNat)
  case atStart => exact ⟨0, 0, _, _, Nat.zero_le _, rfl, rfl, by simp [hd]; rfl, rfl, rfl, World.ownsRow_nil _ _ _ _, Below.refl _ _⟩
  case round =>
    obtain ⟨k, n, x, zs, hk, rfl, rfl, hx, hn, hz, hrow, hB⟩ := hrel
    have HX := Lib.hid hx
    have HN := Lib.hid hn
    have HZ := Lib.hid hz
    have hn' : n ≤ 1000000 := by have := ct_le s k; omega
    have hxs : x.size ≤ 1000000 := by rw [hx]; simp; omega
    clear hx hn hz
    by_cases hlt : (k : Int) < s.size
    · have hlt' : k < s.size := by omega
      by_cases e : bt s k = 10
      · have t1 := nl_yes hlt' e
        have HE := Lib.hid e
        clear e
        go_wp2_with (at_builtin; refine wpList_append_own _ rfl _ _ 26 rfl w.heap.size 9 i0 (.string ⟨#[]⟩) 1 16 Try.underlying26 hi hz0 hz1 hz2 rfl (by decide) _ _ _ rfl (hrow.alloc _) ⟨wr.heap.size, 0, none⟩ 1 1 [.string x] rfl rfl (cell_one_new _ _ _) (by simp [Value.oneCell']) (by unfold maxLen; omega) (by omega) (by have := hB.size; simp; omega) ?_; intro v' w1 hown' hgrow _)
        go_roundw
        case rel =>
          refine ⟨k + 1, n + 1, _, _, by omega, by go_num, rfl, by rw [hd_s1 s HE.out]; simp; rfl, by rw [HN.out, ct_s1 s HE.out], ?_, hown', (hB.alloc hB.size _).grown hgrow (by have := hB.size; simp; omega) (own_ge hrow)⟩
          rw [ln_s1 s HE.out, HX.out, HZ.out]; simp [strCells]
        case measure => simp [intOf]; omega
      · have t1 := nl_no hlt' e
        have HE := Lib.hid e
        clear e
        have e0 : ¬ x.size + (s.extract k (k + 1)).size > 9223372036854775807 := by simp; omega
        go_wp2
        go_roundw
        case rel =>
          refine ⟨k + 1, n, _, zs, by omega, by go_num, rfl, ?_, by rw [HN.out, ct_s0 s HE.out], by rw [HZ.out, ln_s0 s HE.out], hrow, hB⟩
          rw [hd_s0 s HE.out, HX.out, extract_split s _ k (k + 1) (hd_le s k) (by omega)]
        case measure => simp [intOf]; omega
    · obtain rfl : k = s.size := by omega
      go_wp2_with (at_builtin; refine wpList_append_own _ rfl _ _ 26 rfl w.heap.size 9 i0 (.string ⟨#[]⟩) 1 16 Try.underlying26 hi hz0 hz1 hz2 rfl (by decide) _ _ _ rfl (hrow.alloc _) ⟨wr.heap.size, 0, none⟩ 1 1 [.string x] rfl rfl (cell_one_new _ _ _) (by simp [Value.oneCell']) (by unfold maxLen; omega) (by omega) (by have := hB.size; simp; omega) ?_; intro v' w1 hown' hgrow _)
      go_ret
      refine ⟨v', rfl, ?_, (hB.alloc hB.size _).grown hgrow (by have := hB.size; simp; omega) (own_ge hrow)⟩
      rw [HN.out, HZ.out, HX.out] at hown'
      simpa [lns, strCells] using hown'
end Go.Proofs.Ytiiebholgmhogaa

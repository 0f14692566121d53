/- What Hang of layer 11 (tree) returns. Condition: at most ten thousand nodes each. -/
import Derived.Test.YtppipngdakfbpaaTrK
namespace Go.Proofs.Ytppipngdakfbpaa
open Go.RowKit
set_option linter.unusedVariables false

section
variable (w : World)
set_option maxRecDepth 100000 in
set_option maxHeartbeats 8000000 in
theorem hang_any (ao bo : Option Addr) (n m ac bc : Nat) (nv mv : Nat → Nd) (by' : Int) (hA : NRow w ao n nv) (hB : NRow w bo m mv) (hn0 : 0 < n) (hm0 : 0 < m) (hn : n ≤ 10000) (hm : m ≤ 10000)
    (hwf : ∀ j, j < m → IntKind.i64.wrap ((mv j).f + by') = (mv j).f + by' ∧ IntKind.i64.wrap ((mv j).t + by') = (mv j).t + by' ∧ IntKind.i64.wrap ((mv j).u + (n : Int)) = (mv j).u + (n : Int)) :
    Calls Try.prog 21 #[.slice ao n ac, .slice bo m bc, .int .i64 by'] w fun e w' => (∃ oa oc, e = .returned (.slice oa (n + m) oc) ∧ w'.ownsRow w.heap.size 30 4 (.slice oa (n + m) oc) (n + m) (cellsN (lstf n nv ++ lstf m (hangN mv n by')))) ∧ Below w.heap.size w w' := by
  obtain ⟨W1, hW1⟩ : ∃ W1, w.alloc (.cells #[.slice ao n ac, .slice bo m bc] 22) = W1 := ⟨_, rfl⟩
  have hBk : Blk W1 w.heap.size #[.slice ao n ac, .slice bo m bc] 22 := by rw [← hW1]; exact Blk.new _ _ _
  have hB1 : Below w.heap.size w W1 := by rw [← hW1]; exact (Below.refl _ _).alloc (Nat.le_refl _) _
  have hS1 : W1.heap.size = w.heap.size + 1 := by rw [← hW1]; exact World.size_alloc _ _
  have hsA : Src W1 (.slice ao n ac) n (cellsN (lstf n nv)) := nrow_src (L := lstf n nv) ((hA.below hB1).congr (fun j hj => (lstf_nl (f := nv) hj).symm)) (lstf_len _ _).symm (fun h => by omega)
  have hsB : Src W1 (.slice bo m bc) m (cellsN (lstf m mv)) := nrow_src (L := lstf m mv) ((hB.below hB1).congr (fun j hj => (lstf_nl (f := mv) hj).symm)) (lstf_len _ _).symm (fun h => by omega)
  have HC := Lib.hid (concat_any W1 w.heap.size n m ac bc ao bo (lstf n nv) (lstf m mv) (hBk.cell 0) (hBk.cell 1) hBk.lt hsA hsB (lstf_len _ _).symm (lstf_len _ _).symm hn0 (by omega))
  have HW1 := Lib.hid hW1
  have HB1 := Lib.hid hB1
  have HS1 := Lib.hid hS1
  have HWF := Lib.hid hwf
  have t1 : ((n : Int) == 0) = false := by simp; omega
  have t2 : ((m : Int) == 0) = false := by simp; omega
  clear hW1 hBk hB1 hS1 hsA hsB hwf hA hB
  go_enter Try.func21, Try.ntmps21
  go_wp2_with fail
  rw [HW1.out]
  refine HC.out.mono ?_
  rintro e w2 ⟨⟨oa, oc, rfl, hO⟩, hb⟩
  obtain ⟨g, c', hgc, hgb, hgc1, hgc2, hgl⟩ := owns_nil hO (by omega)
  obtain ⟨rfl, rfl⟩ : oa = some ⟨g, 0, none⟩ ∧ oc = c' := by simpa using hgc
  have hgb' : w.heap.size ≤ g := by have := HS1.out; omega
  have HO := Lib.hid (owns_base hO (c := w.heap.size) (fun k hk => by have := own_ge hO k hk; have := HS1.out; omega))
  have HB2 := Lib.hid (HB1.out.trans (hb.mono HB1.out.size))
  have q1 : (n : Int) ≤ ((n + m : Nat) : Int) := by omega
  have q2 : ((n + m : Nat) : Int) ≤ (oc : Int) := by omega
  have q3 : n ≤ n + m := by omega
  have q4 : n + m ≤ oc := hgc1
  clear hO hb hgc hgb
  go_wp2
  go_loopw [30] (fun v30 wr => HgR (lstf n nv) mv n m by' g oc w.heap.size w v30 wr) (fun v30 _ => m - (intOf v30).toNat)
  case atStart =>
    refine ⟨0, rfl, Nat.zero_le _, ?_, HB2.out⟩
    rw [lstf_congr (f := hgK mv n by' 0) (g := mv) (fun j hj => by unfold hgK; rw [if_neg (Nat.not_lt_zero _)])]
    exact HO.out
  case round =>
    obtain ⟨k, rfl, hk, hO, hB⟩ := hrel
    have HOK := Lib.hid hO
    have HBK := Lib.hid hB
    clear hO hB
    by_cases hlt : (k : Int) < (m : Int)
    · have hlt' : k < m := by omega
      have hAt : (lstf n nv ++ lstf m (hgK mv n by' k))[n + k]? = some (mv k) := app_at (lstf_len _ _) (by rw [lstf_at hlt']; unfold hgK; rw [if_neg (Nat.lt_irrefl _)])
      obtain ⟨w1, w2', w3⟩ := HWF.out k hlt'
      obtain ⟨P, hP⟩ : ∃ P, mv k = P := ⟨_, rfl⟩
      rw [hP] at hAt w1 w2' w3
      obtain ⟨pk, pf, pt, pu⟩ := P
      simp only at w1 w2' w3
      have e3 : (n + k) * 4 = n * 4 + k * 4 := by omega
      obtain ⟨c0, c1, c2, c3⟩ := owns_cells HOK.out hAt
      have g1 := cellsN_set hAt (q := ⟨pk, pf, pt, pu + (n : Int)⟩) (c := 3) (v := .int .i64 (pu + (n : Int))) rfl (by decide)
      have hO1 := owns_set HOK.out ((n + k) * 4 + 3) (.int .i64 (pu + (n : Int)))
      rw [← g1] at hO1
      have hAt1 : ((lstf n nv ++ lstf m (hgK mv n by' k)).set (n + k) ⟨pk, pf, pt, pu + (n : Int)⟩)[n + k]? = some ⟨pk, pf, pt, pu + (n : Int)⟩ := by
        rw [List.getElem?_set, if_pos rfl, if_pos (List.getElem?_eq_some_iff.1 hAt).1]
      obtain ⟨d0, d1, d2, d3⟩ := owns_cells hO1 hAt1
      have g2 := cellsN_set hAt1 (q := ⟨pk, pf + by', pt, pu + (n : Int)⟩) (c := 1) (v := .int .i64 (pf + by')) rfl (by decide)
      have hO2 := owns_set hO1 ((n + k) * 4 + 1) (.int .i64 (pf + by'))
      rw [← g2, List.set_set] at hO2
      have hAt2 : ((lstf n nv ++ lstf m (hgK mv n by' k)).set (n + k) ⟨pk, pf + by', pt, pu + (n : Int)⟩)[n + k]? = some ⟨pk, pf + by', pt, pu + (n : Int)⟩ := by
        rw [List.getElem?_set, if_pos rfl, if_pos (List.getElem?_eq_some_iff.1 hAt).1]
      obtain ⟨x0, x1, x2, x3⟩ := owns_cells hO2 hAt2
      have g3 := cellsN_set hAt2 (q := ⟨pk, pf + by', pt + by', pu + (n : Int)⟩) (c := 2) (v := .int .i64 (pt + by')) rfl (by decide)
      have hO3 := owns_set hO2 ((n + k) * 4 + 2) (.int .i64 (pt + by'))
      rw [← g3, List.set_set, app_set (lstf_len _ _)] at hO3
      have hfin : (lstf m (hgK mv n by' k)).set k ⟨pk, pf + by', pt + by', pu + (n : Int)⟩ = lstf m (hgK mv n by' (k + 1)) := by
        have h := lstf_set (f := hgK mv n by' k) (g := hgK mv n by' (k + 1)) hlt' (fun j hj hne => by unfold hgK; by_cases h1 : j < k; rw [if_pos h1, if_pos (by omega)]; rw [if_neg h1, if_neg (by omega)])
        rw [← h]
        congr 1
        unfold hgK hgN
        rw [if_pos (Nat.lt_succ_self _), hP]
      rw [hfin] at hO3
      have z3 := owns_frozen HOK.out ((n + k) * 4 + 3)
      have z1 := owns_frozen hO1 ((n + k) * 4 + 1)
      have z2 := owns_frozen hO2 ((n + k) * 4 + 2)
      rw [e3] at c3 d1 x2 z3 z1 z2
      simp only at c3 d1 x2
      have HO3 := Lib.hid hO3
      have E3 := Lib.hid e3
      have r0 : (0 : Int) ≤ (k : Int) := by omega
      clear c0 c1 c2 d0 d2 d3 x0 x1 x3 g1 g2 g3 hO1 hO2 hO3 hAt hAt1 hAt2 hfin hP e3
      go_wp2
      go_roundw
      case rel =>
        refine ⟨k + 1, by go_num, by omega, ?_, ((HBK.out.setCell (p := ⟨g, n * 4 + k * 4 + 3, none⟩) hgb' _).setCell (p := ⟨g, n * 4 + k * 4 + 1, none⟩) hgb' _).setCell (p := ⟨g, n * 4 + k * 4 + 2, none⟩) hgb' _⟩
        have h := HO3.out
        rw [E3.out] at h
        exact h
      case measure => simp [intOf]; omega
    · obtain rfl : k = m := by omega
      have hAt : (lstf n nv ++ lstf k (hgK mv n by' k))[n + 0]? = some (hgN mv n by' 0) := app_at (lstf_len _ _) (by rw [lstf_at hm0]; unfold hgK; rw [if_pos hm0])
      obtain ⟨c0, c1, c2, c3⟩ := owns_cells HOK.out hAt
      have g1 := cellsN_set hAt (q := hangN mv n by' 0) (c := 3) (v := .int .i64 0) rfl (by decide)
      have hO1 := owns_set HOK.out ((n + 0) * 4 + 3) (.int .i64 0)
      rw [← g1, app_set (lstf_len _ _), lstf_set (g := hangN mv n by') hm0 (fun j hj hne => by unfold hgK hangN hgN; rw [if_pos hj, if_neg hne])] at hO1
      have z3 := owns_frozen HOK.out ((n + 0) * 4 + 3)
      simp only [Nat.add_zero] at c3 hO1 z3
      have HO1 := Lib.hid hO1
      have p0 : (0 : Int) < (k : Int) := by omega
      obtain ⟨U, hU⟩ : ∃ U, (hgN mv n by' 0).u = U := ⟨_, rfl⟩
      rw [hU] at c3
      clear c0 c1 c2 g1 hO1 hAt hU
      go_wp2
      go_ret
      exact ⟨⟨_, _, rfl, HO1.out⟩, HBK.out.setCell (p := ⟨g, n * 4 + 3, none⟩) hgb' _⟩
end
end Go.Proofs.Ytppipngdakfbpaa

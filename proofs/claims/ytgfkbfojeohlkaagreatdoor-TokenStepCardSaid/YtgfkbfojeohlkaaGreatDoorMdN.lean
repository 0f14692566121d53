/- What the document's own machine makes of a byte in each mode that takes it. Condition: stacks of at most 99,000 frames; a byte. -/
import Derived.Test.YtgfkbfojeohlkaaGreatDoorMdH
import Derived.Test.YtgfkbfojeohlkaaGreatDoorMdH2
import Derived.Test.YtgfkbfojeohlkaaGreatDoorMdH3
import Derived.Test.YtgfkbfojeohlkaaGreatDoorMdU
import Derived.Deep.CutRange
import Derived.Deep.DeepCutAuto
namespace Go.Proofs.YtgfkbfojeohlkaaGreatDoor
open Go.RowKit
set_option linter.unusedVariables false

theorem blk1 (w : World) (cs : Array Value) (o : Obj) (t : TypeId) : Blk ((w.alloc (.cells cs t)).alloc o) w.heap.size cs t := (Blk.new w cs t).alloc o
theorem t_no {b L : Nat} (h : b ≠ L) : ((b : Int) == (L : Int)) = false := beq_eq_false_iff_ne.2 (by omega)
section
variable (w : World) (b f p : Nat) (r : List Fr) (S0 : ByteArray) (g0 n0 cap0 : Nat) (fr : Bool)
theorem pgm_0 (hR0 : Rv w ((0, f) :: r) S0 g0 n0 cap0) (hl : r.length ≤ 99000) :
    Calls Tryz.prog 126 #[.agg #[.string S0, .slice (some ⟨g0, 0, none⟩) n0 cap0, .bool fr], .int .u8 84, .int .u8 b, .int .i64 (p : Int)] w (RvTo w g0 (plainF ((0, f) :: r) fr b p).st (plainF ((0, f) :: r) fr b p).fresh) := by
  by_cases h92 : b = 92
  · subst h92
    exact pg_92 w f p r fr S0 g0 n0 cap0 0 84 hR0 hl
  by_cases h39 : b = 39
  · subst h39
    exact pg_39 w f p r fr S0 g0 n0 cap0 0 84 hR0 hl
  by_cases h34 : b = 34
  · subst h34
    exact pg_34 w f p r fr S0 g0 n0 cap0 0 84 hR0 hl
  by_cases h96 : b = 96
  · subst h96
    exact pg_96 w f p r fr S0 g0 n0 cap0 0 84 hR0 hl
  by_cases h36 : b = 36
  · subst h36
    exact pg_36 w f p r fr S0 g0 n0 cap0 0 84 hR0 hl
  by_cases h40 : b = 40
  · subst h40
    exact pg_40_0 w f p r fr S0 g0 n0 cap0 hR0 hl
  by_cases h41 : b = 41
  · subst h41
    exact pg_41_0 w f p r fr S0 g0 n0 cap0 hR0 hl
  have e : (b = 35 → fr = false) → plainF ((0, f) :: r) fr b p = ⟨(0, f) :: r, endsB b⟩ := fun h35 => by
    have hc : cls b ≠ 4 := by
      unfold cls
      repeat' split
      all_goals omega
    show fin (mv 0 b fr) _ _ = _
    rw [mv_other (by decide) fr hc h35 h40 h41]
    rfl
  by_cases h35 : b = 35
  · subst h35
    cases fr with
    | true => exact pg_35 w f p r S0 g0 n0 cap0 0 84 hR0 hl
    | false =>
      rw [e (fun _ => rfl)]
      exact pg_35f w f p r S0 g0 n0 cap0 0 84 hR0 hl
  · rw [e (fun h => absurd h h35)]
    exact pg_else w b f p r fr S0 g0 n0 cap0 0 84 hR0 hl (t_no h92) (t_no h39) (t_no h34) (t_no h96) (t_no h36) (t_no h35) (t_no h40) (t_no h41)
theorem pgm_1 (hR0 : Rv w ((1, f) :: r) S0 g0 n0 cap0) (hl : r.length ≤ 99000) :
    Calls Tryz.prog 126 #[.agg #[.string S0, .slice (some ⟨g0, 0, none⟩) n0 cap0, .bool fr], .int .u8 67, .int .u8 b, .int .i64 (p : Int)] w (RvTo w g0 (plainF ((1, f) :: r) fr b p).st (plainF ((1, f) :: r) fr b p).fresh) := by
  by_cases h92 : b = 92
  · subst h92
    exact pg_92 w f p r fr S0 g0 n0 cap0 1 67 hR0 hl
  by_cases h39 : b = 39
  · subst h39
    exact pg_39 w f p r fr S0 g0 n0 cap0 1 67 hR0 hl
  by_cases h34 : b = 34
  · subst h34
    exact pg_34 w f p r fr S0 g0 n0 cap0 1 67 hR0 hl
  by_cases h96 : b = 96
  · subst h96
    exact pg_96 w f p r fr S0 g0 n0 cap0 1 67 hR0 hl
  by_cases h36 : b = 36
  · subst h36
    exact pg_36 w f p r fr S0 g0 n0 cap0 1 67 hR0 hl
  by_cases h40 : b = 40
  · subst h40
    exact pg_40_1 w f p r fr S0 g0 n0 cap0 hR0 hl
  by_cases h41 : b = 41
  · subst h41
    exact pg_41_1 w f p r fr S0 g0 n0 cap0 hR0 hl
  have e : (b = 35 → fr = false) → plainF ((1, f) :: r) fr b p = ⟨(1, f) :: r, endsB b⟩ := fun h35 => by
    have hc : cls b ≠ 4 := by
      unfold cls
      repeat' split
      all_goals omega
    show fin (mv 1 b fr) _ _ = _
    rw [mv_other (by decide) fr hc h35 h40 h41]
    rfl
  by_cases h35 : b = 35
  · subst h35
    cases fr with
    | true => exact pg_35 w f p r S0 g0 n0 cap0 1 67 hR0 hl
    | false =>
      rw [e (fun _ => rfl)]
      exact pg_35f w f p r S0 g0 n0 cap0 1 67 hR0 hl
  · rw [e (fun h => absurd h h35)]
    exact pg_else w b f p r fr S0 g0 n0 cap0 1 67 hR0 hl (t_no h92) (t_no h39) (t_no h34) (t_no h96) (t_no h36) (t_no h35) (t_no h40) (t_no h41)
theorem pgm_2 (hR0 : Rv w ((2, f) :: r) S0 g0 n0 cap0) (hl : r.length ≤ 99000) :
    Calls Tryz.prog 126 #[.agg #[.string S0, .slice (some ⟨g0, 0, none⟩) n0 cap0, .bool fr], .int .u8 80, .int .u8 b, .int .i64 (p : Int)] w (RvTo w g0 (plainF ((2, f) :: r) fr b p).st (plainF ((2, f) :: r) fr b p).fresh) := by
  by_cases h92 : b = 92
  · subst h92
    exact pg_92 w f p r fr S0 g0 n0 cap0 2 80 hR0 hl
  by_cases h39 : b = 39
  · subst h39
    exact pg_39 w f p r fr S0 g0 n0 cap0 2 80 hR0 hl
  by_cases h34 : b = 34
  · subst h34
    exact pg_34 w f p r fr S0 g0 n0 cap0 2 80 hR0 hl
  by_cases h96 : b = 96
  · subst h96
    exact pg_96 w f p r fr S0 g0 n0 cap0 2 80 hR0 hl
  by_cases h36 : b = 36
  · subst h36
    exact pg_36 w f p r fr S0 g0 n0 cap0 2 80 hR0 hl
  by_cases h40 : b = 40
  · subst h40
    exact pg_40_2 w f p r fr S0 g0 n0 cap0 hR0 hl
  by_cases h41 : b = 41
  · subst h41
    exact pg_41_2 w f p r fr S0 g0 n0 cap0 hR0 hl
  have e : (b = 35 → fr = false) → plainF ((2, f) :: r) fr b p = ⟨(2, f) :: r, endsB b⟩ := fun h35 => by
    have hc : cls b ≠ 4 := by
      unfold cls
      repeat' split
      all_goals omega
    show fin (mv 2 b fr) _ _ = _
    rw [mv_other (by decide) fr hc h35 h40 h41]
    rfl
  by_cases h35 : b = 35
  · subst h35
    cases fr with
    | true => exact pg_35 w f p r S0 g0 n0 cap0 2 80 hR0 hl
    | false =>
      rw [e (fun _ => rfl)]
      exact pg_35f w f p r S0 g0 n0 cap0 2 80 hR0 hl
  · rw [e (fun h => absurd h h35)]
    exact pg_else w b f p r fr S0 g0 n0 cap0 2 80 hR0 hl (t_no h92) (t_no h39) (t_no h34) (t_no h96) (t_no h36) (t_no h35) (t_no h40) (t_no h41)
set_option maxHeartbeats 2000000 in
theorem pla_0 (hR0 : Rv w ((0, f) :: r) S0 g0 n0 cap0) (hl : r.length ≤ 99000) :
    Calls Tryz.prog 102 #[.agg #[.string S0, .slice (some ⟨g0, 0, none⟩) n0 cap0, .bool fr], .int .u8 84, .int .u8 b, .int .i64 (p : Int)] w (RvTo w g0 (plainF ((0, f) :: r) fr b p).st (plainF ((0, f) :: r) fr b p).fresh) := by
  have hlt := hR0.lt
  obtain ⟨X, hX⟩ : ∃ X, plainF ((0, f) :: r) fr b p = X := ⟨_, rfl⟩
  have hcall := fun W (h : Below w.heap.size w W) => pgm_0 W b f p r S0 g0 n0 cap0 fr (hR0.below h) hl
  rw [hX] at hcall ⊢
  obtain ⟨sX, fX⟩ := X
  clear hX
  go_enter Tryz.func102, Tryz.ntmps102
  go_wp2_with fail
  refine (hcall _ (below2 _ _ _)).mono ?_
  rintro e w1 ⟨S1, g1, n1, cap1, rfl, hR1, hb1, hg1⟩
  have hs1 := hb1.size
  rw [size2] at hs1 hg1
  have hZ1 := (blk2 w _ #[.string ⟨#[]⟩, .slice none 0 0, .bool false] 117).below hb1
  have za1 : w1.cell? ⟨w.heap.size + 1, 0, none⟩ = some (.string ⟨#[]⟩) := hZ1.cell 0
  have zb1 : w1.cell? ⟨w.heap.size + 1, 1, none⟩ = some (.slice none 0 0) := hZ1.cell 1
  have zc1 : w1.cell? ⟨w.heap.size + 1, 2, none⟩ = some (.bool false) := hZ1.cell 2
  have zd1 := hZ1.frozen 0
  have ze1 := hZ1.frozen 1
  have zf1 := hZ1.frozen 2
  go_wp2
  refine bodyPost_ret (v := .agg #[.string S1, .slice (some ⟨g1, 0, none⟩) n1 cap1, .bool fX]) (by simp [results, Tryz.results102, go_sem, *]) rfl ?_
  exact rv_done (g0 := g0) hR1 ((below2 w _ _).trans (hb1.mono (by first | omega | (rw [size2]; omega)))) (w.heap.size + 1) (by omega) (by omega) (by omega) _ _ _
set_option maxHeartbeats 2000000 in
theorem pla_1 (hR0 : Rv w ((1, f) :: r) S0 g0 n0 cap0) (hl : r.length ≤ 99000) :
    Calls Tryz.prog 102 #[.agg #[.string S0, .slice (some ⟨g0, 0, none⟩) n0 cap0, .bool fr], .int .u8 67, .int .u8 b, .int .i64 (p : Int)] w (RvTo w g0 (plainF ((1, f) :: r) fr b p).st (plainF ((1, f) :: r) fr b p).fresh) := by
  have hlt := hR0.lt
  obtain ⟨X, hX⟩ : ∃ X, plainF ((1, f) :: r) fr b p = X := ⟨_, rfl⟩
  have hcall := fun W (h : Below w.heap.size w W) => pgm_1 W b f p r S0 g0 n0 cap0 fr (hR0.below h) hl
  rw [hX] at hcall ⊢
  obtain ⟨sX, fX⟩ := X
  clear hX
  go_enter Tryz.func102, Tryz.ntmps102
  go_wp2_with fail
  refine (hcall _ (below2 _ _ _)).mono ?_
  rintro e w1 ⟨S1, g1, n1, cap1, rfl, hR1, hb1, hg1⟩
  have hs1 := hb1.size
  rw [size2] at hs1 hg1
  have hZ1 := (blk2 w _ #[.string ⟨#[]⟩, .slice none 0 0, .bool false] 117).below hb1
  have za1 : w1.cell? ⟨w.heap.size + 1, 0, none⟩ = some (.string ⟨#[]⟩) := hZ1.cell 0
  have zb1 : w1.cell? ⟨w.heap.size + 1, 1, none⟩ = some (.slice none 0 0) := hZ1.cell 1
  have zc1 : w1.cell? ⟨w.heap.size + 1, 2, none⟩ = some (.bool false) := hZ1.cell 2
  have zd1 := hZ1.frozen 0
  have ze1 := hZ1.frozen 1
  have zf1 := hZ1.frozen 2
  go_wp2
  refine bodyPost_ret (v := .agg #[.string S1, .slice (some ⟨g1, 0, none⟩) n1 cap1, .bool fX]) (by simp [results, Tryz.results102, go_sem, *]) rfl ?_
  exact rv_done (g0 := g0) hR1 ((below2 w _ _).trans (hb1.mono (by first | omega | (rw [size2]; omega)))) (w.heap.size + 1) (by omega) (by omega) (by omega) _ _ _
set_option maxHeartbeats 2000000 in
theorem pla_2 (hR0 : Rv w ((2, f) :: r) S0 g0 n0 cap0) (hl : r.length ≤ 99000) :
    Calls Tryz.prog 102 #[.agg #[.string S0, .slice (some ⟨g0, 0, none⟩) n0 cap0, .bool fr], .int .u8 80, .int .u8 b, .int .i64 (p : Int)] w (RvTo w g0 (plainF ((2, f) :: r) fr b p).st (plainF ((2, f) :: r) fr b p).fresh) := by
  have hlt := hR0.lt
  obtain ⟨X, hX⟩ : ∃ X, plainF ((2, f) :: r) fr b p = X := ⟨_, rfl⟩
  have hcall := fun W (h : Below w.heap.size w W) => pgm_2 W b f p r S0 g0 n0 cap0 fr (hR0.below h) hl
  rw [hX] at hcall ⊢
  obtain ⟨sX, fX⟩ := X
  clear hX
  go_enter Tryz.func102, Tryz.ntmps102
  go_wp2_with fail
  refine (hcall _ (below2 _ _ _)).mono ?_
  rintro e w1 ⟨S1, g1, n1, cap1, rfl, hR1, hb1, hg1⟩
  have hs1 := hb1.size
  rw [size2] at hs1 hg1
  have hZ1 := (blk2 w _ #[.string ⟨#[]⟩, .slice none 0 0, .bool false] 117).below hb1
  have za1 : w1.cell? ⟨w.heap.size + 1, 0, none⟩ = some (.string ⟨#[]⟩) := hZ1.cell 0
  have zb1 : w1.cell? ⟨w.heap.size + 1, 1, none⟩ = some (.slice none 0 0) := hZ1.cell 1
  have zc1 : w1.cell? ⟨w.heap.size + 1, 2, none⟩ = some (.bool false) := hZ1.cell 2
  have zd1 := hZ1.frozen 0
  have ze1 := hZ1.frozen 1
  have zf1 := hZ1.frozen 2
  go_wp2
  refine bodyPost_ret (v := .agg #[.string S1, .slice (some ⟨g1, 0, none⟩) n1 cap1, .bool fX]) (by simp [results, Tryz.results102, go_sem, *]) rfl ?_
  exact rv_done (g0 := g0) hR1 ((below2 w _ _).trans (hb1.mono (by first | omega | (rw [size2]; omega)))) (w.heap.size + 1) (by omega) (by omega) (by omega) _ _ _
set_option maxHeartbeats 2000000 in
theorem pl_13_10 (hR0 : Rv w ((13, f) :: r) S0 g0 n0 cap0) (hl : r.length ≤ 99000) :
    Calls Tryz.prog 102 #[.agg #[.string S0, .slice (some ⟨g0, 0, none⟩) n0 cap0, .bool fr], .int .u8 88, .int .u8 10, .int .i64 (p : Int)] w (RvTo w g0 r fr) := by
  have hlt := hR0.lt
  go_enter Tryz.func102, Tryz.ntmps102
  go_wp2_with fail
  refine (rv_pop _ r S0 g0 n0 cap0 fr 13 f (hR0.below (below2 _ _ _)) (by omega)).mono ?_
  rintro e w1 ⟨S1, g1, n1, cap1, rfl, hR1, hb1, hg1⟩
  have hs1 := hb1.size
  rw [size2] at hs1 hg1
  have hZ1 := (blk2 w _ #[.string ⟨#[]⟩, .slice none 0 0, .bool false] 117).below hb1
  have za1 : w1.cell? ⟨w.heap.size + 1, 0, none⟩ = some (.string ⟨#[]⟩) := hZ1.cell 0
  have zb1 : w1.cell? ⟨w.heap.size + 1, 1, none⟩ = some (.slice none 0 0) := hZ1.cell 1
  have zc1 : w1.cell? ⟨w.heap.size + 1, 2, none⟩ = some (.bool false) := hZ1.cell 2
  have zd1 := hZ1.frozen 0
  have ze1 := hZ1.frozen 1
  have zf1 := hZ1.frozen 2
  have hL1 := ((below2 w _ _).trans (hb1.mono (by first | omega | (rw [size2]; omega))))
  have hY1 := (blk1 w #[.string S0, .slice (some ⟨g0, 0, none⟩) n0 cap0, .bool fr] _ 117).below hb1
  have ya1 := hY1.cell 0
  have yb1 := hY1.cell 1
  have yc1 := hY1.cell 2
  have yd1 := hY1.frozen 0
  have ye1 := hY1.frozen 1
  have yf1 := hY1.frozen 2
  simp at ya1 yb1 yc1
  go_upto_region 5 with fail
  have hU1 := ((hY1.set 0 (.string S1)).set 1 (.slice (some ⟨g1, 0, none⟩) n1 cap1)).set 2 (.bool fr)
  have hV1 := ((hZ1.other 0 (.string S1) (by omega : w.heap.size + 1 ≠ w.heap.size)).other 1 (.slice (some ⟨g1, 0, none⟩) n1 cap1) (by omega : w.heap.size + 1 ≠ w.heap.size)).other 2 (.bool fr) (by omega : w.heap.size + 1 ≠ w.heap.size)
  have hQ1 := hR1.frm (((Frm.put (Frm.refl _ w1) 0 (.string S1)).put 1 (.slice (some ⟨g1, 0, none⟩) n1 cap1)).put 2 (.bool fr)) (show ¬ g1 = w.heap.size by omega)
  have hT1 := ((hL1.setCell (p := ⟨w.heap.size, 0, none⟩) (Nat.le_refl _) (.string S1)).setCell (p := ⟨w.heap.size, 1, none⟩) (Nat.le_refl _) (.slice (some ⟨g1, 0, none⟩) n1 cap1)).setCell (p := ⟨w.heap.size, 2, none⟩) (Nat.le_refl _) (.bool fr)
  have hN1 : (((w1.setCell ⟨w.heap.size, 0, none⟩ (.string S1)).setCell ⟨w.heap.size, 1, none⟩ (.slice (some ⟨g1, 0, none⟩) n1 cap1)).setCell ⟨w.heap.size, 2, none⟩ (.bool fr)).heap.size = w1.heap.size := by simp [World.setCell]
  generalize ((w1.setCell ⟨w.heap.size, 0, none⟩ (.string S1)).setCell ⟨w.heap.size, 1, none⟩ (.slice (some ⟨g1, 0, none⟩) n1 cap1)).setCell ⟨w.heap.size, 2, none⟩ (.bool fr) = v1 at hU1 hV1 hQ1 hT1 hN1 ⊢
  simp at hU1
  clear ya1 yb1 yc1 yd1 ye1 yf1 za1 zb1 zc1 zd1 ze1 zf1
  have ua1 : v1.cell? ⟨w.heap.size, 0, none⟩ = some (.string S1) := hU1.cell 0
  have ub1 : v1.cell? ⟨w.heap.size, 1, none⟩ = some (.slice (some ⟨g1, 0, none⟩) n1 cap1) := hU1.cell 1
  have uc1 : v1.cell? ⟨w.heap.size, 2, none⟩ = some (.bool fr) := hU1.cell 2
  have ud1 := hU1.frozen 0
  have ue1 := hU1.frozen 1
  have uf1 := hU1.frozen 2
  have va1 : v1.cell? ⟨w.heap.size + 1, 0, none⟩ = some (.string ⟨#[]⟩) := hV1.cell 0
  have vb1 : v1.cell? ⟨w.heap.size + 1, 1, none⟩ = some (.slice none 0 0) := hV1.cell 1
  have vc1 : v1.cell? ⟨w.heap.size + 1, 2, none⟩ = some (.bool false) := hV1.cell 2
  have vd1 := hV1.frozen 0
  have ve1 := hV1.frozen 1
  have vf1 := hV1.frozen 2
  go_wp2
  refine bodyPost_ret (v := .agg #[.string S1, .slice (some ⟨g1, 0, none⟩) n1 cap1, .bool fr]) (by simp [results, Tryz.results102, go_sem, *]) rfl ?_
  exact rv_done (g0 := g0) hQ1 hT1 (w.heap.size + 1) (by omega) (by omega) (by omega) _ _ _
set_option maxHeartbeats 2000000 in
theorem pl_13_x (hR0 : Rv w ((13, f) :: r) S0 g0 n0 cap0) (hl : r.length ≤ 99000) (t0 : ((b : Int) == 10) = false) :
    Calls Tryz.prog 102 #[.agg #[.string S0, .slice (some ⟨g0, 0, none⟩) n0 cap0, .bool fr], .int .u8 88, .int .u8 b, .int .i64 (p : Int)] w (RvTo w g0 r false) := by
  have hlt := hR0.lt
  go_enter Tryz.func102, Tryz.ntmps102
  go_wp2_with fail
  refine (rv_pop _ r S0 g0 n0 cap0 fr 13 f (hR0.below (below2 _ _ _)) (by omega)).mono ?_
  rintro e w1 ⟨S1, g1, n1, cap1, rfl, hR1, hb1, hg1⟩
  have hs1 := hb1.size
  rw [size2] at hs1 hg1
  have hZ1 := (blk2 w _ #[.string ⟨#[]⟩, .slice none 0 0, .bool false] 117).below hb1
  have za1 : w1.cell? ⟨w.heap.size + 1, 0, none⟩ = some (.string ⟨#[]⟩) := hZ1.cell 0
  have zb1 : w1.cell? ⟨w.heap.size + 1, 1, none⟩ = some (.slice none 0 0) := hZ1.cell 1
  have zc1 : w1.cell? ⟨w.heap.size + 1, 2, none⟩ = some (.bool false) := hZ1.cell 2
  have zd1 := hZ1.frozen 0
  have ze1 := hZ1.frozen 1
  have zf1 := hZ1.frozen 2
  have hL1 := ((below2 w _ _).trans (hb1.mono (by first | omega | (rw [size2]; omega))))
  have hY1 := (blk1 w #[.string S0, .slice (some ⟨g0, 0, none⟩) n0 cap0, .bool fr] _ 117).below hb1
  have ya1 := hY1.cell 0
  have yb1 := hY1.cell 1
  have yc1 := hY1.cell 2
  have yd1 := hY1.frozen 0
  have ye1 := hY1.frozen 1
  have yf1 := hY1.frozen 2
  simp at ya1 yb1 yc1
  go_upto_region 5 with fail
  have hU1 := ((hY1.set 0 (.string S1)).set 1 (.slice (some ⟨g1, 0, none⟩) n1 cap1)).set 2 (.bool fr)
  have hV1 := ((hZ1.other 0 (.string S1) (by omega : w.heap.size + 1 ≠ w.heap.size)).other 1 (.slice (some ⟨g1, 0, none⟩) n1 cap1) (by omega : w.heap.size + 1 ≠ w.heap.size)).other 2 (.bool fr) (by omega : w.heap.size + 1 ≠ w.heap.size)
  have hQ1 := hR1.frm (((Frm.put (Frm.refl _ w1) 0 (.string S1)).put 1 (.slice (some ⟨g1, 0, none⟩) n1 cap1)).put 2 (.bool fr)) (show ¬ g1 = w.heap.size by omega)
  have hT1 := ((hL1.setCell (p := ⟨w.heap.size, 0, none⟩) (Nat.le_refl _) (.string S1)).setCell (p := ⟨w.heap.size, 1, none⟩) (Nat.le_refl _) (.slice (some ⟨g1, 0, none⟩) n1 cap1)).setCell (p := ⟨w.heap.size, 2, none⟩) (Nat.le_refl _) (.bool fr)
  have hN1 : (((w1.setCell ⟨w.heap.size, 0, none⟩ (.string S1)).setCell ⟨w.heap.size, 1, none⟩ (.slice (some ⟨g1, 0, none⟩) n1 cap1)).setCell ⟨w.heap.size, 2, none⟩ (.bool fr)).heap.size = w1.heap.size := by simp [World.setCell]
  generalize ((w1.setCell ⟨w.heap.size, 0, none⟩ (.string S1)).setCell ⟨w.heap.size, 1, none⟩ (.slice (some ⟨g1, 0, none⟩) n1 cap1)).setCell ⟨w.heap.size, 2, none⟩ (.bool fr) = v1 at hU1 hV1 hQ1 hT1 hN1 ⊢
  simp at hU1
  clear ya1 yb1 yc1 yd1 ye1 yf1 za1 zb1 zc1 zd1 ze1 zf1
  have ua1 : v1.cell? ⟨w.heap.size, 0, none⟩ = some (.string S1) := hU1.cell 0
  have ub1 : v1.cell? ⟨w.heap.size, 1, none⟩ = some (.slice (some ⟨g1, 0, none⟩) n1 cap1) := hU1.cell 1
  have uc1 : v1.cell? ⟨w.heap.size, 2, none⟩ = some (.bool fr) := hU1.cell 2
  have ud1 := hU1.frozen 0
  have ue1 := hU1.frozen 1
  have uf1 := hU1.frozen 2
  have va1 : v1.cell? ⟨w.heap.size + 1, 0, none⟩ = some (.string ⟨#[]⟩) := hV1.cell 0
  have vb1 : v1.cell? ⟨w.heap.size + 1, 1, none⟩ = some (.slice none 0 0) := hV1.cell 1
  have vc1 : v1.cell? ⟨w.heap.size + 1, 2, none⟩ = some (.bool false) := hV1.cell 2
  have vd1 := hV1.frozen 0
  have ve1 := hV1.frozen 1
  have vf1 := hV1.frozen 2
  go_wp2_with fail
  refine (rv_mark _ r S1 g1 n1 cap1 fr false hQ1).mono ?_
  rintro e w2 ⟨S2, g2, n2, cap2, rfl, hR2, hb2, hg2⟩
  have hs2 := hb2.size
  have hZ2 := (hV1).below hb2
  have za2 : w2.cell? ⟨w.heap.size + 1, 0, none⟩ = some (.string ⟨#[]⟩) := hZ2.cell 0
  have zb2 : w2.cell? ⟨w.heap.size + 1, 1, none⟩ = some (.slice none 0 0) := hZ2.cell 1
  have zc2 : w2.cell? ⟨w.heap.size + 1, 2, none⟩ = some (.bool false) := hZ2.cell 2
  have zd2 := hZ2.frozen 0
  have ze2 := hZ2.frozen 1
  have zf2 := hZ2.frozen 2
  rw [hN1] at hs2 hg2
  have hL2 := hT1.trans (hb2.mono (by omega))
  have hY2 := (hU1).below hb2
  have ya2 := hY2.cell 0
  have yb2 := hY2.cell 1
  have yc2 := hY2.cell 2
  have yd2 := hY2.frozen 0
  have ye2 := hY2.frozen 1
  have yf2 := hY2.frozen 2
  simp at ya2 yb2 yc2
  go_upto_region 7 with fail
  have hU2 := ((hY2.set 0 (.string S2)).set 1 (.slice (some ⟨g2, 0, none⟩) n2 cap2)).set 2 (.bool false)
  have hV2 := ((hZ2.other 0 (.string S2) (by omega : w.heap.size + 1 ≠ w.heap.size)).other 1 (.slice (some ⟨g2, 0, none⟩) n2 cap2) (by omega : w.heap.size + 1 ≠ w.heap.size)).other 2 (.bool false) (by omega : w.heap.size + 1 ≠ w.heap.size)
  have hQ2 := hR2.frm (((Frm.put (Frm.refl _ w2) 0 (.string S2)).put 1 (.slice (some ⟨g2, 0, none⟩) n2 cap2)).put 2 (.bool false)) (show ¬ g2 = w.heap.size by omega)
  have hT2 := ((hL2.setCell (p := ⟨w.heap.size, 0, none⟩) (Nat.le_refl _) (.string S2)).setCell (p := ⟨w.heap.size, 1, none⟩) (Nat.le_refl _) (.slice (some ⟨g2, 0, none⟩) n2 cap2)).setCell (p := ⟨w.heap.size, 2, none⟩) (Nat.le_refl _) (.bool false)
  have hN2 : (((w2.setCell ⟨w.heap.size, 0, none⟩ (.string S2)).setCell ⟨w.heap.size, 1, none⟩ (.slice (some ⟨g2, 0, none⟩) n2 cap2)).setCell ⟨w.heap.size, 2, none⟩ (.bool false)).heap.size = w2.heap.size := by simp [World.setCell]
  generalize ((w2.setCell ⟨w.heap.size, 0, none⟩ (.string S2)).setCell ⟨w.heap.size, 1, none⟩ (.slice (some ⟨g2, 0, none⟩) n2 cap2)).setCell ⟨w.heap.size, 2, none⟩ (.bool false) = v2 at hU2 hV2 hQ2 hT2 hN2 ⊢
  simp at hU2
  clear ya2 yb2 yc2 yd2 ye2 yf2 za2 zb2 zc2 zd2 ze2 zf2
  have ua2 : v2.cell? ⟨w.heap.size, 0, none⟩ = some (.string S2) := hU2.cell 0
  have ub2 : v2.cell? ⟨w.heap.size, 1, none⟩ = some (.slice (some ⟨g2, 0, none⟩) n2 cap2) := hU2.cell 1
  have uc2 : v2.cell? ⟨w.heap.size, 2, none⟩ = some (.bool false) := hU2.cell 2
  have ud2 := hU2.frozen 0
  have ue2 := hU2.frozen 1
  have uf2 := hU2.frozen 2
  have va2 : v2.cell? ⟨w.heap.size + 1, 0, none⟩ = some (.string ⟨#[]⟩) := hV2.cell 0
  have vb2 : v2.cell? ⟨w.heap.size + 1, 1, none⟩ = some (.slice none 0 0) := hV2.cell 1
  have vc2 : v2.cell? ⟨w.heap.size + 1, 2, none⟩ = some (.bool false) := hV2.cell 2
  have vd2 := hV2.frozen 0
  have ve2 := hV2.frozen 1
  have vf2 := hV2.frozen 2
  go_wp2
  refine bodyPost_ret (v := .agg #[.string S2, .slice (some ⟨g2, 0, none⟩) n2 cap2, .bool false]) (by simp [results, Tryz.results102, go_sem, *]) rfl ?_
  exact rv_done (g0 := g0) hQ2 hT2 (w.heap.size + 1) (by omega) (by omega) (by omega) _ _ _
theorem pla_4 (hR0 : Rv w ((4, f) :: r) S0 g0 n0 cap0) (hl : r.length ≤ 99000) :
    Calls Tryz.prog 102 #[.agg #[.string S0, .slice (some ⟨g0, 0, none⟩) n0 cap0, .bool fr], .int .u8 83, .int .u8 b, .int .i64 (p : Int)] w (RvTo w g0 (plainF ((4, f) :: r) fr b p).st (plainF ((4, f) :: r) fr b p).fresh) := by
  by_cases h39 : b = 39
  · subst h39
    exact pl_4_39 w f p r fr S0 g0 n0 cap0 hR0 hl
  have e : plainF ((4, f) :: r) fr b p = ⟨(4, f) :: r, fr⟩ := by
    have hm : mv 4 b fr = (.keep, fr) := by unfold mv; simp [isProg, *]
    show fin (mv 4 b fr) _ _ = _
    rw [hm]
    rfl
  rw [e]
  exact pl_4_x w b f p r fr S0 g0 n0 cap0 hR0 hl (t_no h39)
theorem pla_14 (hR0 : Rv w ((14, f) :: r) S0 g0 n0 cap0) (hl : r.length ≤ 99000) :
    Calls Tryz.prog 102 #[.agg #[.string S0, .slice (some ⟨g0, 0, none⟩) n0 cap0, .bool fr], .int .u8 35, .int .u8 b, .int .i64 (p : Int)] w (RvTo w g0 (plainF ((14, f) :: r) fr b p).st (plainF ((14, f) :: r) fr b p).fresh) := by
  by_cases h10 : b = 10
  · subst h10
    exact pl_14_10 w f p r fr S0 g0 n0 cap0 hR0 hl
  have e : plainF ((14, f) :: r) fr b p = ⟨(14, f) :: r, fr⟩ := by
    have hm : mv 14 b fr = (.keep, fr) := by unfold mv; simp [isProg, *]
    show fin (mv 14 b fr) _ _ = _
    rw [hm]
    rfl
  rw [e]
  exact pl_14_x w b f p r fr S0 g0 n0 cap0 hR0 hl (t_no h10)
theorem pla_6 (hR0 : Rv w ((6, f) :: r) S0 g0 n0 cap0) (hl : r.length ≤ 99000) :
    Calls Tryz.prog 102 #[.agg #[.string S0, .slice (some ⟨g0, 0, none⟩) n0 cap0, .bool fr], .int .u8 66, .int .u8 b, .int .i64 (p : Int)] w (RvTo w g0 (plainF ((6, f) :: r) fr b p).st (plainF ((6, f) :: r) fr b p).fresh) := by
  by_cases h96 : b = 96
  · subst h96
    exact pl_6_96 w f p r fr S0 g0 n0 cap0 hR0 hl
  by_cases h92 : b = 92
  · subst h92
    exact pl_6_92 w f p r fr S0 g0 n0 cap0 hR0 hl
  have e : plainF ((6, f) :: r) fr b p = ⟨(6, f) :: r, fr⟩ := by
    have hm : mv 6 b fr = (.keep, fr) := by unfold mv; simp [isProg, *]
    show fin (mv 6 b fr) _ _ = _
    rw [hm]
    rfl
  rw [e]
  exact pl_6_x w b f p r fr S0 g0 n0 cap0 hR0 hl (t_no h96) (t_no h92)
theorem pla_13 (hR0 : Rv w ((13, f) :: r) S0 g0 n0 cap0) (hl : r.length ≤ 99000) :
    Calls Tryz.prog 102 #[.agg #[.string S0, .slice (some ⟨g0, 0, none⟩) n0 cap0, .bool fr], .int .u8 88, .int .u8 b, .int .i64 (p : Int)] w (RvTo w g0 (plainF ((13, f) :: r) fr b p).st (plainF ((13, f) :: r) fr b p).fresh) := by
  by_cases h10 : b = 10
  · subst h10
    exact pl_13_10 w f p r S0 g0 n0 cap0 fr hR0 hl
  have e : plainF ((13, f) :: r) fr b p = ⟨r, false⟩ := by
    have hm : mv 13 b fr = (.pop, false) := by unfold mv; simp [isProg, *]
    show fin (mv 13 b fr) _ _ = _
    rw [hm]
    rfl
  rw [e]
  exact pl_13_x w b f p r S0 g0 n0 cap0 fr hR0 hl (t_no h10)
theorem pla_5 (hR0 : Rv w ((5, f) :: r) S0 g0 n0 cap0) (hl : r.length ≤ 99000) :
    Calls Tryz.prog 102 #[.agg #[.string S0, .slice (some ⟨g0, 0, none⟩) n0 cap0, .bool fr], .int .u8 68, .int .u8 b, .int .i64 (p : Int)] w (RvTo w g0 (plainF ((5, f) :: r) fr b p).st (plainF ((5, f) :: r) fr b p).fresh) := by
  by_cases h92 : b = 92
  · subst h92
    exact pl_5_92 w f p r fr S0 g0 n0 cap0 hR0 hl
  by_cases h36 : b = 36
  · subst h36
    exact pl_5_36 w f p r fr S0 g0 n0 cap0 hR0 hl
  by_cases h96 : b = 96
  · subst h96
    exact pl_5_96 w f p r fr S0 g0 n0 cap0 hR0 hl
  by_cases h34 : b = 34
  · subst h34
    exact pl_5_34 w f p r fr S0 g0 n0 cap0 hR0 hl
  have e : plainF ((5, f) :: r) fr b p = ⟨(5, f) :: r, fr⟩ := by
    have ho : opn b = 15 := by unfold opn; simp [h92, h36, h96]
    have hm : mv 5 b fr = (.keep, fr) := by unfold mv; simp [isProg, *]
    show fin (mv 5 b fr) _ _ = _
    rw [hm]
    rfl
  rw [e]
  exact pl_5_x w b f p r fr S0 g0 n0 cap0 hR0 hl (t_no h92) (t_no h36) (t_no h96) (t_no h34)
theorem pla_7 (hR0 : Rv w ((7, f) :: r) S0 g0 n0 cap0) (hl : r.length ≤ 99000) :
    Calls Tryz.prog 102 #[.agg #[.string S0, .slice (some ⟨g0, 0, none⟩) n0 cap0, .bool fr], .int .u8 86, .int .u8 b, .int .i64 (p : Int)] w (RvTo w g0 (plainF ((7, f) :: r) fr b p).st (plainF ((7, f) :: r) fr b p).fresh) := by
  by_cases h92 : b = 92
  · subst h92
    exact pl_7_92 w f p r fr S0 g0 n0 cap0 hR0 hl
  by_cases h36 : b = 36
  · subst h36
    exact pl_7_36 w f p r fr S0 g0 n0 cap0 hR0 hl
  by_cases h96 : b = 96
  · subst h96
    exact pl_7_96 w f p r fr S0 g0 n0 cap0 hR0 hl
  by_cases h34 : b = 34
  · subst h34
    exact pl_7_34 w f p r fr S0 g0 n0 cap0 hR0 hl
  by_cases h125 : b = 125
  · subst h125
    exact pl_7_125 w f p r fr S0 g0 n0 cap0 hR0 hl
  by_cases h39 : b = 39
  · subst h39
    exact pl_7_39 w f p r fr S0 g0 n0 cap0 hR0 hl
  have e : plainF ((7, f) :: r) fr b p = ⟨(7, f) :: r, fr⟩ := by
    have ho : opn b = 15 := by unfold opn; simp [h92, h36, h96]
    have hm : mv 7 b fr = (.keep, fr) := by unfold mv; simp [isProg, *]
    show fin (mv 7 b fr) _ _ = _
    rw [hm]
    rfl
  rw [e]
  exact pl_7_x w b f p r fr S0 g0 n0 cap0 hR0 hl (t_no h92) (t_no h36) (t_no h96) (t_no h34) (t_no h125) (t_no h39)
theorem pla_8 (hR0 : Rv w ((8, f) :: r) S0 g0 n0 cap0) (hl : r.length ≤ 99000) :
    Calls Tryz.prog 102 #[.agg #[.string S0, .slice (some ⟨g0, 0, none⟩) n0 cap0, .bool fr], .int .u8 73, .int .u8 b, .int .i64 (p : Int)] w (RvTo w g0 (plainF ((8, f) :: r) fr b p).st (plainF ((8, f) :: r) fr b p).fresh) := by
  by_cases h92 : b = 92
  · subst h92
    exact pl_8_92 w f p r fr S0 g0 n0 cap0 hR0 hl
  by_cases h36 : b = 36
  · subst h36
    exact pl_8_36 w f p r fr S0 g0 n0 cap0 hR0 hl
  by_cases h96 : b = 96
  · subst h96
    exact pl_8_96 w f p r fr S0 g0 n0 cap0 hR0 hl
  by_cases h34 : b = 34
  · subst h34
    exact pl_8_34 w f p r fr S0 g0 n0 cap0 hR0 hl
  by_cases h125 : b = 125
  · subst h125
    exact pl_8_125 w f p r fr S0 g0 n0 cap0 hR0 hl
  by_cases h39 : b = 39
  · subst h39
    exact pl_8_39 w f p r fr S0 g0 n0 cap0 hR0 hl
  have e : plainF ((8, f) :: r) fr b p = ⟨(8, f) :: r, fr⟩ := by
    have ho : opn b = 15 := by unfold opn; simp [h92, h36, h96]
    have hm : mv 8 b fr = (.keep, fr) := by unfold mv; simp [isProg, *]
    show fin (mv 8 b fr) _ _ = _
    rw [hm]
    rfl
  rw [e]
  exact pl_8_x w b f p r fr S0 g0 n0 cap0 hR0 hl (t_no h92) (t_no h36) (t_no h96) (t_no h34) (t_no h125) (t_no h39)
theorem pla_9 (hR0 : Rv w ((9, f) :: r) S0 g0 n0 cap0) (hl : r.length ≤ 99000) :
    Calls Tryz.prog 102 #[.agg #[.string S0, .slice (some ⟨g0, 0, none⟩) n0 cap0, .bool fr], .int .u8 65, .int .u8 b, .int .i64 (p : Int)] w (RvTo w g0 (plainF ((9, f) :: r) fr b p).st (plainF ((9, f) :: r) fr b p).fresh) := by
  by_cases h92 : b = 92
  · subst h92
    exact pl_9_92 w f p r fr S0 g0 n0 cap0 hR0 hl
  by_cases h36 : b = 36
  · subst h36
    exact pl_9_36 w f p r fr S0 g0 n0 cap0 hR0 hl
  by_cases h96 : b = 96
  · subst h96
    exact pl_9_96 w f p r fr S0 g0 n0 cap0 hR0 hl
  by_cases h40 : b = 40
  · subst h40
    exact pl_9_40 w f p r fr S0 g0 n0 cap0 hR0 hl
  by_cases h41 : b = 41
  · subst h41
    exact pl_9_41 w f p r fr S0 g0 n0 cap0 hR0 hl
  have e : plainF ((9, f) :: r) fr b p = ⟨(9, f) :: r, fr⟩ := by
    have ho : opn b = 15 := by unfold opn; simp [h92, h36, h96]
    have hm : mv 9 b fr = (.keep, fr) := by unfold mv; simp [isProg, *]
    show fin (mv 9 b fr) _ _ = _
    rw [hm]
    rfl
  rw [e]
  exact pl_9_x w b f p r fr S0 g0 n0 cap0 hR0 hl (t_no h92) (t_no h36) (t_no h96) (t_no h40) (t_no h41)
theorem pla_10 (hR0 : Rv w ((10, f) :: r) S0 g0 n0 cap0) (hl : r.length ≤ 99000) :
    Calls Tryz.prog 102 #[.agg #[.string S0, .slice (some ⟨g0, 0, none⟩) n0 cap0, .bool fr], .int .u8 82, .int .u8 b, .int .i64 (p : Int)] w (RvTo w g0 (plainF ((10, f) :: r) fr b p).st (plainF ((10, f) :: r) fr b p).fresh) := by
  by_cases h92 : b = 92
  · subst h92
    exact pl_10_92 w f p r fr S0 g0 n0 cap0 hR0 hl
  by_cases h36 : b = 36
  · subst h36
    exact pl_10_36 w f p r fr S0 g0 n0 cap0 hR0 hl
  by_cases h96 : b = 96
  · subst h96
    exact pl_10_96 w f p r fr S0 g0 n0 cap0 hR0 hl
  by_cases h40 : b = 40
  · subst h40
    exact pl_10_40 w f p r fr S0 g0 n0 cap0 hR0 hl
  by_cases h41 : b = 41
  · subst h41
    exact pl_10_41 w f p r fr S0 g0 n0 cap0 hR0 hl
  have e : plainF ((10, f) :: r) fr b p = ⟨(10, f) :: r, fr⟩ := by
    have ho : opn b = 15 := by unfold opn; simp [h92, h36, h96]
    have hm : mv 10 b fr = (.keep, fr) := by unfold mv; simp [isProg, *]
    show fin (mv 10 b fr) _ _ = _
    rw [hm]
    rfl
  rw [e]
  exact pl_10_x w b f p r fr S0 g0 n0 cap0 hR0 hl (t_no h92) (t_no h36) (t_no h96) (t_no h40) (t_no h41)
theorem pla_any (m : Nat) (hm : m ≤ 14 ∧ m ≠ 3 ∧ m ≠ 11 ∧ m ≠ 12) (hR0 : Rv w ((m, f) :: r) S0 g0 n0 cap0) (hl : r.length ≤ 99000) :
    Calls Tryz.prog 102 #[.agg #[.string S0, .slice (some ⟨g0, 0, none⟩) n0 cap0, .bool fr], .int .u8 ((ltB m).toNat : Nat), .int .u8 b, .int .i64 (p : Int)] w (RvTo w g0 (plainF ((m, f) :: r) fr b p).st (plainF ((m, f) :: r) fr b p).fresh) := by
  by_cases e0 : m = 0
  · subst e0
    have e : (((ltB 0).toNat : Nat) : Int) = 84 := by decide
    rw [e]
    exact pla_0 w b f p r S0 g0 n0 cap0 fr hR0 hl
  by_cases e1 : m = 1
  · subst e1
    have e : (((ltB 1).toNat : Nat) : Int) = 67 := by decide
    rw [e]
    exact pla_1 w b f p r S0 g0 n0 cap0 fr hR0 hl
  by_cases e2 : m = 2
  · subst e2
    have e : (((ltB 2).toNat : Nat) : Int) = 80 := by decide
    rw [e]
    exact pla_2 w b f p r S0 g0 n0 cap0 fr hR0 hl
  by_cases e4 : m = 4
  · subst e4
    have e : (((ltB 4).toNat : Nat) : Int) = 83 := by decide
    rw [e]
    exact pla_4 w b f p r S0 g0 n0 cap0 fr hR0 hl
  by_cases e5 : m = 5
  · subst e5
    have e : (((ltB 5).toNat : Nat) : Int) = 68 := by decide
    rw [e]
    exact pla_5 w b f p r S0 g0 n0 cap0 fr hR0 hl
  by_cases e6 : m = 6
  · subst e6
    have e : (((ltB 6).toNat : Nat) : Int) = 66 := by decide
    rw [e]
    exact pla_6 w b f p r S0 g0 n0 cap0 fr hR0 hl
  by_cases e7 : m = 7
  · subst e7
    have e : (((ltB 7).toNat : Nat) : Int) = 86 := by decide
    rw [e]
    exact pla_7 w b f p r S0 g0 n0 cap0 fr hR0 hl
  by_cases e8 : m = 8
  · subst e8
    have e : (((ltB 8).toNat : Nat) : Int) = 73 := by decide
    rw [e]
    exact pla_8 w b f p r S0 g0 n0 cap0 fr hR0 hl
  by_cases e9 : m = 9
  · subst e9
    have e : (((ltB 9).toNat : Nat) : Int) = 65 := by decide
    rw [e]
    exact pla_9 w b f p r S0 g0 n0 cap0 fr hR0 hl
  by_cases e10 : m = 10
  · subst e10
    have e : (((ltB 10).toNat : Nat) : Int) = 82 := by decide
    rw [e]
    exact pla_10 w b f p r S0 g0 n0 cap0 fr hR0 hl
  by_cases e13 : m = 13
  · subst e13
    have e : (((ltB 13).toNat : Nat) : Int) = 88 := by decide
    rw [e]
    exact pla_13 w b f p r S0 g0 n0 cap0 fr hR0 hl
  by_cases e14 : m = 14
  · subst e14
    have e : (((ltB 14).toNat : Nat) : Int) = 35 := by decide
    rw [e]
    exact pla_14 w b f p r S0 g0 n0 cap0 fr hR0 hl
  omega
end
end Go.Proofs.YtgfkbfojeohlkaaGreatDoor

/- What the document's own machine makes of a byte in Top, Command and Paren. Condition: stacks of at most 99,000 frames; a byte. -/
import Derived.Test.YtgfkbfojeohlkaaGreatDoorQd
import Derived.Deep.RegionWith
namespace Go.Proofs.YtgfkbfojeohlkaaGreatDoor
open Go.RowKit
set_option linter.unusedVariables false

section
variable (w : World) (b f p : Nat) (r : List Fr) (S : ByteArray) (g n cap : Nat) (fr : Bool)
set_option maxHeartbeats 2000000 in
theorem pg_92 (S0 : ByteArray) (g0 n0 cap0 : Nat) (m : Nat) (c : Int) (hR0 : Rv w ((m, f) :: r) S0 g0 n0 cap0) (hl : r.length ≤ 99000) :
    Calls Tryz.prog 126 #[.agg #[.string S0, .slice (some ⟨g0, 0, none⟩) n0 cap0, .bool fr], .int .u8 c, .int .u8 92, .int .i64 (p : Int)] w (RvTo w g0 ((13, p) :: ((m, f) :: r)) fr) := by
  have hlt := hR0.lt
  have hx0 := hR0.n
  clear hx0
  go_enter Tryz.func126, Tryz.ntmps126
  go_wp2_with fail
  refine (rv_push _ ((m, f) :: r) S0 g0 n0 cap0 fr 13 p _ rfl (hR0.below (below2 _ _ _)) (by simp; omega) (by simp)).mono ?_
  rintro e w1 ⟨S1, g1, n1, cap1, rfl, hR1, hb1, hg1⟩; have hs1 := hb1.size; rw [size2] at hs1 hg1; have hZ1 := (blk2 w _ #[.string ⟨#[]⟩, .slice none 0 0, .bool false] 117).below hb1; have za1 : w1.cell? ⟨w.heap.size + 1, 0, none⟩ = some (.string ⟨#[]⟩) := hZ1.cell 0; have zb1 : w1.cell? ⟨w.heap.size + 1, 1, none⟩ = some (.slice none 0 0) := hZ1.cell 1; have zc1 : w1.cell? ⟨w.heap.size + 1, 2, none⟩ = some (.bool false) := hZ1.cell 2; have zd1 := hZ1.frozen 0; have ze1 := hZ1.frozen 1; have zf1 := hZ1.frozen 2
  go_wp2
  refine bodyPost_ret (v := .agg #[.string S1, .slice (some ⟨g1, 0, none⟩) n1 cap1, .bool fr]) (by simp [results, Tryz.results126, go_sem, *]) rfl ?_
  exact rv_done (g0 := g0) hR1 ((below2 w _ _).trans (hb1.mono (by first | omega | (rw [size2]; omega) | (show w.heap.size ≤ ((w.alloc _).alloc _).heap.size; rw [size2]; omega)))) (w.heap.size + 1) (by omega) (by omega) (by omega) _ _ _
set_option maxHeartbeats 2000000 in
theorem pg_39 (S0 : ByteArray) (g0 n0 cap0 : Nat) (m : Nat) (c : Int) (hR0 : Rv w ((m, f) :: r) S0 g0 n0 cap0) (hl : r.length ≤ 99000) :
    Calls Tryz.prog 126 #[.agg #[.string S0, .slice (some ⟨g0, 0, none⟩) n0 cap0, .bool fr], .int .u8 c, .int .u8 39, .int .i64 (p : Int)] w (RvTo w g0 ((4, p) :: ((m, f) :: r)) false) := by
  have hlt := hR0.lt
  have hx0 := hR0.n
  clear hx0
  go_enter Tryz.func126, Tryz.ntmps126
  go_wp2_with fail
  refine (rv_push _ ((m, f) :: r) S0 g0 n0 cap0 fr 4 p _ rfl (hR0.below (below2 _ _ _)) (by simp; omega) (by simp)).mono ?_
  rintro e w1 ⟨S1, g1, n1, cap1, rfl, hR1, hb1, hg1⟩; have hs1 := hb1.size; rw [size2] at hs1 hg1; have hZ1 := (blk2 w _ #[.string ⟨#[]⟩, .slice none 0 0, .bool false] 117).below hb1; have za1 : w1.cell? ⟨w.heap.size + 1, 0, none⟩ = some (.string ⟨#[]⟩) := hZ1.cell 0; have zb1 : w1.cell? ⟨w.heap.size + 1, 1, none⟩ = some (.slice none 0 0) := hZ1.cell 1; have zc1 : w1.cell? ⟨w.heap.size + 1, 2, none⟩ = some (.bool false) := hZ1.cell 2; have zd1 := hZ1.frozen 0; have ze1 := hZ1.frozen 1; have zf1 := hZ1.frozen 2
  go_wp2_with fail
  refine (rv_mark _ ((4, p) :: ((m, f) :: r)) S1 g1 n1 cap1 fr false hR1).mono ?_
  rintro e w2 ⟨S2, g2, n2, cap2, rfl, hR2, hb2, hg2⟩; have hs2 := hb2.size; have hZ2 := (hZ1).below hb2; have za2 : w2.cell? ⟨w.heap.size + 1, 0, none⟩ = some (.string ⟨#[]⟩) := hZ2.cell 0; have zb2 : w2.cell? ⟨w.heap.size + 1, 1, none⟩ = some (.slice none 0 0) := hZ2.cell 1; have zc2 : w2.cell? ⟨w.heap.size + 1, 2, none⟩ = some (.bool false) := hZ2.cell 2; have zd2 := hZ2.frozen 0; have ze2 := hZ2.frozen 1; have zf2 := hZ2.frozen 2
  go_wp2
  refine bodyPost_ret (v := .agg #[.string S2, .slice (some ⟨g2, 0, none⟩) n2 cap2, .bool false]) (by simp [results, Tryz.results126, go_sem, *]) rfl ?_
  exact rv_done (g0 := g0) hR2 (((below2 w _ _).trans (hb1.mono (by first | omega | (rw [size2]; omega) | (show w.heap.size ≤ ((w.alloc _).alloc _).heap.size; rw [size2]; omega)))).trans (hb2.mono (by omega))) (w.heap.size + 1) (by omega) (by omega) (by omega) _ _ _
set_option maxHeartbeats 2000000 in
theorem pg_34 (S0 : ByteArray) (g0 n0 cap0 : Nat) (m : Nat) (c : Int) (hR0 : Rv w ((m, f) :: r) S0 g0 n0 cap0) (hl : r.length ≤ 99000) :
    Calls Tryz.prog 126 #[.agg #[.string S0, .slice (some ⟨g0, 0, none⟩) n0 cap0, .bool fr], .int .u8 c, .int .u8 34, .int .i64 (p : Int)] w (RvTo w g0 ((5, p) :: ((m, f) :: r)) false) := by
  have hlt := hR0.lt
  have hx0 := hR0.n
  clear hx0
  go_enter Tryz.func126, Tryz.ntmps126
  go_wp2_with fail
  refine (rv_push _ ((m, f) :: r) S0 g0 n0 cap0 fr 5 p _ rfl (hR0.below (below2 _ _ _)) (by simp; omega) (by simp)).mono ?_
  rintro e w1 ⟨S1, g1, n1, cap1, rfl, hR1, hb1, hg1⟩; have hs1 := hb1.size; rw [size2] at hs1 hg1; have hZ1 := (blk2 w _ #[.string ⟨#[]⟩, .slice none 0 0, .bool false] 117).below hb1; have za1 : w1.cell? ⟨w.heap.size + 1, 0, none⟩ = some (.string ⟨#[]⟩) := hZ1.cell 0; have zb1 : w1.cell? ⟨w.heap.size + 1, 1, none⟩ = some (.slice none 0 0) := hZ1.cell 1; have zc1 : w1.cell? ⟨w.heap.size + 1, 2, none⟩ = some (.bool false) := hZ1.cell 2; have zd1 := hZ1.frozen 0; have ze1 := hZ1.frozen 1; have zf1 := hZ1.frozen 2
  go_wp2_with fail
  refine (rv_mark _ ((5, p) :: ((m, f) :: r)) S1 g1 n1 cap1 fr false hR1).mono ?_
  rintro e w2 ⟨S2, g2, n2, cap2, rfl, hR2, hb2, hg2⟩; have hs2 := hb2.size; have hZ2 := (hZ1).below hb2; have za2 : w2.cell? ⟨w.heap.size + 1, 0, none⟩ = some (.string ⟨#[]⟩) := hZ2.cell 0; have zb2 : w2.cell? ⟨w.heap.size + 1, 1, none⟩ = some (.slice none 0 0) := hZ2.cell 1; have zc2 : w2.cell? ⟨w.heap.size + 1, 2, none⟩ = some (.bool false) := hZ2.cell 2; have zd2 := hZ2.frozen 0; have ze2 := hZ2.frozen 1; have zf2 := hZ2.frozen 2
  go_wp2
  refine bodyPost_ret (v := .agg #[.string S2, .slice (some ⟨g2, 0, none⟩) n2 cap2, .bool false]) (by simp [results, Tryz.results126, go_sem, *]) rfl ?_
  exact rv_done (g0 := g0) hR2 (((below2 w _ _).trans (hb1.mono (by first | omega | (rw [size2]; omega) | (show w.heap.size ≤ ((w.alloc _).alloc _).heap.size; rw [size2]; omega)))).trans (hb2.mono (by omega))) (w.heap.size + 1) (by omega) (by omega) (by omega) _ _ _
set_option maxHeartbeats 2000000 in
theorem pg_96 (S0 : ByteArray) (g0 n0 cap0 : Nat) (m : Nat) (c : Int) (hR0 : Rv w ((m, f) :: r) S0 g0 n0 cap0) (hl : r.length ≤ 99000) :
    Calls Tryz.prog 126 #[.agg #[.string S0, .slice (some ⟨g0, 0, none⟩) n0 cap0, .bool fr], .int .u8 c, .int .u8 96, .int .i64 (p : Int)] w (RvTo w g0 ((6, p) :: ((m, f) :: r)) false) := by
  have hlt := hR0.lt
  have hx0 := hR0.n
  clear hx0
  go_enter Tryz.func126, Tryz.ntmps126
  go_wp2
  go_region_with (first
    | (go_at_call 128; refine (opens_96 _).mono ?_; rintro e w9 ⟨rfl, rfl⟩)
    | (go_at_call 127; refine (rv_push _ ((m, f) :: r) S0 g0 n0 cap0 fr 6 p _ rfl (hR0.below ((below2 _ _ _).drew)) (by simp; omega) (by simp)).mono ?_; rintro e w1 ⟨S1, g1, n1, cap1, rfl, hR1, hb1, hg1⟩; have hs1 := hb1.size; rw [show ∀ o o', ((w.alloc o).alloc o').drew.heap.size = w.heap.size + 2 from size2 w] at hs1 hg1; have hZ1 := (blk2 w _ #[.string ⟨#[]⟩, .slice none 0 0, .bool false] 117).drew.below hb1; have za1 : w1.cell? ⟨w.heap.size + 1, 0, none⟩ = some (.string ⟨#[]⟩) := hZ1.cell 0; have zb1 : w1.cell? ⟨w.heap.size + 1, 1, none⟩ = some (.slice none 0 0) := hZ1.cell 1; have zc1 : w1.cell? ⟨w.heap.size + 1, 2, none⟩ = some (.bool false) := hZ1.cell 2; have zd1 := hZ1.frozen 0; have ze1 := hZ1.frozen 1; have zf1 := hZ1.frozen 2)
    | (go_at_call 99; refine (rv_mark _ ((6, p) :: ((m, f) :: r)) S1 g1 n1 cap1 fr false hR1).mono ?_; rintro e w2 ⟨S2, g2, n2, cap2, rfl, hR2, hb2, hg2⟩; have hs2 := hb2.size; have hZ2 := (hZ1).below hb2; have za2 : w2.cell? ⟨w.heap.size + 1, 0, none⟩ = some (.string ⟨#[]⟩) := hZ2.cell 0; have zb2 : w2.cell? ⟨w.heap.size + 1, 1, none⟩ = some (.slice none 0 0) := hZ2.cell 1; have zc2 : w2.cell? ⟨w.heap.size + 1, 2, none⟩ = some (.bool false) := hZ2.cell 2; have zd2 := hZ2.frozen 0; have ze2 := hZ2.frozen 1; have zf2 := hZ2.frozen 2))
  all_goals
    go_wp2
    refine bodyPost_ret (v := .agg #[.string S2, .slice (some ⟨g2, 0, none⟩) n2 cap2, .bool false]) (by simp [results, Tryz.results126, go_sem, *]) rfl ?_
    exact rv_done (g0 := g0) hR2 (((below2 w _ _).drew.trans (hb1.mono (by first | omega | (rw [size2]; omega) | (show w.heap.size ≤ ((w.alloc _).alloc _).heap.size; rw [size2]; omega)))).trans (hb2.mono (by omega))) (w.heap.size + 1) (by omega) (by omega) (by omega) _ _ _
set_option maxHeartbeats 2000000 in
theorem pg_36 (S0 : ByteArray) (g0 n0 cap0 : Nat) (m : Nat) (c : Int) (hR0 : Rv w ((m, f) :: r) S0 g0 n0 cap0) (hl : r.length ≤ 99000) :
    Calls Tryz.prog 126 #[.agg #[.string S0, .slice (some ⟨g0, 0, none⟩) n0 cap0, .bool fr], .int .u8 c, .int .u8 36, .int .i64 (p : Int)] w (RvTo w g0 ((12, p) :: ((m, f) :: r)) false) := by
  have hlt := hR0.lt
  have hx0 := hR0.n
  clear hx0
  go_enter Tryz.func126, Tryz.ntmps126
  go_wp2
  go_region_with (first
    | (go_at_call 128; refine (opens_36 _).mono ?_; rintro e w9 ⟨rfl, rfl⟩)
    | (go_at_call 127; refine (rv_push _ ((m, f) :: r) S0 g0 n0 cap0 fr 12 p _ rfl (hR0.below ((below2 _ _ _).drew)) (by simp; omega) (by simp)).mono ?_; rintro e w1 ⟨S1, g1, n1, cap1, rfl, hR1, hb1, hg1⟩; have hs1 := hb1.size; rw [show ∀ o o', ((w.alloc o).alloc o').drew.heap.size = w.heap.size + 2 from size2 w] at hs1 hg1; have hZ1 := (blk2 w _ #[.string ⟨#[]⟩, .slice none 0 0, .bool false] 117).drew.below hb1; have za1 : w1.cell? ⟨w.heap.size + 1, 0, none⟩ = some (.string ⟨#[]⟩) := hZ1.cell 0; have zb1 : w1.cell? ⟨w.heap.size + 1, 1, none⟩ = some (.slice none 0 0) := hZ1.cell 1; have zc1 : w1.cell? ⟨w.heap.size + 1, 2, none⟩ = some (.bool false) := hZ1.cell 2; have zd1 := hZ1.frozen 0; have ze1 := hZ1.frozen 1; have zf1 := hZ1.frozen 2)
    | (go_at_call 99; refine (rv_mark _ ((12, p) :: ((m, f) :: r)) S1 g1 n1 cap1 fr false hR1).mono ?_; rintro e w2 ⟨S2, g2, n2, cap2, rfl, hR2, hb2, hg2⟩; have hs2 := hb2.size; have hZ2 := (hZ1).below hb2; have za2 : w2.cell? ⟨w.heap.size + 1, 0, none⟩ = some (.string ⟨#[]⟩) := hZ2.cell 0; have zb2 : w2.cell? ⟨w.heap.size + 1, 1, none⟩ = some (.slice none 0 0) := hZ2.cell 1; have zc2 : w2.cell? ⟨w.heap.size + 1, 2, none⟩ = some (.bool false) := hZ2.cell 2; have zd2 := hZ2.frozen 0; have ze2 := hZ2.frozen 1; have zf2 := hZ2.frozen 2))
  all_goals
    go_wp2
    refine bodyPost_ret (v := .agg #[.string S2, .slice (some ⟨g2, 0, none⟩) n2 cap2, .bool false]) (by simp [results, Tryz.results126, go_sem, *]) rfl ?_
    exact rv_done (g0 := g0) hR2 (((below2 w _ _).drew.trans (hb1.mono (by first | omega | (rw [size2]; omega) | (show w.heap.size ≤ ((w.alloc _).alloc _).heap.size; rw [size2]; omega)))).trans (hb2.mono (by omega))) (w.heap.size + 1) (by omega) (by omega) (by omega) _ _ _
set_option maxHeartbeats 2000000 in
theorem pg_35 (S0 : ByteArray) (g0 n0 cap0 : Nat) (m : Nat) (c : Int) (hR0 : Rv w ((m, f) :: r) S0 g0 n0 cap0) (hl : r.length ≤ 99000) :
    Calls Tryz.prog 126 #[.agg #[.string S0, .slice (some ⟨g0, 0, none⟩) n0 cap0, .bool true], .int .u8 c, .int .u8 35, .int .i64 (p : Int)] w (RvTo w g0 ((14, p) :: ((m, f) :: r)) true) := by
  have hlt := hR0.lt
  have hx0 := hR0.n
  clear hx0
  go_enter Tryz.func126, Tryz.ntmps126
  go_wp2_with fail
  refine (rv_push _ ((m, f) :: r) S0 g0 n0 cap0 true 14 p _ rfl (hR0.below (below2 _ _ _)) (by simp; omega) (by simp)).mono ?_
  rintro e w1 ⟨S1, g1, n1, cap1, rfl, hR1, hb1, hg1⟩; have hs1 := hb1.size; rw [size2] at hs1 hg1; have hZ1 := (blk2 w _ #[.string ⟨#[]⟩, .slice none 0 0, .bool false] 117).below hb1; have za1 : w1.cell? ⟨w.heap.size + 1, 0, none⟩ = some (.string ⟨#[]⟩) := hZ1.cell 0; have zb1 : w1.cell? ⟨w.heap.size + 1, 1, none⟩ = some (.slice none 0 0) := hZ1.cell 1; have zc1 : w1.cell? ⟨w.heap.size + 1, 2, none⟩ = some (.bool false) := hZ1.cell 2; have zd1 := hZ1.frozen 0; have ze1 := hZ1.frozen 1; have zf1 := hZ1.frozen 2
  go_wp2
  refine bodyPost_ret (v := .agg #[.string S1, .slice (some ⟨g1, 0, none⟩) n1 cap1, .bool true]) (by simp [results, Tryz.results126, go_sem, *]) rfl ?_
  exact rv_done (g0 := g0) hR1 ((below2 w _ _).trans (hb1.mono (by first | omega | (rw [size2]; omega) | (show w.heap.size ≤ ((w.alloc _).alloc _).heap.size; rw [size2]; omega)))) (w.heap.size + 1) (by omega) (by omega) (by omega) _ _ _
set_option maxHeartbeats 2000000 in
theorem pg_40_0 (S0 : ByteArray) (g0 n0 cap0 : Nat) (hR0 : Rv w ((0, f) :: r) S0 g0 n0 cap0) (hl : r.length ≤ 99000) :
    Calls Tryz.prog 126 #[.agg #[.string S0, .slice (some ⟨g0, 0, none⟩) n0 cap0, .bool fr], .int .u8 84, .int .u8 40, .int .i64 (p : Int)] w (RvTo w g0 ((0, f) :: r) true) := by
  have hlt := hR0.lt
  have hx0 := hR0.n
  clear hx0
  go_enter Tryz.func126, Tryz.ntmps126
  go_wp2_with fail
  refine (rv_mark _ ((0, f) :: r) S0 g0 n0 cap0 fr true (hR0.below (below2 _ _ _))).mono ?_
  rintro e w1 ⟨S1, g1, n1, cap1, rfl, hR1, hb1, hg1⟩; have hs1 := hb1.size; rw [size2] at hs1 hg1; have hZ1 := (blk2 w _ #[.string ⟨#[]⟩, .slice none 0 0, .bool false] 117).below hb1; have za1 : w1.cell? ⟨w.heap.size + 1, 0, none⟩ = some (.string ⟨#[]⟩) := hZ1.cell 0; have zb1 : w1.cell? ⟨w.heap.size + 1, 1, none⟩ = some (.slice none 0 0) := hZ1.cell 1; have zc1 : w1.cell? ⟨w.heap.size + 1, 2, none⟩ = some (.bool false) := hZ1.cell 2; have zd1 := hZ1.frozen 0; have ze1 := hZ1.frozen 1; have zf1 := hZ1.frozen 2
  go_wp2
  refine bodyPost_ret (v := .agg #[.string S1, .slice (some ⟨g1, 0, none⟩) n1 cap1, .bool true]) (by simp [results, Tryz.results126, go_sem, *]) rfl ?_
  exact rv_done (g0 := g0) hR1 ((below2 w _ _).trans (hb1.mono (by first | omega | (rw [size2]; omega) | (show w.heap.size ≤ ((w.alloc _).alloc _).heap.size; rw [size2]; omega)))) (w.heap.size + 1) (by omega) (by omega) (by omega) _ _ _
set_option maxHeartbeats 2000000 in
theorem pg_41_0 (S0 : ByteArray) (g0 n0 cap0 : Nat) (hR0 : Rv w ((0, f) :: r) S0 g0 n0 cap0) (hl : r.length ≤ 99000) :
    Calls Tryz.prog 126 #[.agg #[.string S0, .slice (some ⟨g0, 0, none⟩) n0 cap0, .bool fr], .int .u8 84, .int .u8 41, .int .i64 (p : Int)] w (RvTo w g0 ((0, f) :: r) true) := by
  have hlt := hR0.lt
  have hx0 := hR0.n
  clear hx0
  go_enter Tryz.func126, Tryz.ntmps126
  go_wp2_with fail
  refine (rv_mark _ ((0, f) :: r) S0 g0 n0 cap0 fr true (hR0.below (below2 _ _ _))).mono ?_
  rintro e w1 ⟨S1, g1, n1, cap1, rfl, hR1, hb1, hg1⟩; have hs1 := hb1.size; rw [size2] at hs1 hg1; have hZ1 := (blk2 w _ #[.string ⟨#[]⟩, .slice none 0 0, .bool false] 117).below hb1; have za1 : w1.cell? ⟨w.heap.size + 1, 0, none⟩ = some (.string ⟨#[]⟩) := hZ1.cell 0; have zb1 : w1.cell? ⟨w.heap.size + 1, 1, none⟩ = some (.slice none 0 0) := hZ1.cell 1; have zc1 : w1.cell? ⟨w.heap.size + 1, 2, none⟩ = some (.bool false) := hZ1.cell 2; have zd1 := hZ1.frozen 0; have ze1 := hZ1.frozen 1; have zf1 := hZ1.frozen 2
  go_wp2
  refine bodyPost_ret (v := .agg #[.string S1, .slice (some ⟨g1, 0, none⟩) n1 cap1, .bool true]) (by simp [results, Tryz.results126, go_sem, *]) rfl ?_
  exact rv_done (g0 := g0) hR1 ((below2 w _ _).trans (hb1.mono (by first | omega | (rw [size2]; omega) | (show w.heap.size ≤ ((w.alloc _).alloc _).heap.size; rw [size2]; omega)))) (w.heap.size + 1) (by omega) (by omega) (by omega) _ _ _
set_option maxHeartbeats 2000000 in
theorem pg_40_1 (S0 : ByteArray) (g0 n0 cap0 : Nat) (hR0 : Rv w ((1, f) :: r) S0 g0 n0 cap0) (hl : r.length ≤ 99000) :
    Calls Tryz.prog 126 #[.agg #[.string S0, .slice (some ⟨g0, 0, none⟩) n0 cap0, .bool fr], .int .u8 67, .int .u8 40, .int .i64 (p : Int)] w (RvTo w g0 ((2, p) :: ((1, f) :: r)) true) := by
  have hlt := hR0.lt
  have hx0 := hR0.n
  clear hx0
  go_enter Tryz.func126, Tryz.ntmps126
  go_wp2_with fail
  refine (rv_push _ ((1, f) :: r) S0 g0 n0 cap0 fr 2 p _ rfl (hR0.below (below2 _ _ _)) (by simp; omega) (by simp)).mono ?_
  rintro e w1 ⟨S1, g1, n1, cap1, rfl, hR1, hb1, hg1⟩; have hs1 := hb1.size; rw [size2] at hs1 hg1; have hZ1 := (blk2 w _ #[.string ⟨#[]⟩, .slice none 0 0, .bool false] 117).below hb1; have za1 : w1.cell? ⟨w.heap.size + 1, 0, none⟩ = some (.string ⟨#[]⟩) := hZ1.cell 0; have zb1 : w1.cell? ⟨w.heap.size + 1, 1, none⟩ = some (.slice none 0 0) := hZ1.cell 1; have zc1 : w1.cell? ⟨w.heap.size + 1, 2, none⟩ = some (.bool false) := hZ1.cell 2; have zd1 := hZ1.frozen 0; have ze1 := hZ1.frozen 1; have zf1 := hZ1.frozen 2
  go_wp2_with fail
  refine (rv_mark _ ((2, p) :: ((1, f) :: r)) S1 g1 n1 cap1 fr true hR1).mono ?_
  rintro e w2 ⟨S2, g2, n2, cap2, rfl, hR2, hb2, hg2⟩; have hs2 := hb2.size; have hZ2 := (hZ1).below hb2; have za2 : w2.cell? ⟨w.heap.size + 1, 0, none⟩ = some (.string ⟨#[]⟩) := hZ2.cell 0; have zb2 : w2.cell? ⟨w.heap.size + 1, 1, none⟩ = some (.slice none 0 0) := hZ2.cell 1; have zc2 : w2.cell? ⟨w.heap.size + 1, 2, none⟩ = some (.bool false) := hZ2.cell 2; have zd2 := hZ2.frozen 0; have ze2 := hZ2.frozen 1; have zf2 := hZ2.frozen 2
  go_wp2
  refine bodyPost_ret (v := .agg #[.string S2, .slice (some ⟨g2, 0, none⟩) n2 cap2, .bool true]) (by simp [results, Tryz.results126, go_sem, *]) rfl ?_
  exact rv_done (g0 := g0) hR2 (((below2 w _ _).trans (hb1.mono (by first | omega | (rw [size2]; omega) | (show w.heap.size ≤ ((w.alloc _).alloc _).heap.size; rw [size2]; omega)))).trans (hb2.mono (by omega))) (w.heap.size + 1) (by omega) (by omega) (by omega) _ _ _
set_option maxHeartbeats 2000000 in
theorem pg_41_1 (S0 : ByteArray) (g0 n0 cap0 : Nat) (hR0 : Rv w ((1, f) :: r) S0 g0 n0 cap0) (hl : r.length ≤ 99000) :
    Calls Tryz.prog 126 #[.agg #[.string S0, .slice (some ⟨g0, 0, none⟩) n0 cap0, .bool fr], .int .u8 67, .int .u8 41, .int .i64 (p : Int)] w (RvTo w g0 r false) := by
  have hlt := hR0.lt
  have hx0 := hR0.n
  clear hx0
  go_enter Tryz.func126, Tryz.ntmps126
  go_wp2_with fail
  refine (rv_pop _ r S0 g0 n0 cap0 fr 1 f (hR0.below (below2 _ _ _)) (by omega)).mono ?_
  rintro e w1 ⟨S1, g1, n1, cap1, rfl, hR1, hb1, hg1⟩; have hs1 := hb1.size; rw [size2] at hs1 hg1; have hZ1 := (blk2 w _ #[.string ⟨#[]⟩, .slice none 0 0, .bool false] 117).below hb1; have za1 : w1.cell? ⟨w.heap.size + 1, 0, none⟩ = some (.string ⟨#[]⟩) := hZ1.cell 0; have zb1 : w1.cell? ⟨w.heap.size + 1, 1, none⟩ = some (.slice none 0 0) := hZ1.cell 1; have zc1 : w1.cell? ⟨w.heap.size + 1, 2, none⟩ = some (.bool false) := hZ1.cell 2; have zd1 := hZ1.frozen 0; have ze1 := hZ1.frozen 1; have zf1 := hZ1.frozen 2
  go_wp2_with fail
  refine (rv_mark _ r S1 g1 n1 cap1 fr false hR1).mono ?_
  rintro e w2 ⟨S2, g2, n2, cap2, rfl, hR2, hb2, hg2⟩; have hs2 := hb2.size; have hZ2 := (hZ1).below hb2; have za2 : w2.cell? ⟨w.heap.size + 1, 0, none⟩ = some (.string ⟨#[]⟩) := hZ2.cell 0; have zb2 : w2.cell? ⟨w.heap.size + 1, 1, none⟩ = some (.slice none 0 0) := hZ2.cell 1; have zc2 : w2.cell? ⟨w.heap.size + 1, 2, none⟩ = some (.bool false) := hZ2.cell 2; have zd2 := hZ2.frozen 0; have ze2 := hZ2.frozen 1; have zf2 := hZ2.frozen 2
  go_wp2
  refine bodyPost_ret (v := .agg #[.string S2, .slice (some ⟨g2, 0, none⟩) n2 cap2, .bool false]) (by simp [results, Tryz.results126, go_sem, *]) rfl ?_
  exact rv_done (g0 := g0) hR2 (((below2 w _ _).trans (hb1.mono (by first | omega | (rw [size2]; omega) | (show w.heap.size ≤ ((w.alloc _).alloc _).heap.size; rw [size2]; omega)))).trans (hb2.mono (by omega))) (w.heap.size + 1) (by omega) (by omega) (by omega) _ _ _
set_option maxHeartbeats 2000000 in
theorem pg_40_2 (S0 : ByteArray) (g0 n0 cap0 : Nat) (hR0 : Rv w ((2, f) :: r) S0 g0 n0 cap0) (hl : r.length ≤ 99000) :
    Calls Tryz.prog 126 #[.agg #[.string S0, .slice (some ⟨g0, 0, none⟩) n0 cap0, .bool fr], .int .u8 80, .int .u8 40, .int .i64 (p : Int)] w (RvTo w g0 ((2, p) :: ((2, f) :: r)) true) := by
  have hlt := hR0.lt
  have hx0 := hR0.n
  clear hx0
  go_enter Tryz.func126, Tryz.ntmps126
  go_wp2_with fail
  refine (rv_push _ ((2, f) :: r) S0 g0 n0 cap0 fr 2 p _ rfl (hR0.below (below2 _ _ _)) (by simp; omega) (by simp)).mono ?_
  rintro e w1 ⟨S1, g1, n1, cap1, rfl, hR1, hb1, hg1⟩; have hs1 := hb1.size; rw [size2] at hs1 hg1; have hZ1 := (blk2 w _ #[.string ⟨#[]⟩, .slice none 0 0, .bool false] 117).below hb1; have za1 : w1.cell? ⟨w.heap.size + 1, 0, none⟩ = some (.string ⟨#[]⟩) := hZ1.cell 0; have zb1 : w1.cell? ⟨w.heap.size + 1, 1, none⟩ = some (.slice none 0 0) := hZ1.cell 1; have zc1 : w1.cell? ⟨w.heap.size + 1, 2, none⟩ = some (.bool false) := hZ1.cell 2; have zd1 := hZ1.frozen 0; have ze1 := hZ1.frozen 1; have zf1 := hZ1.frozen 2
  go_wp2_with fail
  refine (rv_mark _ ((2, p) :: ((2, f) :: r)) S1 g1 n1 cap1 fr true hR1).mono ?_
  rintro e w2 ⟨S2, g2, n2, cap2, rfl, hR2, hb2, hg2⟩; have hs2 := hb2.size; have hZ2 := (hZ1).below hb2; have za2 : w2.cell? ⟨w.heap.size + 1, 0, none⟩ = some (.string ⟨#[]⟩) := hZ2.cell 0; have zb2 : w2.cell? ⟨w.heap.size + 1, 1, none⟩ = some (.slice none 0 0) := hZ2.cell 1; have zc2 : w2.cell? ⟨w.heap.size + 1, 2, none⟩ = some (.bool false) := hZ2.cell 2; have zd2 := hZ2.frozen 0; have ze2 := hZ2.frozen 1; have zf2 := hZ2.frozen 2
  go_wp2
  refine bodyPost_ret (v := .agg #[.string S2, .slice (some ⟨g2, 0, none⟩) n2 cap2, .bool true]) (by simp [results, Tryz.results126, go_sem, *]) rfl ?_
  exact rv_done (g0 := g0) hR2 (((below2 w _ _).trans (hb1.mono (by first | omega | (rw [size2]; omega) | (show w.heap.size ≤ ((w.alloc _).alloc _).heap.size; rw [size2]; omega)))).trans (hb2.mono (by omega))) (w.heap.size + 1) (by omega) (by omega) (by omega) _ _ _
set_option maxHeartbeats 2000000 in
theorem pg_41_2 (S0 : ByteArray) (g0 n0 cap0 : Nat) (hR0 : Rv w ((2, f) :: r) S0 g0 n0 cap0) (hl : r.length ≤ 99000) :
    Calls Tryz.prog 126 #[.agg #[.string S0, .slice (some ⟨g0, 0, none⟩) n0 cap0, .bool fr], .int .u8 80, .int .u8 41, .int .i64 (p : Int)] w (RvTo w g0 r true) := by
  have hlt := hR0.lt
  have hx0 := hR0.n
  clear hx0
  go_enter Tryz.func126, Tryz.ntmps126
  go_wp2_with fail
  refine (rv_pop _ r S0 g0 n0 cap0 fr 2 f (hR0.below (below2 _ _ _)) (by omega)).mono ?_
  rintro e w1 ⟨S1, g1, n1, cap1, rfl, hR1, hb1, hg1⟩; have hs1 := hb1.size; rw [size2] at hs1 hg1; have hZ1 := (blk2 w _ #[.string ⟨#[]⟩, .slice none 0 0, .bool false] 117).below hb1; have za1 : w1.cell? ⟨w.heap.size + 1, 0, none⟩ = some (.string ⟨#[]⟩) := hZ1.cell 0; have zb1 : w1.cell? ⟨w.heap.size + 1, 1, none⟩ = some (.slice none 0 0) := hZ1.cell 1; have zc1 : w1.cell? ⟨w.heap.size + 1, 2, none⟩ = some (.bool false) := hZ1.cell 2; have zd1 := hZ1.frozen 0; have ze1 := hZ1.frozen 1; have zf1 := hZ1.frozen 2
  go_wp2_with fail
  refine (rv_mark _ r S1 g1 n1 cap1 fr true hR1).mono ?_
  rintro e w2 ⟨S2, g2, n2, cap2, rfl, hR2, hb2, hg2⟩; have hs2 := hb2.size; have hZ2 := (hZ1).below hb2; have za2 : w2.cell? ⟨w.heap.size + 1, 0, none⟩ = some (.string ⟨#[]⟩) := hZ2.cell 0; have zb2 : w2.cell? ⟨w.heap.size + 1, 1, none⟩ = some (.slice none 0 0) := hZ2.cell 1; have zc2 : w2.cell? ⟨w.heap.size + 1, 2, none⟩ = some (.bool false) := hZ2.cell 2; have zd2 := hZ2.frozen 0; have ze2 := hZ2.frozen 1; have zf2 := hZ2.frozen 2
  go_wp2
  refine bodyPost_ret (v := .agg #[.string S2, .slice (some ⟨g2, 0, none⟩) n2 cap2, .bool true]) (by simp [results, Tryz.results126, go_sem, *]) rfl ?_
  exact rv_done (g0 := g0) hR2 (((below2 w _ _).trans (hb1.mono (by first | omega | (rw [size2]; omega) | (show w.heap.size ≤ ((w.alloc _).alloc _).heap.size; rw [size2]; omega)))).trans (hb2.mono (by omega))) (w.heap.size + 1) (by omega) (by omega) (by omega) _ _ _
set_option maxHeartbeats 2000000 in
theorem pg_else (S0 : ByteArray) (g0 n0 cap0 : Nat) (m : Nat) (c : Int) (hR0 : Rv w ((m, f) :: r) S0 g0 n0 cap0) (hl : r.length ≤ 99000) (t0 : ((b : Int) == 92) = false) (t1 : ((b : Int) == 39) = false) (t2 : ((b : Int) == 34) = false) (t3 : ((b : Int) == 96) = false) (t4 : ((b : Int) == 36) = false) (t5 : ((b : Int) == 35) = false) (t6 : ((b : Int) == 40) = false) (t7 : ((b : Int) == 41) = false) :
    Calls Tryz.prog 126 #[.agg #[.string S0, .slice (some ⟨g0, 0, none⟩) n0 cap0, .bool fr], .int .u8 c, .int .u8 b, .int .i64 (p : Int)] w (RvTo w g0 ((m, f) :: r) (endsB b)) := by
  have hlt := hR0.lt
  have hx0 := hR0.n
  clear hx0
  go_enter Tryz.func126, Tryz.ntmps126
  go_wp2
  go_region_with (first
    | (go_at_call 78; refine (refends_any _ _).mono ?_; rintro e w9 ⟨rfl, rfl⟩)
    | (go_at_call 99; refine (rv_mark _ ((m, f) :: r) S0 g0 n0 cap0 fr (endsB b) (hR0.below ((below2 _ _ _).drew))).mono ?_; rintro e w1 ⟨S1, g1, n1, cap1, rfl, hR1, hb1, hg1⟩; have hs1 := hb1.size; rw [show ∀ o o', ((w.alloc o).alloc o').drew.heap.size = w.heap.size + 2 from size2 w] at hs1 hg1; have hZ1 := (blk2 w _ #[.string ⟨#[]⟩, .slice none 0 0, .bool false] 117).drew.below hb1; have za1 : w1.cell? ⟨w.heap.size + 1, 0, none⟩ = some (.string ⟨#[]⟩) := hZ1.cell 0; have zb1 : w1.cell? ⟨w.heap.size + 1, 1, none⟩ = some (.slice none 0 0) := hZ1.cell 1; have zc1 : w1.cell? ⟨w.heap.size + 1, 2, none⟩ = some (.bool false) := hZ1.cell 2; have zd1 := hZ1.frozen 0; have ze1 := hZ1.frozen 1; have zf1 := hZ1.frozen 2))
  all_goals
    go_wp2
    refine bodyPost_ret (v := .agg #[.string S1, .slice (some ⟨g1, 0, none⟩) n1 cap1, .bool (endsB b)]) (by simp [results, Tryz.results126, go_sem, *]) rfl ?_
    exact rv_done (g0 := g0) hR1 ((below2 w _ _).drew.trans (hb1.mono (by first | omega | (rw [size2]; omega) | (show w.heap.size ≤ ((w.alloc _).alloc _).heap.size; rw [size2]; omega)))) (w.heap.size + 1) (by omega) (by omega) (by omega) _ _ _
set_option maxHeartbeats 2000000 in
theorem pg_35f (S0 : ByteArray) (g0 n0 cap0 : Nat) (m : Nat) (c : Int) (hR0 : Rv w ((m, f) :: r) S0 g0 n0 cap0) (hl : r.length ≤ 99000) :
    Calls Tryz.prog 126 #[.agg #[.string S0, .slice (some ⟨g0, 0, none⟩) n0 cap0, .bool false], .int .u8 c, .int .u8 35, .int .i64 (p : Int)] w (RvTo w g0 ((m, f) :: r) (endsB 35)) := by
  have hlt := hR0.lt
  have hx0 := hR0.n
  clear hx0
  go_enter Tryz.func126, Tryz.ntmps126
  go_wp2
  go_region_with (first
    | (go_at_call 78; refine (refends_any _ _).mono ?_; rintro e w9 ⟨rfl, rfl⟩)
    | (go_at_call 99; refine (rv_mark _ ((m, f) :: r) S0 g0 n0 cap0 false (endsB 35) (hR0.below ((below2 _ _ _).drew))).mono ?_; rintro e w1 ⟨S1, g1, n1, cap1, rfl, hR1, hb1, hg1⟩; have hs1 := hb1.size; rw [show ∀ o o', ((w.alloc o).alloc o').drew.heap.size = w.heap.size + 2 from size2 w] at hs1 hg1; have hZ1 := (blk2 w _ #[.string ⟨#[]⟩, .slice none 0 0, .bool false] 117).drew.below hb1; have za1 : w1.cell? ⟨w.heap.size + 1, 0, none⟩ = some (.string ⟨#[]⟩) := hZ1.cell 0; have zb1 : w1.cell? ⟨w.heap.size + 1, 1, none⟩ = some (.slice none 0 0) := hZ1.cell 1; have zc1 : w1.cell? ⟨w.heap.size + 1, 2, none⟩ = some (.bool false) := hZ1.cell 2; have zd1 := hZ1.frozen 0; have ze1 := hZ1.frozen 1; have zf1 := hZ1.frozen 2))
  all_goals
    go_wp2
    refine bodyPost_ret (v := .agg #[.string S1, .slice (some ⟨g1, 0, none⟩) n1 cap1, .bool (endsB 35)]) (by simp [results, Tryz.results126, go_sem, *]) rfl ?_
    exact rv_done (g0 := g0) hR1 ((below2 w _ _).drew.trans (hb1.mono (by first | omega | (rw [size2]; omega) | (show w.heap.size ≤ ((w.alloc _).alloc _).heap.size; rw [size2]; omega)))) (w.heap.size + 1) (by omega) (by omega) (by omega) _ _ _
end
end Go.Proofs.YtgfkbfojeohlkaaGreatDoor

/- What the document's own machine makes of a byte in the other modes that take it. Condition: stacks of at most 99,000 frames; a byte. -/
import Derived.Test.YtgfkbfojeohlkaaGreatDoorMdG
namespace Go.Proofs.YtgfkbfojeohlkaaGreatDoor
open Go.RowKit
set_option linter.unusedVariables false

section
variable (w : World) (b f p : Nat) (r : List Fr) (S : ByteArray) (g n cap : Nat) (fr : Bool)
set_option maxHeartbeats 2000000 in
theorem pl_7_92 (S0 : ByteArray) (g0 n0 cap0 : Nat) (hR0 : Rv w ((7, f) :: r) S0 g0 n0 cap0) (hl : r.length ≤ 99000) :
    Calls Tryz.prog 102 #[.agg #[.string S0, .slice (some ⟨g0, 0, none⟩) n0 cap0, .bool fr], .int .u8 86, .int .u8 92, .int .i64 (p : Int)] w (RvTo w g0 ((13, p) :: ((7, f) :: r)) fr) := by
  have hlt := hR0.lt
  have hx0 := hR0.n
  clear hx0
  go_enter Tryz.func102, Tryz.ntmps102
  go_wp2_with (go_at_call 128; refine (opens_92 _).mono ?_; rintro e w9 ⟨rfl, rfl⟩)
  go_region_with (first
    | (go_at_call 128; refine (opens_92 _).mono ?_; rintro e w9 ⟨rfl, rfl⟩)
    | (go_at_call 127; refine (rv_push _ ((7, f) :: r) S0 g0 n0 cap0 fr 13 p _ rfl (hR0.below ((below2 _ _ _).drew)) (by simp; omega) (by simp)).mono ?_; rintro e w1 ⟨S1, g1, n1, cap1, rfl, hR1, hb1, hg1⟩; have hs1 := hb1.size; rw [show ∀ o o', ((w.alloc o).alloc o').drew.heap.size = w.heap.size + 2 from size2 w] at hs1 hg1; have hZ1 := (blk2 w _ #[.string ⟨#[]⟩, .slice none 0 0, .bool false] 117).drew.below hb1; have za1 : w1.cell? ⟨w.heap.size + 1, 0, none⟩ = some (.string ⟨#[]⟩) := hZ1.cell 0; have zb1 : w1.cell? ⟨w.heap.size + 1, 1, none⟩ = some (.slice none 0 0) := hZ1.cell 1; have zc1 : w1.cell? ⟨w.heap.size + 1, 2, none⟩ = some (.bool false) := hZ1.cell 2; have zd1 := hZ1.frozen 0; have ze1 := hZ1.frozen 1; have zf1 := hZ1.frozen 2))
  all_goals
    go_wp2
    refine bodyPost_ret (v := .agg #[.string S1, .slice (some ⟨g1, 0, none⟩) n1 cap1, .bool fr]) (by simp [results, Tryz.results102, go_sem, *]) rfl ?_
    exact rv_done (g0 := g0) hR1 ((below2 w _ _).drew.trans (hb1.mono (by first | omega | (rw [size2]; omega) | (show w.heap.size ≤ ((w.alloc _).alloc _).heap.size; rw [size2]; omega)))) (w.heap.size + 1) (by omega) (by omega) (by omega) _ _ _
set_option maxHeartbeats 2000000 in
theorem pl_7_36 (S0 : ByteArray) (g0 n0 cap0 : Nat) (hR0 : Rv w ((7, f) :: r) S0 g0 n0 cap0) (hl : r.length ≤ 99000) :
    Calls Tryz.prog 102 #[.agg #[.string S0, .slice (some ⟨g0, 0, none⟩) n0 cap0, .bool fr], .int .u8 86, .int .u8 36, .int .i64 (p : Int)] w (RvTo w g0 ((12, p) :: ((7, f) :: r)) fr) := by
  have hlt := hR0.lt
  have hx0 := hR0.n
  clear hx0
  go_enter Tryz.func102, Tryz.ntmps102
  go_wp2_with (go_at_call 128; refine (opens_36 _).mono ?_; rintro e w9 ⟨rfl, rfl⟩)
  go_region_with (first
    | (go_at_call 128; refine (opens_36 _).mono ?_; rintro e w9 ⟨rfl, rfl⟩)
    | (go_at_call 127; refine (rv_push _ ((7, f) :: r) S0 g0 n0 cap0 fr 12 p _ rfl (hR0.below ((below2 _ _ _).drew)) (by simp; omega) (by simp)).mono ?_; rintro e w1 ⟨S1, g1, n1, cap1, rfl, hR1, hb1, hg1⟩; have hs1 := hb1.size; rw [show ∀ o o', ((w.alloc o).alloc o').drew.heap.size = w.heap.size + 2 from size2 w] at hs1 hg1; have hZ1 := (blk2 w _ #[.string ⟨#[]⟩, .slice none 0 0, .bool false] 117).drew.below hb1; have za1 : w1.cell? ⟨w.heap.size + 1, 0, none⟩ = some (.string ⟨#[]⟩) := hZ1.cell 0; have zb1 : w1.cell? ⟨w.heap.size + 1, 1, none⟩ = some (.slice none 0 0) := hZ1.cell 1; have zc1 : w1.cell? ⟨w.heap.size + 1, 2, none⟩ = some (.bool false) := hZ1.cell 2; have zd1 := hZ1.frozen 0; have ze1 := hZ1.frozen 1; have zf1 := hZ1.frozen 2))
  all_goals
    go_wp2
    refine bodyPost_ret (v := .agg #[.string S1, .slice (some ⟨g1, 0, none⟩) n1 cap1, .bool fr]) (by simp [results, Tryz.results102, go_sem, *]) rfl ?_
    exact rv_done (g0 := g0) hR1 ((below2 w _ _).drew.trans (hb1.mono (by first | omega | (rw [size2]; omega) | (show w.heap.size ≤ ((w.alloc _).alloc _).heap.size; rw [size2]; omega)))) (w.heap.size + 1) (by omega) (by omega) (by omega) _ _ _
set_option maxHeartbeats 2000000 in
theorem pl_7_96 (S0 : ByteArray) (g0 n0 cap0 : Nat) (hR0 : Rv w ((7, f) :: r) S0 g0 n0 cap0) (hl : r.length ≤ 99000) :
    Calls Tryz.prog 102 #[.agg #[.string S0, .slice (some ⟨g0, 0, none⟩) n0 cap0, .bool fr], .int .u8 86, .int .u8 96, .int .i64 (p : Int)] w (RvTo w g0 ((6, p) :: ((7, f) :: r)) fr) := by
  have hlt := hR0.lt
  have hx0 := hR0.n
  clear hx0
  go_enter Tryz.func102, Tryz.ntmps102
  go_wp2_with (go_at_call 128; refine (opens_96 _).mono ?_; rintro e w9 ⟨rfl, rfl⟩)
  go_region_with (first
    | (go_at_call 128; refine (opens_96 _).mono ?_; rintro e w9 ⟨rfl, rfl⟩)
    | (go_at_call 127; refine (rv_push _ ((7, f) :: r) S0 g0 n0 cap0 fr 6 p _ rfl (hR0.below ((below2 _ _ _).drew)) (by simp; omega) (by simp)).mono ?_; rintro e w1 ⟨S1, g1, n1, cap1, rfl, hR1, hb1, hg1⟩; have hs1 := hb1.size; rw [show ∀ o o', ((w.alloc o).alloc o').drew.heap.size = w.heap.size + 2 from size2 w] at hs1 hg1; have hZ1 := (blk2 w _ #[.string ⟨#[]⟩, .slice none 0 0, .bool false] 117).drew.below hb1; have za1 : w1.cell? ⟨w.heap.size + 1, 0, none⟩ = some (.string ⟨#[]⟩) := hZ1.cell 0; have zb1 : w1.cell? ⟨w.heap.size + 1, 1, none⟩ = some (.slice none 0 0) := hZ1.cell 1; have zc1 : w1.cell? ⟨w.heap.size + 1, 2, none⟩ = some (.bool false) := hZ1.cell 2; have zd1 := hZ1.frozen 0; have ze1 := hZ1.frozen 1; have zf1 := hZ1.frozen 2))
  all_goals
    go_wp2
    refine bodyPost_ret (v := .agg #[.string S1, .slice (some ⟨g1, 0, none⟩) n1 cap1, .bool fr]) (by simp [results, Tryz.results102, go_sem, *]) rfl ?_
    exact rv_done (g0 := g0) hR1 ((below2 w _ _).drew.trans (hb1.mono (by first | omega | (rw [size2]; omega) | (show w.heap.size ≤ ((w.alloc _).alloc _).heap.size; rw [size2]; omega)))) (w.heap.size + 1) (by omega) (by omega) (by omega) _ _ _
set_option maxHeartbeats 2000000 in
theorem pl_8_92 (S0 : ByteArray) (g0 n0 cap0 : Nat) (hR0 : Rv w ((8, f) :: r) S0 g0 n0 cap0) (hl : r.length ≤ 99000) :
    Calls Tryz.prog 102 #[.agg #[.string S0, .slice (some ⟨g0, 0, none⟩) n0 cap0, .bool fr], .int .u8 73, .int .u8 92, .int .i64 (p : Int)] w (RvTo w g0 ((13, p) :: ((8, f) :: r)) fr) := by
  have hlt := hR0.lt
  have hx0 := hR0.n
  clear hx0
  go_enter Tryz.func102, Tryz.ntmps102
  go_wp2_with (go_at_call 128; refine (opens_92 _).mono ?_; rintro e w9 ⟨rfl, rfl⟩)
  go_region_with (first
    | (go_at_call 128; refine (opens_92 _).mono ?_; rintro e w9 ⟨rfl, rfl⟩)
    | (go_at_call 127; refine (rv_push _ ((8, f) :: r) S0 g0 n0 cap0 fr 13 p _ rfl (hR0.below ((below2 _ _ _).drew)) (by simp; omega) (by simp)).mono ?_; rintro e w1 ⟨S1, g1, n1, cap1, rfl, hR1, hb1, hg1⟩; have hs1 := hb1.size; rw [show ∀ o o', ((w.alloc o).alloc o').drew.heap.size = w.heap.size + 2 from size2 w] at hs1 hg1; have hZ1 := (blk2 w _ #[.string ⟨#[]⟩, .slice none 0 0, .bool false] 117).drew.below hb1; have za1 : w1.cell? ⟨w.heap.size + 1, 0, none⟩ = some (.string ⟨#[]⟩) := hZ1.cell 0; have zb1 : w1.cell? ⟨w.heap.size + 1, 1, none⟩ = some (.slice none 0 0) := hZ1.cell 1; have zc1 : w1.cell? ⟨w.heap.size + 1, 2, none⟩ = some (.bool false) := hZ1.cell 2; have zd1 := hZ1.frozen 0; have ze1 := hZ1.frozen 1; have zf1 := hZ1.frozen 2))
  all_goals
    go_wp2
    refine bodyPost_ret (v := .agg #[.string S1, .slice (some ⟨g1, 0, none⟩) n1 cap1, .bool fr]) (by simp [results, Tryz.results102, go_sem, *]) rfl ?_
    exact rv_done (g0 := g0) hR1 ((below2 w _ _).drew.trans (hb1.mono (by first | omega | (rw [size2]; omega) | (show w.heap.size ≤ ((w.alloc _).alloc _).heap.size; rw [size2]; omega)))) (w.heap.size + 1) (by omega) (by omega) (by omega) _ _ _
set_option maxHeartbeats 2000000 in
theorem pl_8_36 (S0 : ByteArray) (g0 n0 cap0 : Nat) (hR0 : Rv w ((8, f) :: r) S0 g0 n0 cap0) (hl : r.length ≤ 99000) :
    Calls Tryz.prog 102 #[.agg #[.string S0, .slice (some ⟨g0, 0, none⟩) n0 cap0, .bool fr], .int .u8 73, .int .u8 36, .int .i64 (p : Int)] w (RvTo w g0 ((12, p) :: ((8, f) :: r)) fr) := by
  have hlt := hR0.lt
  have hx0 := hR0.n
  clear hx0
  go_enter Tryz.func102, Tryz.ntmps102
  go_wp2_with (go_at_call 128; refine (opens_36 _).mono ?_; rintro e w9 ⟨rfl, rfl⟩)
  go_region_with (first
    | (go_at_call 128; refine (opens_36 _).mono ?_; rintro e w9 ⟨rfl, rfl⟩)
    | (go_at_call 127; refine (rv_push _ ((8, f) :: r) S0 g0 n0 cap0 fr 12 p _ rfl (hR0.below ((below2 _ _ _).drew)) (by simp; omega) (by simp)).mono ?_; rintro e w1 ⟨S1, g1, n1, cap1, rfl, hR1, hb1, hg1⟩; have hs1 := hb1.size; rw [show ∀ o o', ((w.alloc o).alloc o').drew.heap.size = w.heap.size + 2 from size2 w] at hs1 hg1; have hZ1 := (blk2 w _ #[.string ⟨#[]⟩, .slice none 0 0, .bool false] 117).drew.below hb1; have za1 : w1.cell? ⟨w.heap.size + 1, 0, none⟩ = some (.string ⟨#[]⟩) := hZ1.cell 0; have zb1 : w1.cell? ⟨w.heap.size + 1, 1, none⟩ = some (.slice none 0 0) := hZ1.cell 1; have zc1 : w1.cell? ⟨w.heap.size + 1, 2, none⟩ = some (.bool false) := hZ1.cell 2; have zd1 := hZ1.frozen 0; have ze1 := hZ1.frozen 1; have zf1 := hZ1.frozen 2))
  all_goals
    go_wp2
    refine bodyPost_ret (v := .agg #[.string S1, .slice (some ⟨g1, 0, none⟩) n1 cap1, .bool fr]) (by simp [results, Tryz.results102, go_sem, *]) rfl ?_
    exact rv_done (g0 := g0) hR1 ((below2 w _ _).drew.trans (hb1.mono (by first | omega | (rw [size2]; omega) | (show w.heap.size ≤ ((w.alloc _).alloc _).heap.size; rw [size2]; omega)))) (w.heap.size + 1) (by omega) (by omega) (by omega) _ _ _
set_option maxHeartbeats 2000000 in
theorem pl_8_96 (S0 : ByteArray) (g0 n0 cap0 : Nat) (hR0 : Rv w ((8, f) :: r) S0 g0 n0 cap0) (hl : r.length ≤ 99000) :
    Calls Tryz.prog 102 #[.agg #[.string S0, .slice (some ⟨g0, 0, none⟩) n0 cap0, .bool fr], .int .u8 73, .int .u8 96, .int .i64 (p : Int)] w (RvTo w g0 ((6, p) :: ((8, f) :: r)) fr) := by
  have hlt := hR0.lt
  have hx0 := hR0.n
  clear hx0
  go_enter Tryz.func102, Tryz.ntmps102
  go_wp2_with (go_at_call 128; refine (opens_96 _).mono ?_; rintro e w9 ⟨rfl, rfl⟩)
  go_region_with (first
    | (go_at_call 128; refine (opens_96 _).mono ?_; rintro e w9 ⟨rfl, rfl⟩)
    | (go_at_call 127; refine (rv_push _ ((8, f) :: r) S0 g0 n0 cap0 fr 6 p _ rfl (hR0.below ((below2 _ _ _).drew)) (by simp; omega) (by simp)).mono ?_; rintro e w1 ⟨S1, g1, n1, cap1, rfl, hR1, hb1, hg1⟩; have hs1 := hb1.size; rw [show ∀ o o', ((w.alloc o).alloc o').drew.heap.size = w.heap.size + 2 from size2 w] at hs1 hg1; have hZ1 := (blk2 w _ #[.string ⟨#[]⟩, .slice none 0 0, .bool false] 117).drew.below hb1; have za1 : w1.cell? ⟨w.heap.size + 1, 0, none⟩ = some (.string ⟨#[]⟩) := hZ1.cell 0; have zb1 : w1.cell? ⟨w.heap.size + 1, 1, none⟩ = some (.slice none 0 0) := hZ1.cell 1; have zc1 : w1.cell? ⟨w.heap.size + 1, 2, none⟩ = some (.bool false) := hZ1.cell 2; have zd1 := hZ1.frozen 0; have ze1 := hZ1.frozen 1; have zf1 := hZ1.frozen 2))
  all_goals
    go_wp2
    refine bodyPost_ret (v := .agg #[.string S1, .slice (some ⟨g1, 0, none⟩) n1 cap1, .bool fr]) (by simp [results, Tryz.results102, go_sem, *]) rfl ?_
    exact rv_done (g0 := g0) hR1 ((below2 w _ _).drew.trans (hb1.mono (by first | omega | (rw [size2]; omega) | (show w.heap.size ≤ ((w.alloc _).alloc _).heap.size; rw [size2]; omega)))) (w.heap.size + 1) (by omega) (by omega) (by omega) _ _ _
set_option maxHeartbeats 2000000 in
theorem pl_7_34 (S0 : ByteArray) (g0 n0 cap0 : Nat) (hR0 : Rv w ((7, f) :: r) S0 g0 n0 cap0) (hl : r.length ≤ 99000) :
    Calls Tryz.prog 102 #[.agg #[.string S0, .slice (some ⟨g0, 0, none⟩) n0 cap0, .bool fr], .int .u8 86, .int .u8 34, .int .i64 (p : Int)] w (RvTo w g0 ((5, p) :: ((7, f) :: r)) fr) := by
  have hlt := hR0.lt
  have hx0 := hR0.n
  clear hx0
  go_enter Tryz.func102, Tryz.ntmps102
  go_wp2_with fail
  refine (opens_none _ 34 rfl rfl rfl).mono ?_
  rintro e w9 ⟨rfl, rfl⟩
  go_wp2_with fail
  refine (rv_push _ ((7, f) :: r) S0 g0 n0 cap0 fr 5 p _ rfl (hR0.below (below2 _ _ _)) (by simp; omega) (by simp)).mono ?_
  rintro e w1 ⟨S1, g1, n1, cap1, rfl, hR1, hb1, hg1⟩; have hs1 := hb1.size; rw [size2] at hs1 hg1; have hZ1 := (blk2 w _ #[.string ⟨#[]⟩, .slice none 0 0, .bool false] 117).below hb1; have za1 : w1.cell? ⟨w.heap.size + 1, 0, none⟩ = some (.string ⟨#[]⟩) := hZ1.cell 0; have zb1 : w1.cell? ⟨w.heap.size + 1, 1, none⟩ = some (.slice none 0 0) := hZ1.cell 1; have zc1 : w1.cell? ⟨w.heap.size + 1, 2, none⟩ = some (.bool false) := hZ1.cell 2; have zd1 := hZ1.frozen 0; have ze1 := hZ1.frozen 1; have zf1 := hZ1.frozen 2
  go_wp2
  refine bodyPost_ret (v := .agg #[.string S1, .slice (some ⟨g1, 0, none⟩) n1 cap1, .bool fr]) (by simp [results, Tryz.results102, go_sem, *]) rfl ?_
  exact rv_done (g0 := g0) hR1 ((below2 w _ _).trans (hb1.mono (by first | omega | (rw [size2]; omega) | (show w.heap.size ≤ ((w.alloc _).alloc _).heap.size; rw [size2]; omega)))) (w.heap.size + 1) (by omega) (by omega) (by omega) _ _ _
set_option maxHeartbeats 2000000 in
theorem pl_7_125 (S0 : ByteArray) (g0 n0 cap0 : Nat) (hR0 : Rv w ((7, f) :: r) S0 g0 n0 cap0) (hl : r.length ≤ 99000) :
    Calls Tryz.prog 102 #[.agg #[.string S0, .slice (some ⟨g0, 0, none⟩) n0 cap0, .bool fr], .int .u8 86, .int .u8 125, .int .i64 (p : Int)] w (RvTo w g0 r fr) := by
  have hlt := hR0.lt
  have hx0 := hR0.n
  clear hx0
  go_enter Tryz.func102, Tryz.ntmps102
  go_wp2_with fail
  refine (opens_none _ 125 rfl rfl rfl).mono ?_
  rintro e w9 ⟨rfl, rfl⟩
  go_wp2_with fail
  refine (rv_pop _ r S0 g0 n0 cap0 fr 7 f (hR0.below (below2 _ _ _)) (by omega)).mono ?_
  rintro e w1 ⟨S1, g1, n1, cap1, rfl, hR1, hb1, hg1⟩; have hs1 := hb1.size; rw [size2] at hs1 hg1; have hZ1 := (blk2 w _ #[.string ⟨#[]⟩, .slice none 0 0, .bool false] 117).below hb1; have za1 : w1.cell? ⟨w.heap.size + 1, 0, none⟩ = some (.string ⟨#[]⟩) := hZ1.cell 0; have zb1 : w1.cell? ⟨w.heap.size + 1, 1, none⟩ = some (.slice none 0 0) := hZ1.cell 1; have zc1 : w1.cell? ⟨w.heap.size + 1, 2, none⟩ = some (.bool false) := hZ1.cell 2; have zd1 := hZ1.frozen 0; have ze1 := hZ1.frozen 1; have zf1 := hZ1.frozen 2
  go_wp2
  refine bodyPost_ret (v := .agg #[.string S1, .slice (some ⟨g1, 0, none⟩) n1 cap1, .bool fr]) (by simp [results, Tryz.results102, go_sem, *]) rfl ?_
  exact rv_done (g0 := g0) hR1 ((below2 w _ _).trans (hb1.mono (by first | omega | (rw [size2]; omega) | (show w.heap.size ≤ ((w.alloc _).alloc _).heap.size; rw [size2]; omega)))) (w.heap.size + 1) (by omega) (by omega) (by omega) _ _ _
set_option maxHeartbeats 2000000 in
theorem pl_8_34 (S0 : ByteArray) (g0 n0 cap0 : Nat) (hR0 : Rv w ((8, f) :: r) S0 g0 n0 cap0) (hl : r.length ≤ 99000) :
    Calls Tryz.prog 102 #[.agg #[.string S0, .slice (some ⟨g0, 0, none⟩) n0 cap0, .bool fr], .int .u8 73, .int .u8 34, .int .i64 (p : Int)] w (RvTo w g0 ((5, p) :: ((8, f) :: r)) fr) := by
  have hlt := hR0.lt
  have hx0 := hR0.n
  clear hx0
  go_enter Tryz.func102, Tryz.ntmps102
  go_wp2_with fail
  refine (opens_none _ 34 rfl rfl rfl).mono ?_
  rintro e w9 ⟨rfl, rfl⟩
  go_wp2_with fail
  refine (rv_push _ ((8, f) :: r) S0 g0 n0 cap0 fr 5 p _ rfl (hR0.below (below2 _ _ _)) (by simp; omega) (by simp)).mono ?_
  rintro e w1 ⟨S1, g1, n1, cap1, rfl, hR1, hb1, hg1⟩; have hs1 := hb1.size; rw [size2] at hs1 hg1; have hZ1 := (blk2 w _ #[.string ⟨#[]⟩, .slice none 0 0, .bool false] 117).below hb1; have za1 : w1.cell? ⟨w.heap.size + 1, 0, none⟩ = some (.string ⟨#[]⟩) := hZ1.cell 0; have zb1 : w1.cell? ⟨w.heap.size + 1, 1, none⟩ = some (.slice none 0 0) := hZ1.cell 1; have zc1 : w1.cell? ⟨w.heap.size + 1, 2, none⟩ = some (.bool false) := hZ1.cell 2; have zd1 := hZ1.frozen 0; have ze1 := hZ1.frozen 1; have zf1 := hZ1.frozen 2
  go_wp2
  refine bodyPost_ret (v := .agg #[.string S1, .slice (some ⟨g1, 0, none⟩) n1 cap1, .bool fr]) (by simp [results, Tryz.results102, go_sem, *]) rfl ?_
  exact rv_done (g0 := g0) hR1 ((below2 w _ _).trans (hb1.mono (by first | omega | (rw [size2]; omega) | (show w.heap.size ≤ ((w.alloc _).alloc _).heap.size; rw [size2]; omega)))) (w.heap.size + 1) (by omega) (by omega) (by omega) _ _ _
set_option maxHeartbeats 2000000 in
theorem pl_8_125 (S0 : ByteArray) (g0 n0 cap0 : Nat) (hR0 : Rv w ((8, f) :: r) S0 g0 n0 cap0) (hl : r.length ≤ 99000) :
    Calls Tryz.prog 102 #[.agg #[.string S0, .slice (some ⟨g0, 0, none⟩) n0 cap0, .bool fr], .int .u8 73, .int .u8 125, .int .i64 (p : Int)] w (RvTo w g0 r fr) := by
  have hlt := hR0.lt
  have hx0 := hR0.n
  clear hx0
  go_enter Tryz.func102, Tryz.ntmps102
  go_wp2_with fail
  refine (opens_none _ 125 rfl rfl rfl).mono ?_
  rintro e w9 ⟨rfl, rfl⟩
  go_wp2_with fail
  refine (rv_pop _ r S0 g0 n0 cap0 fr 8 f (hR0.below (below2 _ _ _)) (by omega)).mono ?_
  rintro e w1 ⟨S1, g1, n1, cap1, rfl, hR1, hb1, hg1⟩; have hs1 := hb1.size; rw [size2] at hs1 hg1; have hZ1 := (blk2 w _ #[.string ⟨#[]⟩, .slice none 0 0, .bool false] 117).below hb1; have za1 : w1.cell? ⟨w.heap.size + 1, 0, none⟩ = some (.string ⟨#[]⟩) := hZ1.cell 0; have zb1 : w1.cell? ⟨w.heap.size + 1, 1, none⟩ = some (.slice none 0 0) := hZ1.cell 1; have zc1 : w1.cell? ⟨w.heap.size + 1, 2, none⟩ = some (.bool false) := hZ1.cell 2; have zd1 := hZ1.frozen 0; have ze1 := hZ1.frozen 1; have zf1 := hZ1.frozen 2
  go_wp2
  refine bodyPost_ret (v := .agg #[.string S1, .slice (some ⟨g1, 0, none⟩) n1 cap1, .bool fr]) (by simp [results, Tryz.results102, go_sem, *]) rfl ?_
  exact rv_done (g0 := g0) hR1 ((below2 w _ _).trans (hb1.mono (by first | omega | (rw [size2]; omega) | (show w.heap.size ≤ ((w.alloc _).alloc _).heap.size; rw [size2]; omega)))) (w.heap.size + 1) (by omega) (by omega) (by omega) _ _ _
set_option maxHeartbeats 2000000 in
theorem pl_7_39 (S0 : ByteArray) (g0 n0 cap0 : Nat) (hR0 : Rv w ((7, f) :: r) S0 g0 n0 cap0) (hl : r.length ≤ 99000) :
    Calls Tryz.prog 102 #[.agg #[.string S0, .slice (some ⟨g0, 0, none⟩) n0 cap0, .bool fr], .int .u8 86, .int .u8 39, .int .i64 (p : Int)] w (RvTo w g0 ((4, p) :: ((7, f) :: r)) fr) := by
  have hlt := hR0.lt
  have hx0 := hR0.n
  clear hx0
  go_enter Tryz.func102, Tryz.ntmps102
  go_wp2_with fail
  refine (opens_none _ 39 rfl rfl rfl).mono ?_
  rintro e w9 ⟨rfl, rfl⟩
  go_wp2_with fail
  refine (rv_push _ ((7, f) :: r) S0 g0 n0 cap0 fr 4 p _ rfl (hR0.below (below2 _ _ _)) (by simp; omega) (by simp)).mono ?_
  rintro e w1 ⟨S1, g1, n1, cap1, rfl, hR1, hb1, hg1⟩; have hs1 := hb1.size; rw [size2] at hs1 hg1; have hZ1 := (blk2 w _ #[.string ⟨#[]⟩, .slice none 0 0, .bool false] 117).below hb1; have za1 : w1.cell? ⟨w.heap.size + 1, 0, none⟩ = some (.string ⟨#[]⟩) := hZ1.cell 0; have zb1 : w1.cell? ⟨w.heap.size + 1, 1, none⟩ = some (.slice none 0 0) := hZ1.cell 1; have zc1 : w1.cell? ⟨w.heap.size + 1, 2, none⟩ = some (.bool false) := hZ1.cell 2; have zd1 := hZ1.frozen 0; have ze1 := hZ1.frozen 1; have zf1 := hZ1.frozen 2
  go_wp2
  refine bodyPost_ret (v := .agg #[.string S1, .slice (some ⟨g1, 0, none⟩) n1 cap1, .bool fr]) (by simp [results, Tryz.results102, go_sem, *]) rfl ?_
  exact rv_done (g0 := g0) hR1 ((below2 w _ _).trans (hb1.mono (by first | omega | (rw [size2]; omega) | (show w.heap.size ≤ ((w.alloc _).alloc _).heap.size; rw [size2]; omega)))) (w.heap.size + 1) (by omega) (by omega) (by omega) _ _ _
set_option maxHeartbeats 2000000 in
theorem pl_8_39 (S0 : ByteArray) (g0 n0 cap0 : Nat) (hR0 : Rv w ((8, f) :: r) S0 g0 n0 cap0) (hl : r.length ≤ 99000) :
    Calls Tryz.prog 102 #[.agg #[.string S0, .slice (some ⟨g0, 0, none⟩) n0 cap0, .bool fr], .int .u8 73, .int .u8 39, .int .i64 (p : Int)] w (RvTo w g0 ((8, f) :: r) fr) := by
  have hlt := hR0.lt
  have hx0 := hR0.n
  clear hx0
  go_enter Tryz.func102, Tryz.ntmps102
  go_wp2_with fail
  refine (opens_none _ 39 rfl rfl rfl).mono ?_
  rintro e w9 ⟨rfl, rfl⟩
  go_wp2
  refine bodyPost_ret (v := .agg #[.string S0, .slice (some ⟨g0, 0, none⟩) n0 cap0, .bool fr]) (by simp [results, Tryz.results102, go_sem, *]) rfl ?_
  exact ⟨S0, g0, n0, cap0, rfl, hR0.below (below2 _ _ _), below2 _ _ _, .inl rfl⟩
set_option maxHeartbeats 2000000 in
theorem pl_7_x (S0 : ByteArray) (g0 n0 cap0 : Nat) (hR0 : Rv w ((7, f) :: r) S0 g0 n0 cap0) (hl : r.length ≤ 99000) (t0 : ((b : Int) == 92) = false) (t1 : ((b : Int) == 36) = false) (t2 : ((b : Int) == 96) = false) (t3 : ((b : Int) == 34) = false) (t4 : ((b : Int) == 125) = false) (t5 : ((b : Int) == 39) = false) :
    Calls Tryz.prog 102 #[.agg #[.string S0, .slice (some ⟨g0, 0, none⟩) n0 cap0, .bool fr], .int .u8 86, .int .u8 b, .int .i64 (p : Int)] w (RvTo w g0 ((7, f) :: r) fr) := by
  have hlt := hR0.lt
  have hx0 := hR0.n
  clear hx0
  go_enter Tryz.func102, Tryz.ntmps102
  go_wp2_with fail
  refine (opens_none _ b t0 t1 t2).mono ?_
  rintro e w9 ⟨rfl, rfl⟩
  go_wp2
  refine bodyPost_ret (v := .agg #[.string S0, .slice (some ⟨g0, 0, none⟩) n0 cap0, .bool fr]) (by simp [results, Tryz.results102, go_sem, *]) rfl ?_
  exact ⟨S0, g0, n0, cap0, rfl, hR0.below (below2 _ _ _), below2 _ _ _, .inl rfl⟩
set_option maxHeartbeats 2000000 in
theorem pl_8_x (S0 : ByteArray) (g0 n0 cap0 : Nat) (hR0 : Rv w ((8, f) :: r) S0 g0 n0 cap0) (hl : r.length ≤ 99000) (t0 : ((b : Int) == 92) = false) (t1 : ((b : Int) == 36) = false) (t2 : ((b : Int) == 96) = false) (t3 : ((b : Int) == 34) = false) (t4 : ((b : Int) == 125) = false) (t5 : ((b : Int) == 39) = false) :
    Calls Tryz.prog 102 #[.agg #[.string S0, .slice (some ⟨g0, 0, none⟩) n0 cap0, .bool fr], .int .u8 73, .int .u8 b, .int .i64 (p : Int)] w (RvTo w g0 ((8, f) :: r) fr) := by
  have hlt := hR0.lt
  have hx0 := hR0.n
  clear hx0
  go_enter Tryz.func102, Tryz.ntmps102
  go_wp2_with fail
  refine (opens_none _ b t0 t1 t2).mono ?_
  rintro e w9 ⟨rfl, rfl⟩
  go_wp2
  refine bodyPost_ret (v := .agg #[.string S0, .slice (some ⟨g0, 0, none⟩) n0 cap0, .bool fr]) (by simp [results, Tryz.results102, go_sem, *]) rfl ?_
  exact ⟨S0, g0, n0, cap0, rfl, hR0.below (below2 _ _ _), below2 _ _ _, .inl rfl⟩
end
end Go.Proofs.YtgfkbfojeohlkaaGreatDoor

/- What Step of the document's own machine returns: a byte has come. Condition: stacks of at most 99,000 frames that texts lead to; a byte. -/
import Derived.Test.YtgfkbfojeohlkaaGreatDoorMdN
import Derived.Test.YtgfkbfojeohlkaaGreatDoorMdW
namespace Go.Proofs.YtgfkbfojeohlkaaGreatDoor
open Go.RowKit
set_option linter.unusedVariables false

section
variable (w : World) (b f p : Nat) (r : List Fr) (S0 : ByteArray) (g0 n0 cap0 : Nat) (fr : Bool)
theorem rv_by {w : World} {m f : Nat} {r : List Fr} {S : ByteArray} {g n cap : Nat} (h : Rv w ((m, f) :: r) S g n cap) {k : Nat} (he : k = r.length) (hk : k < S.size) : (S[k].toNat : Int) = (((ltB m).toNat : Nat) : Int) := by rw [← bt_eq hk, he, h.top]
theorem rv_by2 {w : World} {m f m2 f2 : Nat} {r : List Fr} {S : ByteArray} {g n cap : Nat} (h : Rv w ((m, f) :: (m2, f2) :: r) S g n cap) {k : Nat} (he : k = r.length) (hk : k < S.size) : (S[k].toNat : Int) = (((ltB m2).toNat : Nat) : Int) := by rw [← bt_eq hk, he, h.next]
set_option maxHeartbeats 2000000 in
theorem stp_0 (hR0 : Rv w ((0, f) :: r) S0 g0 n0 cap0) (hl : r.length ≤ 90000) :
    Calls Tryz.prog 79 #[.agg #[.string S0, .slice (some ⟨g0, 0, none⟩) n0 cap0, .bool fr], .int .u8 b, .int .i64 (p : Int)] w (RvTo w g0 (plainF ((0, f) :: r) fr b p).st (plainF ((0, f) :: r) fr b p).fresh) := by
  obtain ⟨X, hX⟩ : ∃ X, plainF ((0, f) :: r) fr b p = X := ⟨_, rfl⟩
  have hcall := fun W (h : Below w.heap.size w W) => pla_0 W b f p r S0 g0 n0 cap0 fr (hR0.below h) (by omega)
  rw [hX] at hcall ⊢
  obtain ⟨sX, fX⟩ := X
  clear hX
  have hlt := hR0.lt
  have hsz := hR0.size
  obtain ⟨k, hk⟩ : ∃ k, k = r.length := ⟨_, rfl⟩
  have hks : k < S0.size := by rw [hk, hsz]; exact Nat.lt_succ_self _
  have hby := rv_by hR0 hk hks
  rw [show (((ltB 0).toNat : Nat) : Int) = 84 by decide] at hby
  have hszk : S0.size = k + 1 := by rw [hk, hsz]; rfl
  have hk9 : k ≤ 90001 := by rw [hk]; first | omega | (simp only [List.length_cons]; omega)
  have e1 : IntKind.i64.wrap ((S0.size : Int) - 1) = (k : Int) := by rw [IntWalk.i64_in _ (by omega)]; omega
  have hks2 : (k : Int) < S0.size := by omega
  have q0 : (0 : Int) ≤ (k : Int) := by omega
  have HZ := Lib.hid hszk
  have HK := Lib.hid hk
  clear hsz hk hszk hk9
  go_enter Tryz.func79, Tryz.ntmps79
  go_wp2_with fail
  refine (hcall _ (below2 _ _ _)).mono ?_
  rintro e w1 ⟨S1, g1, n1, cap1, rfl, hR1, hb1, hg1⟩
  have hs1 := hb1.size
  rw [size2] at hs1 hg1
  have hZ1 := (blk2 w _ #[.string ⟨#[]⟩, .slice none 0 0, .bool false] 117).below hb1
  have za1 : w1.cell? ⟨w.heap.size + 1, 0, none⟩ = some (.string ⟨#[]⟩) := hZ1.cell 0
  have zb1 : w1.cell? ⟨w.heap.size + 1, 1, none⟩ = some (.slice none 0 0) := hZ1.cell 1
  have zc1 : w1.cell? ⟨w.heap.size + 1, 2, none⟩ = some (.bool false) := hZ1.cell 2
  have zd1 := hZ1.frozen 0
  have ze1 := hZ1.frozen 1
  have zf1 := hZ1.frozen 2
  go_wp2
  refine bodyPost_ret (v := .agg #[.string S1, .slice (some ⟨g1, 0, none⟩) n1 cap1, .bool fX]) (by simp [results, Tryz.results79, go_sem, *]) rfl ?_
  exact rv_done (g0 := g0) hR1 ((below2 w _ _).trans (hb1.mono (by first | omega | (rw [size2]; omega)))) (w.heap.size + 1) (by omega) (by omega) (by omega) _ _ _
set_option maxHeartbeats 2000000 in
theorem stp_1 (hR0 : Rv w ((1, f) :: r) S0 g0 n0 cap0) (hl : r.length ≤ 90000) :
    Calls Tryz.prog 79 #[.agg #[.string S0, .slice (some ⟨g0, 0, none⟩) n0 cap0, .bool fr], .int .u8 b, .int .i64 (p : Int)] w (RvTo w g0 (plainF ((1, f) :: r) fr b p).st (plainF ((1, f) :: r) fr b p).fresh) := by
  obtain ⟨X, hX⟩ : ∃ X, plainF ((1, f) :: r) fr b p = X := ⟨_, rfl⟩
  have hcall := fun W (h : Below w.heap.size w W) => pla_1 W b f p r S0 g0 n0 cap0 fr (hR0.below h) (by omega)
  rw [hX] at hcall ⊢
  obtain ⟨sX, fX⟩ := X
  clear hX
  have hlt := hR0.lt
  have hsz := hR0.size
  obtain ⟨k, hk⟩ : ∃ k, k = r.length := ⟨_, rfl⟩
  have hks : k < S0.size := by rw [hk, hsz]; exact Nat.lt_succ_self _
  have hby := rv_by hR0 hk hks
  rw [show (((ltB 1).toNat : Nat) : Int) = 67 by decide] at hby
  have hszk : S0.size = k + 1 := by rw [hk, hsz]; rfl
  have hk9 : k ≤ 90001 := by rw [hk]; first | omega | (simp only [List.length_cons]; omega)
  have e1 : IntKind.i64.wrap ((S0.size : Int) - 1) = (k : Int) := by rw [IntWalk.i64_in _ (by omega)]; omega
  have hks2 : (k : Int) < S0.size := by omega
  have q0 : (0 : Int) ≤ (k : Int) := by omega
  have HZ := Lib.hid hszk
  have HK := Lib.hid hk
  clear hsz hk hszk hk9
  go_enter Tryz.func79, Tryz.ntmps79
  go_wp2_with fail
  refine (hcall _ (below2 _ _ _)).mono ?_
  rintro e w1 ⟨S1, g1, n1, cap1, rfl, hR1, hb1, hg1⟩
  have hs1 := hb1.size
  rw [size2] at hs1 hg1
  have hZ1 := (blk2 w _ #[.string ⟨#[]⟩, .slice none 0 0, .bool false] 117).below hb1
  have za1 : w1.cell? ⟨w.heap.size + 1, 0, none⟩ = some (.string ⟨#[]⟩) := hZ1.cell 0
  have zb1 : w1.cell? ⟨w.heap.size + 1, 1, none⟩ = some (.slice none 0 0) := hZ1.cell 1
  have zc1 : w1.cell? ⟨w.heap.size + 1, 2, none⟩ = some (.bool false) := hZ1.cell 2
  have zd1 := hZ1.frozen 0
  have ze1 := hZ1.frozen 1
  have zf1 := hZ1.frozen 2
  go_wp2
  refine bodyPost_ret (v := .agg #[.string S1, .slice (some ⟨g1, 0, none⟩) n1 cap1, .bool fX]) (by simp [results, Tryz.results79, go_sem, *]) rfl ?_
  exact rv_done (g0 := g0) hR1 ((below2 w _ _).trans (hb1.mono (by first | omega | (rw [size2]; omega)))) (w.heap.size + 1) (by omega) (by omega) (by omega) _ _ _
set_option maxHeartbeats 2000000 in
theorem stp_2 (hR0 : Rv w ((2, f) :: r) S0 g0 n0 cap0) (hl : r.length ≤ 90000) :
    Calls Tryz.prog 79 #[.agg #[.string S0, .slice (some ⟨g0, 0, none⟩) n0 cap0, .bool fr], .int .u8 b, .int .i64 (p : Int)] w (RvTo w g0 (plainF ((2, f) :: r) fr b p).st (plainF ((2, f) :: r) fr b p).fresh) := by
  obtain ⟨X, hX⟩ : ∃ X, plainF ((2, f) :: r) fr b p = X := ⟨_, rfl⟩
  have hcall := fun W (h : Below w.heap.size w W) => pla_2 W b f p r S0 g0 n0 cap0 fr (hR0.below h) (by omega)
  rw [hX] at hcall ⊢
  obtain ⟨sX, fX⟩ := X
  clear hX
  have hlt := hR0.lt
  have hsz := hR0.size
  obtain ⟨k, hk⟩ : ∃ k, k = r.length := ⟨_, rfl⟩
  have hks : k < S0.size := by rw [hk, hsz]; exact Nat.lt_succ_self _
  have hby := rv_by hR0 hk hks
  rw [show (((ltB 2).toNat : Nat) : Int) = 80 by decide] at hby
  have hszk : S0.size = k + 1 := by rw [hk, hsz]; rfl
  have hk9 : k ≤ 90001 := by rw [hk]; first | omega | (simp only [List.length_cons]; omega)
  have e1 : IntKind.i64.wrap ((S0.size : Int) - 1) = (k : Int) := by rw [IntWalk.i64_in _ (by omega)]; omega
  have hks2 : (k : Int) < S0.size := by omega
  have q0 : (0 : Int) ≤ (k : Int) := by omega
  have HZ := Lib.hid hszk
  have HK := Lib.hid hk
  clear hsz hk hszk hk9
  go_enter Tryz.func79, Tryz.ntmps79
  go_wp2_with fail
  refine (hcall _ (below2 _ _ _)).mono ?_
  rintro e w1 ⟨S1, g1, n1, cap1, rfl, hR1, hb1, hg1⟩
  have hs1 := hb1.size
  rw [size2] at hs1 hg1
  have hZ1 := (blk2 w _ #[.string ⟨#[]⟩, .slice none 0 0, .bool false] 117).below hb1
  have za1 : w1.cell? ⟨w.heap.size + 1, 0, none⟩ = some (.string ⟨#[]⟩) := hZ1.cell 0
  have zb1 : w1.cell? ⟨w.heap.size + 1, 1, none⟩ = some (.slice none 0 0) := hZ1.cell 1
  have zc1 : w1.cell? ⟨w.heap.size + 1, 2, none⟩ = some (.bool false) := hZ1.cell 2
  have zd1 := hZ1.frozen 0
  have ze1 := hZ1.frozen 1
  have zf1 := hZ1.frozen 2
  go_wp2
  refine bodyPost_ret (v := .agg #[.string S1, .slice (some ⟨g1, 0, none⟩) n1 cap1, .bool fX]) (by simp [results, Tryz.results79, go_sem, *]) rfl ?_
  exact rv_done (g0 := g0) hR1 ((below2 w _ _).trans (hb1.mono (by first | omega | (rw [size2]; omega)))) (w.heap.size + 1) (by omega) (by omega) (by omega) _ _ _
set_option maxHeartbeats 2000000 in
theorem stp_4 (hR0 : Rv w ((4, f) :: r) S0 g0 n0 cap0) (hl : r.length ≤ 90000) :
    Calls Tryz.prog 79 #[.agg #[.string S0, .slice (some ⟨g0, 0, none⟩) n0 cap0, .bool fr], .int .u8 b, .int .i64 (p : Int)] w (RvTo w g0 (plainF ((4, f) :: r) fr b p).st (plainF ((4, f) :: r) fr b p).fresh) := by
  obtain ⟨X, hX⟩ : ∃ X, plainF ((4, f) :: r) fr b p = X := ⟨_, rfl⟩
  have hcall := fun W (h : Below w.heap.size w W) => pla_4 W b f p r S0 g0 n0 cap0 fr (hR0.below h) (by omega)
  rw [hX] at hcall ⊢
  obtain ⟨sX, fX⟩ := X
  clear hX
  have hlt := hR0.lt
  have hsz := hR0.size
  obtain ⟨k, hk⟩ : ∃ k, k = r.length := ⟨_, rfl⟩
  have hks : k < S0.size := by rw [hk, hsz]; exact Nat.lt_succ_self _
  have hby := rv_by hR0 hk hks
  rw [show (((ltB 4).toNat : Nat) : Int) = 83 by decide] at hby
  have hszk : S0.size = k + 1 := by rw [hk, hsz]; rfl
  have hk9 : k ≤ 90001 := by rw [hk]; first | omega | (simp only [List.length_cons]; omega)
  have e1 : IntKind.i64.wrap ((S0.size : Int) - 1) = (k : Int) := by rw [IntWalk.i64_in _ (by omega)]; omega
  have hks2 : (k : Int) < S0.size := by omega
  have q0 : (0 : Int) ≤ (k : Int) := by omega
  have HZ := Lib.hid hszk
  have HK := Lib.hid hk
  clear hsz hk hszk hk9
  go_enter Tryz.func79, Tryz.ntmps79
  go_wp2_with fail
  refine (hcall _ (below2 _ _ _)).mono ?_
  rintro e w1 ⟨S1, g1, n1, cap1, rfl, hR1, hb1, hg1⟩
  have hs1 := hb1.size
  rw [size2] at hs1 hg1
  have hZ1 := (blk2 w _ #[.string ⟨#[]⟩, .slice none 0 0, .bool false] 117).below hb1
  have za1 : w1.cell? ⟨w.heap.size + 1, 0, none⟩ = some (.string ⟨#[]⟩) := hZ1.cell 0
  have zb1 : w1.cell? ⟨w.heap.size + 1, 1, none⟩ = some (.slice none 0 0) := hZ1.cell 1
  have zc1 : w1.cell? ⟨w.heap.size + 1, 2, none⟩ = some (.bool false) := hZ1.cell 2
  have zd1 := hZ1.frozen 0
  have ze1 := hZ1.frozen 1
  have zf1 := hZ1.frozen 2
  go_wp2
  refine bodyPost_ret (v := .agg #[.string S1, .slice (some ⟨g1, 0, none⟩) n1 cap1, .bool fX]) (by simp [results, Tryz.results79, go_sem, *]) rfl ?_
  exact rv_done (g0 := g0) hR1 ((below2 w _ _).trans (hb1.mono (by first | omega | (rw [size2]; omega)))) (w.heap.size + 1) (by omega) (by omega) (by omega) _ _ _
set_option maxHeartbeats 2000000 in
theorem stp_5 (hR0 : Rv w ((5, f) :: r) S0 g0 n0 cap0) (hl : r.length ≤ 90000) :
    Calls Tryz.prog 79 #[.agg #[.string S0, .slice (some ⟨g0, 0, none⟩) n0 cap0, .bool fr], .int .u8 b, .int .i64 (p : Int)] w (RvTo w g0 (plainF ((5, f) :: r) fr b p).st (plainF ((5, f) :: r) fr b p).fresh) := by
  obtain ⟨X, hX⟩ : ∃ X, plainF ((5, f) :: r) fr b p = X := ⟨_, rfl⟩
  have hcall := fun W (h : Below w.heap.size w W) => pla_5 W b f p r S0 g0 n0 cap0 fr (hR0.below h) (by omega)
  rw [hX] at hcall ⊢
  obtain ⟨sX, fX⟩ := X
  clear hX
  have hlt := hR0.lt
  have hsz := hR0.size
  obtain ⟨k, hk⟩ : ∃ k, k = r.length := ⟨_, rfl⟩
  have hks : k < S0.size := by rw [hk, hsz]; exact Nat.lt_succ_self _
  have hby := rv_by hR0 hk hks
  rw [show (((ltB 5).toNat : Nat) : Int) = 68 by decide] at hby
  have hszk : S0.size = k + 1 := by rw [hk, hsz]; rfl
  have hk9 : k ≤ 90001 := by rw [hk]; first | omega | (simp only [List.length_cons]; omega)
  have e1 : IntKind.i64.wrap ((S0.size : Int) - 1) = (k : Int) := by rw [IntWalk.i64_in _ (by omega)]; omega
  have hks2 : (k : Int) < S0.size := by omega
  have q0 : (0 : Int) ≤ (k : Int) := by omega
  have HZ := Lib.hid hszk
  have HK := Lib.hid hk
  clear hsz hk hszk hk9
  go_enter Tryz.func79, Tryz.ntmps79
  go_wp2_with fail
  refine (hcall _ (below2 _ _ _)).mono ?_
  rintro e w1 ⟨S1, g1, n1, cap1, rfl, hR1, hb1, hg1⟩
  have hs1 := hb1.size
  rw [size2] at hs1 hg1
  have hZ1 := (blk2 w _ #[.string ⟨#[]⟩, .slice none 0 0, .bool false] 117).below hb1
  have za1 : w1.cell? ⟨w.heap.size + 1, 0, none⟩ = some (.string ⟨#[]⟩) := hZ1.cell 0
  have zb1 : w1.cell? ⟨w.heap.size + 1, 1, none⟩ = some (.slice none 0 0) := hZ1.cell 1
  have zc1 : w1.cell? ⟨w.heap.size + 1, 2, none⟩ = some (.bool false) := hZ1.cell 2
  have zd1 := hZ1.frozen 0
  have ze1 := hZ1.frozen 1
  have zf1 := hZ1.frozen 2
  go_wp2
  refine bodyPost_ret (v := .agg #[.string S1, .slice (some ⟨g1, 0, none⟩) n1 cap1, .bool fX]) (by simp [results, Tryz.results79, go_sem, *]) rfl ?_
  exact rv_done (g0 := g0) hR1 ((below2 w _ _).trans (hb1.mono (by first | omega | (rw [size2]; omega)))) (w.heap.size + 1) (by omega) (by omega) (by omega) _ _ _
set_option maxHeartbeats 2000000 in
theorem stp_6 (hR0 : Rv w ((6, f) :: r) S0 g0 n0 cap0) (hl : r.length ≤ 90000) :
    Calls Tryz.prog 79 #[.agg #[.string S0, .slice (some ⟨g0, 0, none⟩) n0 cap0, .bool fr], .int .u8 b, .int .i64 (p : Int)] w (RvTo w g0 (plainF ((6, f) :: r) fr b p).st (plainF ((6, f) :: r) fr b p).fresh) := by
  obtain ⟨X, hX⟩ : ∃ X, plainF ((6, f) :: r) fr b p = X := ⟨_, rfl⟩
  have hcall := fun W (h : Below w.heap.size w W) => pla_6 W b f p r S0 g0 n0 cap0 fr (hR0.below h) (by omega)
  rw [hX] at hcall ⊢
  obtain ⟨sX, fX⟩ := X
  clear hX
  have hlt := hR0.lt
  have hsz := hR0.size
  obtain ⟨k, hk⟩ : ∃ k, k = r.length := ⟨_, rfl⟩
  have hks : k < S0.size := by rw [hk, hsz]; exact Nat.lt_succ_self _
  have hby := rv_by hR0 hk hks
  rw [show (((ltB 6).toNat : Nat) : Int) = 66 by decide] at hby
  have hszk : S0.size = k + 1 := by rw [hk, hsz]; rfl
  have hk9 : k ≤ 90001 := by rw [hk]; first | omega | (simp only [List.length_cons]; omega)
  have e1 : IntKind.i64.wrap ((S0.size : Int) - 1) = (k : Int) := by rw [IntWalk.i64_in _ (by omega)]; omega
  have hks2 : (k : Int) < S0.size := by omega
  have q0 : (0 : Int) ≤ (k : Int) := by omega
  have HZ := Lib.hid hszk
  have HK := Lib.hid hk
  clear hsz hk hszk hk9
  go_enter Tryz.func79, Tryz.ntmps79
  go_wp2_with fail
  refine (hcall _ (below2 _ _ _)).mono ?_
  rintro e w1 ⟨S1, g1, n1, cap1, rfl, hR1, hb1, hg1⟩
  have hs1 := hb1.size
  rw [size2] at hs1 hg1
  have hZ1 := (blk2 w _ #[.string ⟨#[]⟩, .slice none 0 0, .bool false] 117).below hb1
  have za1 : w1.cell? ⟨w.heap.size + 1, 0, none⟩ = some (.string ⟨#[]⟩) := hZ1.cell 0
  have zb1 : w1.cell? ⟨w.heap.size + 1, 1, none⟩ = some (.slice none 0 0) := hZ1.cell 1
  have zc1 : w1.cell? ⟨w.heap.size + 1, 2, none⟩ = some (.bool false) := hZ1.cell 2
  have zd1 := hZ1.frozen 0
  have ze1 := hZ1.frozen 1
  have zf1 := hZ1.frozen 2
  go_wp2
  refine bodyPost_ret (v := .agg #[.string S1, .slice (some ⟨g1, 0, none⟩) n1 cap1, .bool fX]) (by simp [results, Tryz.results79, go_sem, *]) rfl ?_
  exact rv_done (g0 := g0) hR1 ((below2 w _ _).trans (hb1.mono (by first | omega | (rw [size2]; omega)))) (w.heap.size + 1) (by omega) (by omega) (by omega) _ _ _
set_option maxHeartbeats 2000000 in
theorem stp_7 (hR0 : Rv w ((7, f) :: r) S0 g0 n0 cap0) (hl : r.length ≤ 90000) :
    Calls Tryz.prog 79 #[.agg #[.string S0, .slice (some ⟨g0, 0, none⟩) n0 cap0, .bool fr], .int .u8 b, .int .i64 (p : Int)] w (RvTo w g0 (plainF ((7, f) :: r) fr b p).st (plainF ((7, f) :: r) fr b p).fresh) := by
  obtain ⟨X, hX⟩ : ∃ X, plainF ((7, f) :: r) fr b p = X := ⟨_, rfl⟩
  have hcall := fun W (h : Below w.heap.size w W) => pla_7 W b f p r S0 g0 n0 cap0 fr (hR0.below h) (by omega)
  rw [hX] at hcall ⊢
  obtain ⟨sX, fX⟩ := X
  clear hX
  have hlt := hR0.lt
  have hsz := hR0.size
  obtain ⟨k, hk⟩ : ∃ k, k = r.length := ⟨_, rfl⟩
  have hks : k < S0.size := by rw [hk, hsz]; exact Nat.lt_succ_self _
  have hby := rv_by hR0 hk hks
  rw [show (((ltB 7).toNat : Nat) : Int) = 86 by decide] at hby
  have hszk : S0.size = k + 1 := by rw [hk, hsz]; rfl
  have hk9 : k ≤ 90001 := by rw [hk]; first | omega | (simp only [List.length_cons]; omega)
  have e1 : IntKind.i64.wrap ((S0.size : Int) - 1) = (k : Int) := by rw [IntWalk.i64_in _ (by omega)]; omega
  have hks2 : (k : Int) < S0.size := by omega
  have q0 : (0 : Int) ≤ (k : Int) := by omega
  have HZ := Lib.hid hszk
  have HK := Lib.hid hk
  clear hsz hk hszk hk9
  go_enter Tryz.func79, Tryz.ntmps79
  go_wp2_with fail
  refine (hcall _ (below2 _ _ _)).mono ?_
  rintro e w1 ⟨S1, g1, n1, cap1, rfl, hR1, hb1, hg1⟩
  have hs1 := hb1.size
  rw [size2] at hs1 hg1
  have hZ1 := (blk2 w _ #[.string ⟨#[]⟩, .slice none 0 0, .bool false] 117).below hb1
  have za1 : w1.cell? ⟨w.heap.size + 1, 0, none⟩ = some (.string ⟨#[]⟩) := hZ1.cell 0
  have zb1 : w1.cell? ⟨w.heap.size + 1, 1, none⟩ = some (.slice none 0 0) := hZ1.cell 1
  have zc1 : w1.cell? ⟨w.heap.size + 1, 2, none⟩ = some (.bool false) := hZ1.cell 2
  have zd1 := hZ1.frozen 0
  have ze1 := hZ1.frozen 1
  have zf1 := hZ1.frozen 2
  go_wp2
  refine bodyPost_ret (v := .agg #[.string S1, .slice (some ⟨g1, 0, none⟩) n1 cap1, .bool fX]) (by simp [results, Tryz.results79, go_sem, *]) rfl ?_
  exact rv_done (g0 := g0) hR1 ((below2 w _ _).trans (hb1.mono (by first | omega | (rw [size2]; omega)))) (w.heap.size + 1) (by omega) (by omega) (by omega) _ _ _
set_option maxHeartbeats 2000000 in
theorem stp_8 (hR0 : Rv w ((8, f) :: r) S0 g0 n0 cap0) (hl : r.length ≤ 90000) :
    Calls Tryz.prog 79 #[.agg #[.string S0, .slice (some ⟨g0, 0, none⟩) n0 cap0, .bool fr], .int .u8 b, .int .i64 (p : Int)] w (RvTo w g0 (plainF ((8, f) :: r) fr b p).st (plainF ((8, f) :: r) fr b p).fresh) := by
  obtain ⟨X, hX⟩ : ∃ X, plainF ((8, f) :: r) fr b p = X := ⟨_, rfl⟩
  have hcall := fun W (h : Below w.heap.size w W) => pla_8 W b f p r S0 g0 n0 cap0 fr (hR0.below h) (by omega)
  rw [hX] at hcall ⊢
  obtain ⟨sX, fX⟩ := X
  clear hX
  have hlt := hR0.lt
  have hsz := hR0.size
  obtain ⟨k, hk⟩ : ∃ k, k = r.length := ⟨_, rfl⟩
  have hks : k < S0.size := by rw [hk, hsz]; exact Nat.lt_succ_self _
  have hby := rv_by hR0 hk hks
  rw [show (((ltB 8).toNat : Nat) : Int) = 73 by decide] at hby
  have hszk : S0.size = k + 1 := by rw [hk, hsz]; rfl
  have hk9 : k ≤ 90001 := by rw [hk]; first | omega | (simp only [List.length_cons]; omega)
  have e1 : IntKind.i64.wrap ((S0.size : Int) - 1) = (k : Int) := by rw [IntWalk.i64_in _ (by omega)]; omega
  have hks2 : (k : Int) < S0.size := by omega
  have q0 : (0 : Int) ≤ (k : Int) := by omega
  have HZ := Lib.hid hszk
  have HK := Lib.hid hk
  clear hsz hk hszk hk9
  go_enter Tryz.func79, Tryz.ntmps79
  go_wp2_with fail
  refine (hcall _ (below2 _ _ _)).mono ?_
  rintro e w1 ⟨S1, g1, n1, cap1, rfl, hR1, hb1, hg1⟩
  have hs1 := hb1.size
  rw [size2] at hs1 hg1
  have hZ1 := (blk2 w _ #[.string ⟨#[]⟩, .slice none 0 0, .bool false] 117).below hb1
  have za1 : w1.cell? ⟨w.heap.size + 1, 0, none⟩ = some (.string ⟨#[]⟩) := hZ1.cell 0
  have zb1 : w1.cell? ⟨w.heap.size + 1, 1, none⟩ = some (.slice none 0 0) := hZ1.cell 1
  have zc1 : w1.cell? ⟨w.heap.size + 1, 2, none⟩ = some (.bool false) := hZ1.cell 2
  have zd1 := hZ1.frozen 0
  have ze1 := hZ1.frozen 1
  have zf1 := hZ1.frozen 2
  go_wp2
  refine bodyPost_ret (v := .agg #[.string S1, .slice (some ⟨g1, 0, none⟩) n1 cap1, .bool fX]) (by simp [results, Tryz.results79, go_sem, *]) rfl ?_
  exact rv_done (g0 := g0) hR1 ((below2 w _ _).trans (hb1.mono (by first | omega | (rw [size2]; omega)))) (w.heap.size + 1) (by omega) (by omega) (by omega) _ _ _
set_option maxHeartbeats 2000000 in
theorem stp_9 (hR0 : Rv w ((9, f) :: r) S0 g0 n0 cap0) (hl : r.length ≤ 90000) :
    Calls Tryz.prog 79 #[.agg #[.string S0, .slice (some ⟨g0, 0, none⟩) n0 cap0, .bool fr], .int .u8 b, .int .i64 (p : Int)] w (RvTo w g0 (plainF ((9, f) :: r) fr b p).st (plainF ((9, f) :: r) fr b p).fresh) := by
  obtain ⟨X, hX⟩ : ∃ X, plainF ((9, f) :: r) fr b p = X := ⟨_, rfl⟩
  have hcall := fun W (h : Below w.heap.size w W) => pla_9 W b f p r S0 g0 n0 cap0 fr (hR0.below h) (by omega)
  rw [hX] at hcall ⊢
  obtain ⟨sX, fX⟩ := X
  clear hX
  have hlt := hR0.lt
  have hsz := hR0.size
  obtain ⟨k, hk⟩ : ∃ k, k = r.length := ⟨_, rfl⟩
  have hks : k < S0.size := by rw [hk, hsz]; exact Nat.lt_succ_self _
  have hby := rv_by hR0 hk hks
  rw [show (((ltB 9).toNat : Nat) : Int) = 65 by decide] at hby
  have hszk : S0.size = k + 1 := by rw [hk, hsz]; rfl
  have hk9 : k ≤ 90001 := by rw [hk]; first | omega | (simp only [List.length_cons]; omega)
  have e1 : IntKind.i64.wrap ((S0.size : Int) - 1) = (k : Int) := by rw [IntWalk.i64_in _ (by omega)]; omega
  have hks2 : (k : Int) < S0.size := by omega
  have q0 : (0 : Int) ≤ (k : Int) := by omega
  have HZ := Lib.hid hszk
  have HK := Lib.hid hk
  clear hsz hk hszk hk9
  go_enter Tryz.func79, Tryz.ntmps79
  go_wp2_with fail
  refine (hcall _ (below2 _ _ _)).mono ?_
  rintro e w1 ⟨S1, g1, n1, cap1, rfl, hR1, hb1, hg1⟩
  have hs1 := hb1.size
  rw [size2] at hs1 hg1
  have hZ1 := (blk2 w _ #[.string ⟨#[]⟩, .slice none 0 0, .bool false] 117).below hb1
  have za1 : w1.cell? ⟨w.heap.size + 1, 0, none⟩ = some (.string ⟨#[]⟩) := hZ1.cell 0
  have zb1 : w1.cell? ⟨w.heap.size + 1, 1, none⟩ = some (.slice none 0 0) := hZ1.cell 1
  have zc1 : w1.cell? ⟨w.heap.size + 1, 2, none⟩ = some (.bool false) := hZ1.cell 2
  have zd1 := hZ1.frozen 0
  have ze1 := hZ1.frozen 1
  have zf1 := hZ1.frozen 2
  go_wp2
  refine bodyPost_ret (v := .agg #[.string S1, .slice (some ⟨g1, 0, none⟩) n1 cap1, .bool fX]) (by simp [results, Tryz.results79, go_sem, *]) rfl ?_
  exact rv_done (g0 := g0) hR1 ((below2 w _ _).trans (hb1.mono (by first | omega | (rw [size2]; omega)))) (w.heap.size + 1) (by omega) (by omega) (by omega) _ _ _
set_option maxHeartbeats 2000000 in
theorem stp_10 (hR0 : Rv w ((10, f) :: r) S0 g0 n0 cap0) (hl : r.length ≤ 90000) :
    Calls Tryz.prog 79 #[.agg #[.string S0, .slice (some ⟨g0, 0, none⟩) n0 cap0, .bool fr], .int .u8 b, .int .i64 (p : Int)] w (RvTo w g0 (plainF ((10, f) :: r) fr b p).st (plainF ((10, f) :: r) fr b p).fresh) := by
  obtain ⟨X, hX⟩ : ∃ X, plainF ((10, f) :: r) fr b p = X := ⟨_, rfl⟩
  have hcall := fun W (h : Below w.heap.size w W) => pla_10 W b f p r S0 g0 n0 cap0 fr (hR0.below h) (by omega)
  rw [hX] at hcall ⊢
  obtain ⟨sX, fX⟩ := X
  clear hX
  have hlt := hR0.lt
  have hsz := hR0.size
  obtain ⟨k, hk⟩ : ∃ k, k = r.length := ⟨_, rfl⟩
  have hks : k < S0.size := by rw [hk, hsz]; exact Nat.lt_succ_self _
  have hby := rv_by hR0 hk hks
  rw [show (((ltB 10).toNat : Nat) : Int) = 82 by decide] at hby
  have hszk : S0.size = k + 1 := by rw [hk, hsz]; rfl
  have hk9 : k ≤ 90001 := by rw [hk]; first | omega | (simp only [List.length_cons]; omega)
  have e1 : IntKind.i64.wrap ((S0.size : Int) - 1) = (k : Int) := by rw [IntWalk.i64_in _ (by omega)]; omega
  have hks2 : (k : Int) < S0.size := by omega
  have q0 : (0 : Int) ≤ (k : Int) := by omega
  have HZ := Lib.hid hszk
  have HK := Lib.hid hk
  clear hsz hk hszk hk9
  go_enter Tryz.func79, Tryz.ntmps79
  go_wp2_with fail
  refine (hcall _ (below2 _ _ _)).mono ?_
  rintro e w1 ⟨S1, g1, n1, cap1, rfl, hR1, hb1, hg1⟩
  have hs1 := hb1.size
  rw [size2] at hs1 hg1
  have hZ1 := (blk2 w _ #[.string ⟨#[]⟩, .slice none 0 0, .bool false] 117).below hb1
  have za1 : w1.cell? ⟨w.heap.size + 1, 0, none⟩ = some (.string ⟨#[]⟩) := hZ1.cell 0
  have zb1 : w1.cell? ⟨w.heap.size + 1, 1, none⟩ = some (.slice none 0 0) := hZ1.cell 1
  have zc1 : w1.cell? ⟨w.heap.size + 1, 2, none⟩ = some (.bool false) := hZ1.cell 2
  have zd1 := hZ1.frozen 0
  have ze1 := hZ1.frozen 1
  have zf1 := hZ1.frozen 2
  go_wp2
  refine bodyPost_ret (v := .agg #[.string S1, .slice (some ⟨g1, 0, none⟩) n1 cap1, .bool fX]) (by simp [results, Tryz.results79, go_sem, *]) rfl ?_
  exact rv_done (g0 := g0) hR1 ((below2 w _ _).trans (hb1.mono (by first | omega | (rw [size2]; omega)))) (w.heap.size + 1) (by omega) (by omega) (by omega) _ _ _
set_option maxHeartbeats 2000000 in
theorem stp_13 (hR0 : Rv w ((13, f) :: r) S0 g0 n0 cap0) (hl : r.length ≤ 90000) :
    Calls Tryz.prog 79 #[.agg #[.string S0, .slice (some ⟨g0, 0, none⟩) n0 cap0, .bool fr], .int .u8 b, .int .i64 (p : Int)] w (RvTo w g0 (plainF ((13, f) :: r) fr b p).st (plainF ((13, f) :: r) fr b p).fresh) := by
  obtain ⟨X, hX⟩ : ∃ X, plainF ((13, f) :: r) fr b p = X := ⟨_, rfl⟩
  have hcall := fun W (h : Below w.heap.size w W) => pla_13 W b f p r S0 g0 n0 cap0 fr (hR0.below h) (by omega)
  rw [hX] at hcall ⊢
  obtain ⟨sX, fX⟩ := X
  clear hX
  have hlt := hR0.lt
  have hsz := hR0.size
  obtain ⟨k, hk⟩ : ∃ k, k = r.length := ⟨_, rfl⟩
  have hks : k < S0.size := by rw [hk, hsz]; exact Nat.lt_succ_self _
  have hby := rv_by hR0 hk hks
  rw [show (((ltB 13).toNat : Nat) : Int) = 88 by decide] at hby
  have hszk : S0.size = k + 1 := by rw [hk, hsz]; rfl
  have hk9 : k ≤ 90001 := by rw [hk]; first | omega | (simp only [List.length_cons]; omega)
  have e1 : IntKind.i64.wrap ((S0.size : Int) - 1) = (k : Int) := by rw [IntWalk.i64_in _ (by omega)]; omega
  have hks2 : (k : Int) < S0.size := by omega
  have q0 : (0 : Int) ≤ (k : Int) := by omega
  have HZ := Lib.hid hszk
  have HK := Lib.hid hk
  clear hsz hk hszk hk9
  go_enter Tryz.func79, Tryz.ntmps79
  go_wp2_with fail
  refine (hcall _ (below2 _ _ _)).mono ?_
  rintro e w1 ⟨S1, g1, n1, cap1, rfl, hR1, hb1, hg1⟩
  have hs1 := hb1.size
  rw [size2] at hs1 hg1
  have hZ1 := (blk2 w _ #[.string ⟨#[]⟩, .slice none 0 0, .bool false] 117).below hb1
  have za1 : w1.cell? ⟨w.heap.size + 1, 0, none⟩ = some (.string ⟨#[]⟩) := hZ1.cell 0
  have zb1 : w1.cell? ⟨w.heap.size + 1, 1, none⟩ = some (.slice none 0 0) := hZ1.cell 1
  have zc1 : w1.cell? ⟨w.heap.size + 1, 2, none⟩ = some (.bool false) := hZ1.cell 2
  have zd1 := hZ1.frozen 0
  have ze1 := hZ1.frozen 1
  have zf1 := hZ1.frozen 2
  go_wp2
  refine bodyPost_ret (v := .agg #[.string S1, .slice (some ⟨g1, 0, none⟩) n1 cap1, .bool fX]) (by simp [results, Tryz.results79, go_sem, *]) rfl ?_
  exact rv_done (g0 := g0) hR1 ((below2 w _ _).trans (hb1.mono (by first | omega | (rw [size2]; omega)))) (w.heap.size + 1) (by omega) (by omega) (by omega) _ _ _
set_option maxHeartbeats 2000000 in
theorem stp_14 (hR0 : Rv w ((14, f) :: r) S0 g0 n0 cap0) (hl : r.length ≤ 90000) :
    Calls Tryz.prog 79 #[.agg #[.string S0, .slice (some ⟨g0, 0, none⟩) n0 cap0, .bool fr], .int .u8 b, .int .i64 (p : Int)] w (RvTo w g0 (plainF ((14, f) :: r) fr b p).st (plainF ((14, f) :: r) fr b p).fresh) := by
  obtain ⟨X, hX⟩ : ∃ X, plainF ((14, f) :: r) fr b p = X := ⟨_, rfl⟩
  have hcall := fun W (h : Below w.heap.size w W) => pla_14 W b f p r S0 g0 n0 cap0 fr (hR0.below h) (by omega)
  rw [hX] at hcall ⊢
  obtain ⟨sX, fX⟩ := X
  clear hX
  have hlt := hR0.lt
  have hsz := hR0.size
  obtain ⟨k, hk⟩ : ∃ k, k = r.length := ⟨_, rfl⟩
  have hks : k < S0.size := by rw [hk, hsz]; exact Nat.lt_succ_self _
  have hby := rv_by hR0 hk hks
  rw [show (((ltB 14).toNat : Nat) : Int) = 35 by decide] at hby
  have hszk : S0.size = k + 1 := by rw [hk, hsz]; rfl
  have hk9 : k ≤ 90001 := by rw [hk]; first | omega | (simp only [List.length_cons]; omega)
  have e1 : IntKind.i64.wrap ((S0.size : Int) - 1) = (k : Int) := by rw [IntWalk.i64_in _ (by omega)]; omega
  have hks2 : (k : Int) < S0.size := by omega
  have q0 : (0 : Int) ≤ (k : Int) := by omega
  have HZ := Lib.hid hszk
  have HK := Lib.hid hk
  clear hsz hk hszk hk9
  go_enter Tryz.func79, Tryz.ntmps79
  go_wp2_with fail
  refine (hcall _ (below2 _ _ _)).mono ?_
  rintro e w1 ⟨S1, g1, n1, cap1, rfl, hR1, hb1, hg1⟩
  have hs1 := hb1.size
  rw [size2] at hs1 hg1
  have hZ1 := (blk2 w _ #[.string ⟨#[]⟩, .slice none 0 0, .bool false] 117).below hb1
  have za1 : w1.cell? ⟨w.heap.size + 1, 0, none⟩ = some (.string ⟨#[]⟩) := hZ1.cell 0
  have zb1 : w1.cell? ⟨w.heap.size + 1, 1, none⟩ = some (.slice none 0 0) := hZ1.cell 1
  have zc1 : w1.cell? ⟨w.heap.size + 1, 2, none⟩ = some (.bool false) := hZ1.cell 2
  have zd1 := hZ1.frozen 0
  have ze1 := hZ1.frozen 1
  have zf1 := hZ1.frozen 2
  go_wp2
  refine bodyPost_ret (v := .agg #[.string S1, .slice (some ⟨g1, 0, none⟩) n1 cap1, .bool fX]) (by simp [results, Tryz.results79, go_sem, *]) rfl ?_
  exact rv_done (g0 := g0) hR1 ((below2 w _ _).trans (hb1.mono (by first | omega | (rw [size2]; omega)))) (w.heap.size + 1) (by omega) (by omega) (by omega) _ _ _
set_option maxHeartbeats 2000000 in
theorem st_12_40 (hR0 : Rv w ((12, f) :: r) S0 g0 n0 cap0) (hl : r.length ≤ 90000) :
    Calls Tryz.prog 79 #[.agg #[.string S0, .slice (some ⟨g0, 0, none⟩) n0 cap0, .bool fr], .int .u8 40, .int .i64 (p : Int)] w (RvTo w g0 ((3, f) :: r) true) := by
  have hlt := hR0.lt
  have hsz := hR0.size
  obtain ⟨k, hk⟩ : ∃ k, k = r.length := ⟨_, rfl⟩
  have hks : k < S0.size := by rw [hk, hsz]; exact Nat.lt_succ_self _
  have hby := rv_by hR0 hk hks
  rw [show (((ltB 12).toNat : Nat) : Int) = 76 by decide] at hby
  have hszk : S0.size = k + 1 := by rw [hk, hsz]; rfl
  have hk9 : k ≤ 90001 := by rw [hk]; first | omega | (simp only [List.length_cons]; omega)
  have e1 : IntKind.i64.wrap ((S0.size : Int) - 1) = (k : Int) := by rw [IntWalk.i64_in _ (by omega)]; omega
  have hks2 : (k : Int) < S0.size := by omega
  have q0 : (0 : Int) ≤ (k : Int) := by omega
  have HZ := Lib.hid hszk
  have HK := Lib.hid hk
  clear hsz hk hszk hk9
  go_enter Tryz.func79, Tryz.ntmps79
  go_wp2_with fail
  refine (rv_turn _ r S0 g0 n0 cap0 fr 12 f 3 _ rfl (hR0.below (below2 _ _ _)) (by omega)).mono ?_
  rintro e w1 ⟨S1, g1, n1, cap1, rfl, hR1, hb1, hg1⟩
  have hs1 := hb1.size
  rw [size2] at hs1 hg1
  have hZ1 := (blk2 w _ #[.string ⟨#[]⟩, .slice none 0 0, .bool false] 117).below hb1
  have za1 : w1.cell? ⟨w.heap.size + 1, 0, none⟩ = some (.string ⟨#[]⟩) := hZ1.cell 0
  have zb1 : w1.cell? ⟨w.heap.size + 1, 1, none⟩ = some (.slice none 0 0) := hZ1.cell 1
  have zc1 : w1.cell? ⟨w.heap.size + 1, 2, none⟩ = some (.bool false) := hZ1.cell 2
  have zd1 := hZ1.frozen 0
  have ze1 := hZ1.frozen 1
  have zf1 := hZ1.frozen 2
  go_wp2_with fail
  refine (rv_mark _ ((3, f) :: r) S1 g1 n1 cap1 fr true hR1).mono ?_
  rintro e w2 ⟨S2, g2, n2, cap2, rfl, hR2, hb2, hg2⟩
  have hs2 := hb2.size
  have hZ2 := (hZ1).below hb2
  have za2 : w2.cell? ⟨w.heap.size + 1, 0, none⟩ = some (.string ⟨#[]⟩) := hZ2.cell 0
  have zb2 : w2.cell? ⟨w.heap.size + 1, 1, none⟩ = some (.slice none 0 0) := hZ2.cell 1
  have zc2 : w2.cell? ⟨w.heap.size + 1, 2, none⟩ = some (.bool false) := hZ2.cell 2
  have zd2 := hZ2.frozen 0
  have ze2 := hZ2.frozen 1
  have zf2 := hZ2.frozen 2
  go_wp2
  refine bodyPost_ret (v := .agg #[.string S2, .slice (some ⟨g2, 0, none⟩) n2 cap2, .bool true]) (by simp [results, Tryz.results79, go_sem, *]) rfl ?_
  exact rv_done (g0 := g0) hR2 ((((below2 w _ _).trans (hb1.mono (by first | omega | (rw [size2]; omega))))).trans (hb2.mono (by omega))) (w.heap.size + 1) (by omega) (by omega) (by omega) _ _ _
set_option maxHeartbeats 2000000 in
theorem st_12_123_5 (f2 : Nat) (hR0 : Rv w ((12, f) :: (5, f2) :: r) S0 g0 n0 cap0) (hl : r.length ≤ 90000) :
    Calls Tryz.prog 79 #[.agg #[.string S0, .slice (some ⟨g0, 0, none⟩) n0 cap0, .bool fr], .int .u8 123, .int .i64 (p : Int)] w (RvTo w g0 ((8, f) :: (5, f2) :: r) fr) := by
  have hlt := hR0.lt
  have hsz := hR0.size
  obtain ⟨k, hk⟩ : ∃ k, k = ((5, f2) :: r).length := ⟨_, rfl⟩
  have hks : k < S0.size := by rw [hk, hsz]; exact Nat.lt_succ_self _
  have hby := rv_by hR0 hk hks
  rw [show (((ltB 12).toNat : Nat) : Int) = 76 by decide] at hby
  have hszk : S0.size = k + 1 := by rw [hk, hsz]; rfl
  have hk9 : k ≤ 90001 := by rw [hk]; first | omega | (simp only [List.length_cons]; omega)
  have e1 : IntKind.i64.wrap ((S0.size : Int) - 1) = (k : Int) := by rw [IntWalk.i64_in _ (by omega)]; omega
  have hks2 : (k : Int) < S0.size := by omega
  have q0 : (0 : Int) ≤ (k : Int) := by omega
  have HZ := Lib.hid hszk
  have HK := Lib.hid hk
  clear hsz hk hszk hk9
  obtain ⟨j, hj⟩ : ∃ j, j = r.length := ⟨_, rfl⟩
  have hkj : k = j + 1 := by rw [HK.out, hj]; rfl
  have hjs : j < S0.size := by omega
  have hby2 := rv_by2 hR0 hj hjs
  have hjs2 : (j : Int) < S0.size := by omega
  have q2 : (0 : Int) ≤ (j : Int) := by omega
  have e2 : IntKind.i64.wrap ((S0.size : Int) - 2) = (j : Int) := by have := HZ.out; rw [IntWalk.i64_in _ (by omega)]; omega
  rw [show (((ltB 5).toNat : Nat) : Int) = 68 by decide] at hby2
  have HJ := Lib.hid hj
  clear hj hkj
  go_enter Tryz.func79, Tryz.ntmps79
  go_wp2_with fail
  refine (rv_turn _ ((5, f2) :: r) S0 g0 n0 cap0 fr 12 f 8 _ rfl (hR0.below (below2 _ _ _)) (by simp; omega)).mono ?_
  rintro e w1 ⟨S1, g1, n1, cap1, rfl, hR1, hb1, hg1⟩
  have hs1 := hb1.size
  rw [size2] at hs1 hg1
  have hZ1 := (blk2 w _ #[.string ⟨#[]⟩, .slice none 0 0, .bool false] 117).below hb1
  have za1 : w1.cell? ⟨w.heap.size + 1, 0, none⟩ = some (.string ⟨#[]⟩) := hZ1.cell 0
  have zb1 : w1.cell? ⟨w.heap.size + 1, 1, none⟩ = some (.slice none 0 0) := hZ1.cell 1
  have zc1 : w1.cell? ⟨w.heap.size + 1, 2, none⟩ = some (.bool false) := hZ1.cell 2
  have zd1 := hZ1.frozen 0
  have ze1 := hZ1.frozen 1
  have zf1 := hZ1.frozen 2
  go_wp2
  refine bodyPost_ret (v := .agg #[.string S1, .slice (some ⟨g1, 0, none⟩) n1 cap1, .bool fr]) (by simp [results, Tryz.results79, go_sem, *]) rfl ?_
  exact rv_done (g0 := g0) hR1 ((below2 w _ _).trans (hb1.mono (by first | omega | (rw [size2]; omega)))) (w.heap.size + 1) (by omega) (by omega) (by omega) _ _ _
set_option maxHeartbeats 2000000 in
theorem st_12_123_8 (f2 : Nat) (hR0 : Rv w ((12, f) :: (8, f2) :: r) S0 g0 n0 cap0) (hl : r.length ≤ 90000) :
    Calls Tryz.prog 79 #[.agg #[.string S0, .slice (some ⟨g0, 0, none⟩) n0 cap0, .bool fr], .int .u8 123, .int .i64 (p : Int)] w (RvTo w g0 ((8, f) :: (8, f2) :: r) fr) := by
  have hlt := hR0.lt
  have hsz := hR0.size
  obtain ⟨k, hk⟩ : ∃ k, k = ((8, f2) :: r).length := ⟨_, rfl⟩
  have hks : k < S0.size := by rw [hk, hsz]; exact Nat.lt_succ_self _
  have hby := rv_by hR0 hk hks
  rw [show (((ltB 12).toNat : Nat) : Int) = 76 by decide] at hby
  have hszk : S0.size = k + 1 := by rw [hk, hsz]; rfl
  have hk9 : k ≤ 90001 := by rw [hk]; first | omega | (simp only [List.length_cons]; omega)
  have e1 : IntKind.i64.wrap ((S0.size : Int) - 1) = (k : Int) := by rw [IntWalk.i64_in _ (by omega)]; omega
  have hks2 : (k : Int) < S0.size := by omega
  have q0 : (0 : Int) ≤ (k : Int) := by omega
  have HZ := Lib.hid hszk
  have HK := Lib.hid hk
  clear hsz hk hszk hk9
  obtain ⟨j, hj⟩ : ∃ j, j = r.length := ⟨_, rfl⟩
  have hkj : k = j + 1 := by rw [HK.out, hj]; rfl
  have hjs : j < S0.size := by omega
  have hby2 := rv_by2 hR0 hj hjs
  have hjs2 : (j : Int) < S0.size := by omega
  have q2 : (0 : Int) ≤ (j : Int) := by omega
  have e2 : IntKind.i64.wrap ((S0.size : Int) - 2) = (j : Int) := by have := HZ.out; rw [IntWalk.i64_in _ (by omega)]; omega
  rw [show (((ltB 8).toNat : Nat) : Int) = 73 by decide] at hby2
  have HJ := Lib.hid hj
  clear hj hkj
  go_enter Tryz.func79, Tryz.ntmps79
  go_wp2_with fail
  refine (rv_turn _ ((8, f2) :: r) S0 g0 n0 cap0 fr 12 f 8 _ rfl (hR0.below (below2 _ _ _)) (by simp; omega)).mono ?_
  rintro e w1 ⟨S1, g1, n1, cap1, rfl, hR1, hb1, hg1⟩
  have hs1 := hb1.size
  rw [size2] at hs1 hg1
  have hZ1 := (blk2 w _ #[.string ⟨#[]⟩, .slice none 0 0, .bool false] 117).below hb1
  have za1 : w1.cell? ⟨w.heap.size + 1, 0, none⟩ = some (.string ⟨#[]⟩) := hZ1.cell 0
  have zb1 : w1.cell? ⟨w.heap.size + 1, 1, none⟩ = some (.slice none 0 0) := hZ1.cell 1
  have zc1 : w1.cell? ⟨w.heap.size + 1, 2, none⟩ = some (.bool false) := hZ1.cell 2
  have zd1 := hZ1.frozen 0
  have ze1 := hZ1.frozen 1
  have zf1 := hZ1.frozen 2
  go_wp2
  refine bodyPost_ret (v := .agg #[.string S1, .slice (some ⟨g1, 0, none⟩) n1 cap1, .bool fr]) (by simp [results, Tryz.results79, go_sem, *]) rfl ?_
  exact rv_done (g0 := g0) hR1 ((below2 w _ _).trans (hb1.mono (by first | omega | (rw [size2]; omega)))) (w.heap.size + 1) (by omega) (by omega) (by omega) _ _ _
set_option maxHeartbeats 2000000 in
theorem st_12_123_x (f2 : Nat) (m2 : Nat) (t5 : m2 ≠ 5) (t8 : m2 ≠ 8) (hm : m2 ≤ 14) (hR0 : Rv w ((12, f) :: (m2, f2) :: r) S0 g0 n0 cap0) (hl : r.length ≤ 90000) :
    Calls Tryz.prog 79 #[.agg #[.string S0, .slice (some ⟨g0, 0, none⟩) n0 cap0, .bool fr], .int .u8 123, .int .i64 (p : Int)] w (RvTo w g0 ((7, f) :: (m2, f2) :: r) fr) := by
  have hlt := hR0.lt
  have hsz := hR0.size
  obtain ⟨k, hk⟩ : ∃ k, k = ((m2, f2) :: r).length := ⟨_, rfl⟩
  have hks : k < S0.size := by rw [hk, hsz]; exact Nat.lt_succ_self _
  have hby := rv_by hR0 hk hks
  rw [show (((ltB 12).toNat : Nat) : Int) = 76 by decide] at hby
  have hszk : S0.size = k + 1 := by rw [hk, hsz]; rfl
  have hk9 : k ≤ 90001 := by rw [hk]; first | omega | (simp only [List.length_cons]; omega)
  have e1 : IntKind.i64.wrap ((S0.size : Int) - 1) = (k : Int) := by rw [IntWalk.i64_in _ (by omega)]; omega
  have hks2 : (k : Int) < S0.size := by omega
  have q0 : (0 : Int) ≤ (k : Int) := by omega
  have HZ := Lib.hid hszk
  have HK := Lib.hid hk
  clear hsz hk hszk hk9
  obtain ⟨j, hj⟩ : ∃ j, j = r.length := ⟨_, rfl⟩
  have hkj : k = j + 1 := by rw [HK.out, hj]; rfl
  have hjs : j < S0.size := by omega
  have hby2 := rv_by2 hR0 hj hjs
  have hjs2 : (j : Int) < S0.size := by omega
  have q2 : (0 : Int) ≤ (j : Int) := by omega
  have e2 : IntKind.i64.wrap ((S0.size : Int) - 2) = (j : Int) := by have := HZ.out; rw [IntWalk.i64_in _ (by omega)]; omega
  have u5 : ((S0[j].toNat : Int) == 68) = false := by
    rw [hby2]
    have : ∀ m, m ≤ 14 → m ≠ 5 → m ≠ 8 → ((((ltB m).toNat : Nat) : Int) == 68) = false := by
      intro m h1 h2 h3
      have : ∀ m, m < 15 → m ≠ 5 → m ≠ 8 → ((((ltB m).toNat : Nat) : Int) == 68) = false := by decide
      exact this m (by omega) h2 h3
    exact this m2 hm t5 t8
  have u8 : ((S0[j].toNat : Int) == 73) = false := by
    rw [hby2]
    have : ∀ m, m ≤ 14 → m ≠ 5 → m ≠ 8 → ((((ltB m).toNat : Nat) : Int) == 73) = false := by
      intro m h1 h2 h3
      have : ∀ m, m < 15 → m ≠ 5 → m ≠ 8 → ((((ltB m).toNat : Nat) : Int) == 73) = false := by decide
      exact this m (by omega) h2 h3
    exact this m2 hm t5 t8
  clear hby2 t5 t8
  have HJ := Lib.hid hj
  clear hj hkj
  go_enter Tryz.func79, Tryz.ntmps79
  go_wp2_with fail
  refine (rv_turn _ ((m2, f2) :: r) S0 g0 n0 cap0 fr 12 f 7 _ rfl (hR0.below (below2 _ _ _)) (by simp; omega)).mono ?_
  rintro e w1 ⟨S1, g1, n1, cap1, rfl, hR1, hb1, hg1⟩
  have hs1 := hb1.size
  rw [size2] at hs1 hg1
  have hZ1 := (blk2 w _ #[.string ⟨#[]⟩, .slice none 0 0, .bool false] 117).below hb1
  have za1 : w1.cell? ⟨w.heap.size + 1, 0, none⟩ = some (.string ⟨#[]⟩) := hZ1.cell 0
  have zb1 : w1.cell? ⟨w.heap.size + 1, 1, none⟩ = some (.slice none 0 0) := hZ1.cell 1
  have zc1 : w1.cell? ⟨w.heap.size + 1, 2, none⟩ = some (.bool false) := hZ1.cell 2
  have zd1 := hZ1.frozen 0
  have ze1 := hZ1.frozen 1
  have zf1 := hZ1.frozen 2
  go_wp2
  refine bodyPost_ret (v := .agg #[.string S1, .slice (some ⟨g1, 0, none⟩) n1 cap1, .bool fr]) (by simp [results, Tryz.results79, go_sem, *]) rfl ?_
  exact rv_done (g0 := g0) hR1 ((below2 w _ _).trans (hb1.mono (by first | omega | (rw [size2]; omega)))) (w.heap.size + 1) (by omega) (by omega) (by omega) _ _ _
set_option maxHeartbeats 2000000 in
theorem st_12_36 (hR0 : Rv w ((12, f) :: r) S0 g0 n0 cap0) (hl : r.length ≤ 90000) :
    Calls Tryz.prog 79 #[.agg #[.string S0, .slice (some ⟨g0, 0, none⟩) n0 cap0, .bool fr], .int .u8 36, .int .i64 (p : Int)] w (RvTo w g0 r fr) := by
  have hlt := hR0.lt
  have hsz := hR0.size
  obtain ⟨k, hk⟩ : ∃ k, k = r.length := ⟨_, rfl⟩
  have hks : k < S0.size := by rw [hk, hsz]; exact Nat.lt_succ_self _
  have hby := rv_by hR0 hk hks
  rw [show (((ltB 12).toNat : Nat) : Int) = 76 by decide] at hby
  have hszk : S0.size = k + 1 := by rw [hk, hsz]; rfl
  have hk9 : k ≤ 90001 := by rw [hk]; first | omega | (simp only [List.length_cons]; omega)
  have e1 : IntKind.i64.wrap ((S0.size : Int) - 1) = (k : Int) := by rw [IntWalk.i64_in _ (by omega)]; omega
  have hks2 : (k : Int) < S0.size := by omega
  have q0 : (0 : Int) ≤ (k : Int) := by omega
  have HZ := Lib.hid hszk
  have HK := Lib.hid hk
  clear hsz hk hszk hk9
  go_enter Tryz.func79, Tryz.ntmps79
  go_wp2_with fail
  refine (rv_pop _ r S0 g0 n0 cap0 fr 12 f (hR0.below (below2 _ _ _)) (by omega)).mono ?_
  rintro e w1 ⟨S1, g1, n1, cap1, rfl, hR1, hb1, hg1⟩
  have hs1 := hb1.size
  rw [size2] at hs1 hg1
  have hZ1 := (blk2 w _ #[.string ⟨#[]⟩, .slice none 0 0, .bool false] 117).below hb1
  have za1 : w1.cell? ⟨w.heap.size + 1, 0, none⟩ = some (.string ⟨#[]⟩) := hZ1.cell 0
  have zb1 : w1.cell? ⟨w.heap.size + 1, 1, none⟩ = some (.slice none 0 0) := hZ1.cell 1
  have zc1 : w1.cell? ⟨w.heap.size + 1, 2, none⟩ = some (.bool false) := hZ1.cell 2
  have zd1 := hZ1.frozen 0
  have ze1 := hZ1.frozen 1
  have zf1 := hZ1.frozen 2
  have hL1 := ((below2 w _ _).trans (hb1.mono (by first | omega | (rw [size2]; omega))))
  have hY1 := (blk1 w #[.string S0, .slice (some ⟨g0, 0, none⟩) n0 cap0, .bool fr] _ 117).below hb1
  have ya1 := hY1.cell 0
  have yb1 := hY1.cell 1
  have yc1 := hY1.cell 2
  have yd1 := hY1.frozen 0
  have ye1 := hY1.frozen 1
  have yf1 := hY1.frozen 2
  simp at ya1 yb1 yc1
  go_upto_region 10 with fail
  have hU1 := ((hY1.set 0 (.string S1)).set 1 (.slice (some ⟨g1, 0, none⟩) n1 cap1)).set 2 (.bool fr)
  have hV1 := ((hZ1.other 0 (.string S1) (by omega : w.heap.size + 1 ≠ w.heap.size)).other 1 (.slice (some ⟨g1, 0, none⟩) n1 cap1) (by omega : w.heap.size + 1 ≠ w.heap.size)).other 2 (.bool fr) (by omega : w.heap.size + 1 ≠ w.heap.size)
  have hQ1 := hR1.frm (((Frm.put (Frm.refl _ w1) 0 (.string S1)).put 1 (.slice (some ⟨g1, 0, none⟩) n1 cap1)).put 2 (.bool fr)) (show ¬ g1 = w.heap.size by omega)
  have hT1 := ((hL1.setCell (p := ⟨w.heap.size, 0, none⟩) (Nat.le_refl _) (.string S1)).setCell (p := ⟨w.heap.size, 1, none⟩) (Nat.le_refl _) (.slice (some ⟨g1, 0, none⟩) n1 cap1)).setCell (p := ⟨w.heap.size, 2, none⟩) (Nat.le_refl _) (.bool fr)
  have hN1 : (((w1.setCell ⟨w.heap.size, 0, none⟩ (.string S1)).setCell ⟨w.heap.size, 1, none⟩ (.slice (some ⟨g1, 0, none⟩) n1 cap1)).setCell ⟨w.heap.size, 2, none⟩ (.bool fr)).heap.size = w1.heap.size := by simp [World.setCell]
  generalize ((w1.setCell ⟨w.heap.size, 0, none⟩ (.string S1)).setCell ⟨w.heap.size, 1, none⟩ (.slice (some ⟨g1, 0, none⟩) n1 cap1)).setCell ⟨w.heap.size, 2, none⟩ (.bool fr) = v1 at hU1 hV1 hQ1 hT1 hN1 ⊢
  simp at hU1
  clear ya1 yb1 yc1 yd1 ye1 yf1 za1 zb1 zc1 zd1 ze1 zf1
  have ua1 : v1.cell? ⟨w.heap.size, 0, none⟩ = some (.string S1) := hU1.cell 0
  have ub1 : v1.cell? ⟨w.heap.size, 1, none⟩ = some (.slice (some ⟨g1, 0, none⟩) n1 cap1) := hU1.cell 1
  have uc1 : v1.cell? ⟨w.heap.size, 2, none⟩ = some (.bool fr) := hU1.cell 2
  have ud1 := hU1.frozen 0
  have ue1 := hU1.frozen 1
  have uf1 := hU1.frozen 2
  have va1 : v1.cell? ⟨w.heap.size + 1, 0, none⟩ = some (.string ⟨#[]⟩) := hV1.cell 0
  have vb1 : v1.cell? ⟨w.heap.size + 1, 1, none⟩ = some (.slice none 0 0) := hV1.cell 1
  have vc1 : v1.cell? ⟨w.heap.size + 1, 2, none⟩ = some (.bool false) := hV1.cell 2
  have vd1 := hV1.frozen 0
  have ve1 := hV1.frozen 1
  have vf1 := hV1.frozen 2
  go_wp2
  refine bodyPost_ret (v := .agg #[.string S1, .slice (some ⟨g1, 0, none⟩) n1 cap1, .bool fr]) (by simp [results, Tryz.results79, go_sem, *]) rfl ?_
  exact rv_done (g0 := g0) hQ1 hT1 (w.heap.size + 1) (by omega) (by omega) (by omega) _ _ _
set_option maxHeartbeats 4000000 in
theorem st_12_x (m2 f2 : Nat) (hm : m2 ≤ 14 ∧ m2 ≠ 3 ∧ m2 ≠ 11 ∧ m2 ≠ 12) (t40 : ((b : Int) == 40) = false) (t123 : ((b : Int) == 123) = false) (t36 : ((b : Int) == 36) = false) (hR0 : Rv w ((12, f) :: (m2, f2) :: r) S0 g0 n0 cap0) (hl : r.length ≤ 90000) :
    Calls Tryz.prog 79 #[.agg #[.string S0, .slice (some ⟨g0, 0, none⟩) n0 cap0, .bool fr], .int .u8 b, .int .i64 (p : Int)] w (RvTo w g0 (plainF ((m2, f2) :: r) fr b p).st (plainF ((m2, f2) :: r) fr b p).fresh) := by
  obtain ⟨X, hX⟩ : ∃ X, plainF ((m2, f2) :: r) fr b p = X := ⟨_, rfl⟩
  have hcall := fun W S g n cap (h : Rv W ((m2, f2) :: r) S g n cap) => pla_any W b f2 p r S g n cap fr m2 hm h (by omega)
  rw [hX] at hcall ⊢
  obtain ⟨sX, fX⟩ := X
  obtain ⟨lc, hlc⟩ : ∃ lc, (ltB m2).toNat = lc := ⟨_, rfl⟩
  rw [hlc] at hcall
  have HLC := Lib.hid hlc
  have HM := Lib.hid hm
  clear hX hlc hm
  have hlt := hR0.lt
  have hsz := hR0.size
  obtain ⟨k, hk⟩ : ∃ k, k = ((m2, f2) :: r).length := ⟨_, rfl⟩
  have hks : k < S0.size := by rw [hk, hsz]; exact Nat.lt_succ_self _
  have hby := rv_by hR0 hk hks
  rw [show (((ltB 12).toNat : Nat) : Int) = 76 by decide] at hby
  have hszk : S0.size = k + 1 := by rw [hk, hsz]; rfl
  have hk9 : k ≤ 90001 := by rw [hk]; first | omega | (simp only [List.length_cons]; omega)
  have e1 : IntKind.i64.wrap ((S0.size : Int) - 1) = (k : Int) := by rw [IntWalk.i64_in _ (by omega)]; omega
  have hks2 : (k : Int) < S0.size := by omega
  have q0 : (0 : Int) ≤ (k : Int) := by omega
  have HZ := Lib.hid hszk
  have HK := Lib.hid hk
  clear hsz hk hszk hk9
  go_enter Tryz.func79, Tryz.ntmps79
  go_wp2_with fail
  refine (rv_pop _ ((m2, f2) :: r) S0 g0 n0 cap0 fr 12 f (hR0.below (below2 _ _ _)) (by simp; omega)).mono ?_
  rintro e w1 ⟨S1, g1, n1, cap1, rfl, hR1, hb1, hg1⟩
  have hs1 := hb1.size
  rw [size2] at hs1 hg1
  have hZ1 := (blk2 w _ #[.string ⟨#[]⟩, .slice none 0 0, .bool false] 117).below hb1
  have za1 : w1.cell? ⟨w.heap.size + 1, 0, none⟩ = some (.string ⟨#[]⟩) := hZ1.cell 0
  have zb1 : w1.cell? ⟨w.heap.size + 1, 1, none⟩ = some (.slice none 0 0) := hZ1.cell 1
  have zc1 : w1.cell? ⟨w.heap.size + 1, 2, none⟩ = some (.bool false) := hZ1.cell 2
  have zd1 := hZ1.frozen 0
  have ze1 := hZ1.frozen 1
  have zf1 := hZ1.frozen 2
  have hL1 := ((below2 w _ _).trans (hb1.mono (by first | omega | (rw [size2]; omega))))
  have hY1 := (blk1 w #[.string S0, .slice (some ⟨g0, 0, none⟩) n0 cap0, .bool fr] _ 117).below hb1
  have ya1 := hY1.cell 0
  have yb1 := hY1.cell 1
  have yc1 := hY1.cell 2
  have yd1 := hY1.frozen 0
  have ye1 := hY1.frozen 1
  have yf1 := hY1.frozen 2
  simp at ya1 yb1 yc1
  go_upto_region 10 with fail
  have hU1 := ((hY1.set 0 (.string S1)).set 1 (.slice (some ⟨g1, 0, none⟩) n1 cap1)).set 2 (.bool fr)
  have hV1 := ((hZ1.other 0 (.string S1) (by omega : w.heap.size + 1 ≠ w.heap.size)).other 1 (.slice (some ⟨g1, 0, none⟩) n1 cap1) (by omega : w.heap.size + 1 ≠ w.heap.size)).other 2 (.bool fr) (by omega : w.heap.size + 1 ≠ w.heap.size)
  have hQ1 := hR1.frm (((Frm.put (Frm.refl _ w1) 0 (.string S1)).put 1 (.slice (some ⟨g1, 0, none⟩) n1 cap1)).put 2 (.bool fr)) (show ¬ g1 = w.heap.size by omega)
  have hT1 := ((hL1.setCell (p := ⟨w.heap.size, 0, none⟩) (Nat.le_refl _) (.string S1)).setCell (p := ⟨w.heap.size, 1, none⟩) (Nat.le_refl _) (.slice (some ⟨g1, 0, none⟩) n1 cap1)).setCell (p := ⟨w.heap.size, 2, none⟩) (Nat.le_refl _) (.bool fr)
  have hN1 : (((w1.setCell ⟨w.heap.size, 0, none⟩ (.string S1)).setCell ⟨w.heap.size, 1, none⟩ (.slice (some ⟨g1, 0, none⟩) n1 cap1)).setCell ⟨w.heap.size, 2, none⟩ (.bool fr)).heap.size = w1.heap.size := by simp [World.setCell]
  generalize ((w1.setCell ⟨w.heap.size, 0, none⟩ (.string S1)).setCell ⟨w.heap.size, 1, none⟩ (.slice (some ⟨g1, 0, none⟩) n1 cap1)).setCell ⟨w.heap.size, 2, none⟩ (.bool fr) = v1 at hU1 hV1 hQ1 hT1 hN1 ⊢
  simp at hU1
  clear ya1 yb1 yc1 yd1 ye1 yf1 za1 zb1 zc1 zd1 ze1 zf1
  have ua1 : v1.cell? ⟨w.heap.size, 0, none⟩ = some (.string S1) := hU1.cell 0
  have ub1 : v1.cell? ⟨w.heap.size, 1, none⟩ = some (.slice (some ⟨g1, 0, none⟩) n1 cap1) := hU1.cell 1
  have uc1 : v1.cell? ⟨w.heap.size, 2, none⟩ = some (.bool fr) := hU1.cell 2
  have ud1 := hU1.frozen 0
  have ue1 := hU1.frozen 1
  have uf1 := hU1.frozen 2
  have va1 : v1.cell? ⟨w.heap.size + 1, 0, none⟩ = some (.string ⟨#[]⟩) := hV1.cell 0
  have vb1 : v1.cell? ⟨w.heap.size + 1, 1, none⟩ = some (.slice none 0 0) := hV1.cell 1
  have vc1 : v1.cell? ⟨w.heap.size + 1, 2, none⟩ = some (.bool false) := hV1.cell 2
  have vd1 := hV1.frozen 0
  have ve1 := hV1.frozen 1
  have vf1 := hV1.frozen 2
  have hsz1 := hR1.size
  simp only [List.length_cons] at hsz1
  obtain ⟨j, hj⟩ : ∃ j, j = r.length := ⟨_, rfl⟩
  have hks1 : j < S1.size := by omega
  have hby1 := rv_by hR1 hj hks1
  rw [HLC.out] at hby1
  have e3 : IntKind.i64.wrap ((S1.size : Int) - 1) = (j : Int) := by rw [IntWalk.i64_in _ (by omega)]; omega
  have hjs2 : (j : Int) < S1.size := by omega
  have q2 : (0 : Int) ≤ (j : Int) := by omega
  have u79 : ((lc : Int) == 79) = false := by
    have := HM.out
    have h2 : ∀ m, m < 15 → m ≠ 3 → ((((ltB m).toNat : Nat) : Int) == 79) = false := by decide
    rw [← HLC.out]
    exact h2 m2 (by omega) this.2.1
  have HJ := Lib.hid hj
  have HZ1 := Lib.hid hsz1
  clear hj hsz1
  go_wp2_with fail
  refine (hcall _ S1 g1 n1 cap1 hQ1).mono ?_
  rintro e w2 ⟨S2, g2, n2, cap2, rfl, hR2, hb2, hg2⟩
  have hs2 := hb2.size
  have hZ2 := (hV1).below hb2
  have za2 : w2.cell? ⟨w.heap.size + 1, 0, none⟩ = some (.string ⟨#[]⟩) := hZ2.cell 0
  have zb2 : w2.cell? ⟨w.heap.size + 1, 1, none⟩ = some (.slice none 0 0) := hZ2.cell 1
  have zc2 : w2.cell? ⟨w.heap.size + 1, 2, none⟩ = some (.bool false) := hZ2.cell 2
  have zd2 := hZ2.frozen 0
  have ze2 := hZ2.frozen 1
  have zf2 := hZ2.frozen 2
  rw [hN1] at hs2 hg2
  go_wp2
  refine bodyPost_ret (v := .agg #[.string S2, .slice (some ⟨g2, 0, none⟩) n2 cap2, .bool fX]) (by simp [results, Tryz.results79, go_sem, *]) rfl ?_
  exact rv_done (g0 := g0) hR2 (hT1.trans (hb2.mono (by omega))) (w.heap.size + 1) (by omega) (by omega) (by omega) _ _ _
set_option maxHeartbeats 2000000 in
theorem st_3_40 (hR0 : Rv w ((3, f) :: r) S0 g0 n0 cap0) (hl : r.length ≤ 90000) :
    Calls Tryz.prog 79 #[.agg #[.string S0, .slice (some ⟨g0, 0, none⟩) n0 cap0, .bool fr], .int .u8 40, .int .i64 (p : Int)] w (RvTo w g0 ((9, f) :: r) false) := by
  have hlt := hR0.lt
  have hsz := hR0.size
  obtain ⟨k, hk⟩ : ∃ k, k = r.length := ⟨_, rfl⟩
  have hks : k < S0.size := by rw [hk, hsz]; exact Nat.lt_succ_self _
  have hby := rv_by hR0 hk hks
  rw [show (((ltB 3).toNat : Nat) : Int) = 79 by decide] at hby
  have hszk : S0.size = k + 1 := by rw [hk, hsz]; rfl
  have hk9 : k ≤ 90001 := by rw [hk]; first | omega | (simp only [List.length_cons]; omega)
  have e1 : IntKind.i64.wrap ((S0.size : Int) - 1) = (k : Int) := by rw [IntWalk.i64_in _ (by omega)]; omega
  have hks2 : (k : Int) < S0.size := by omega
  have q0 : (0 : Int) ≤ (k : Int) := by omega
  have HZ := Lib.hid hszk
  have HK := Lib.hid hk
  clear hsz hk hszk hk9
  go_enter Tryz.func79, Tryz.ntmps79
  go_wp2_with fail
  refine (rv_turn _ r S0 g0 n0 cap0 fr 3 f 9 _ rfl (hR0.below (below2 _ _ _)) (by omega)).mono ?_
  rintro e w1 ⟨S1, g1, n1, cap1, rfl, hR1, hb1, hg1⟩
  have hs1 := hb1.size
  rw [size2] at hs1 hg1
  have hZ1 := (blk2 w _ #[.string ⟨#[]⟩, .slice none 0 0, .bool false] 117).below hb1
  have za1 : w1.cell? ⟨w.heap.size + 1, 0, none⟩ = some (.string ⟨#[]⟩) := hZ1.cell 0
  have zb1 : w1.cell? ⟨w.heap.size + 1, 1, none⟩ = some (.slice none 0 0) := hZ1.cell 1
  have zc1 : w1.cell? ⟨w.heap.size + 1, 2, none⟩ = some (.bool false) := hZ1.cell 2
  have zd1 := hZ1.frozen 0
  have ze1 := hZ1.frozen 1
  have zf1 := hZ1.frozen 2
  go_wp2_with fail
  refine (rv_mark _ ((9, f) :: r) S1 g1 n1 cap1 fr false hR1).mono ?_
  rintro e w2 ⟨S2, g2, n2, cap2, rfl, hR2, hb2, hg2⟩
  have hs2 := hb2.size
  have hZ2 := (hZ1).below hb2
  have za2 : w2.cell? ⟨w.heap.size + 1, 0, none⟩ = some (.string ⟨#[]⟩) := hZ2.cell 0
  have zb2 : w2.cell? ⟨w.heap.size + 1, 1, none⟩ = some (.slice none 0 0) := hZ2.cell 1
  have zc2 : w2.cell? ⟨w.heap.size + 1, 2, none⟩ = some (.bool false) := hZ2.cell 2
  have zd2 := hZ2.frozen 0
  have ze2 := hZ2.frozen 1
  have zf2 := hZ2.frozen 2
  go_wp2
  refine bodyPost_ret (v := .agg #[.string S2, .slice (some ⟨g2, 0, none⟩) n2 cap2, .bool false]) (by simp [results, Tryz.results79, go_sem, *]) rfl ?_
  exact rv_done (g0 := g0) hR2 ((((below2 w _ _).trans (hb1.mono (by first | omega | (rw [size2]; omega))))).trans (hb2.mono (by omega))) (w.heap.size + 1) (by omega) (by omega) (by omega) _ _ _
set_option maxHeartbeats 2000000 in
theorem st_3_x (hR0 : Rv w ((3, f) :: r) S0 g0 n0 cap0) (hl : r.length ≤ 90000) (t0 : ((b : Int) == 40) = false) :
    Calls Tryz.prog 79 #[.agg #[.string S0, .slice (some ⟨g0, 0, none⟩) n0 cap0, .bool fr], .int .u8 b, .int .i64 (p : Int)] w (RvTo w g0 (plainF ((1, f) :: r) fr b p).st (plainF ((1, f) :: r) fr b p).fresh) := by
  obtain ⟨X, hX⟩ : ∃ X, plainF ((1, f) :: r) fr b p = X := ⟨_, rfl⟩
  have hcall := fun W S g n cap (h : Rv W ((1, f) :: r) S g n cap) => pla_1 W b f p r S g n cap fr h (by omega)
  rw [hX] at hcall ⊢
  obtain ⟨sX, fX⟩ := X
  clear hX
  have hlt := hR0.lt
  have hsz := hR0.size
  obtain ⟨k, hk⟩ : ∃ k, k = r.length := ⟨_, rfl⟩
  have hks : k < S0.size := by rw [hk, hsz]; exact Nat.lt_succ_self _
  have hby := rv_by hR0 hk hks
  rw [show (((ltB 3).toNat : Nat) : Int) = 79 by decide] at hby
  have hszk : S0.size = k + 1 := by rw [hk, hsz]; rfl
  have hk9 : k ≤ 90001 := by rw [hk]; first | omega | (simp only [List.length_cons]; omega)
  have e1 : IntKind.i64.wrap ((S0.size : Int) - 1) = (k : Int) := by rw [IntWalk.i64_in _ (by omega)]; omega
  have hks2 : (k : Int) < S0.size := by omega
  have q0 : (0 : Int) ≤ (k : Int) := by omega
  have HZ := Lib.hid hszk
  have HK := Lib.hid hk
  clear hsz hk hszk hk9
  go_enter Tryz.func79, Tryz.ntmps79
  go_wp2_with fail
  refine (rv_turn _ r S0 g0 n0 cap0 fr 3 f 1 _ rfl (hR0.below (below2 _ _ _)) (by omega)).mono ?_
  rintro e w1 ⟨S1, g1, n1, cap1, rfl, hR1, hb1, hg1⟩
  have hs1 := hb1.size
  rw [size2] at hs1 hg1
  have hZ1 := (blk2 w _ #[.string ⟨#[]⟩, .slice none 0 0, .bool false] 117).below hb1
  have za1 : w1.cell? ⟨w.heap.size + 1, 0, none⟩ = some (.string ⟨#[]⟩) := hZ1.cell 0
  have zb1 : w1.cell? ⟨w.heap.size + 1, 1, none⟩ = some (.slice none 0 0) := hZ1.cell 1
  have zc1 : w1.cell? ⟨w.heap.size + 1, 2, none⟩ = some (.bool false) := hZ1.cell 2
  have zd1 := hZ1.frozen 0
  have ze1 := hZ1.frozen 1
  have zf1 := hZ1.frozen 2
  have hL1 := ((below2 w _ _).trans (hb1.mono (by first | omega | (rw [size2]; omega))))
  have hY1 := (blk1 w #[.string S0, .slice (some ⟨g0, 0, none⟩) n0 cap0, .bool fr] _ 117).below hb1
  have ya1 := hY1.cell 0
  have yb1 := hY1.cell 1
  have yc1 := hY1.cell 2
  have yd1 := hY1.frozen 0
  have ye1 := hY1.frozen 1
  have yf1 := hY1.frozen 2
  simp at ya1 yb1 yc1
  go_upto_region 17 with fail
  have hU1 := ((hY1.set 0 (.string S1)).set 1 (.slice (some ⟨g1, 0, none⟩) n1 cap1)).set 2 (.bool fr)
  have hV1 := ((hZ1.other 0 (.string S1) (by omega : w.heap.size + 1 ≠ w.heap.size)).other 1 (.slice (some ⟨g1, 0, none⟩) n1 cap1) (by omega : w.heap.size + 1 ≠ w.heap.size)).other 2 (.bool fr) (by omega : w.heap.size + 1 ≠ w.heap.size)
  have hQ1 := hR1.frm (((Frm.put (Frm.refl _ w1) 0 (.string S1)).put 1 (.slice (some ⟨g1, 0, none⟩) n1 cap1)).put 2 (.bool fr)) (show ¬ g1 = w.heap.size by omega)
  have hT1 := ((hL1.setCell (p := ⟨w.heap.size, 0, none⟩) (Nat.le_refl _) (.string S1)).setCell (p := ⟨w.heap.size, 1, none⟩) (Nat.le_refl _) (.slice (some ⟨g1, 0, none⟩) n1 cap1)).setCell (p := ⟨w.heap.size, 2, none⟩) (Nat.le_refl _) (.bool fr)
  have hN1 : (((w1.setCell ⟨w.heap.size, 0, none⟩ (.string S1)).setCell ⟨w.heap.size, 1, none⟩ (.slice (some ⟨g1, 0, none⟩) n1 cap1)).setCell ⟨w.heap.size, 2, none⟩ (.bool fr)).heap.size = w1.heap.size := by simp [World.setCell]
  generalize ((w1.setCell ⟨w.heap.size, 0, none⟩ (.string S1)).setCell ⟨w.heap.size, 1, none⟩ (.slice (some ⟨g1, 0, none⟩) n1 cap1)).setCell ⟨w.heap.size, 2, none⟩ (.bool fr) = v1 at hU1 hV1 hQ1 hT1 hN1 ⊢
  simp at hU1
  clear ya1 yb1 yc1 yd1 ye1 yf1 za1 zb1 zc1 zd1 ze1 zf1
  have ua1 : v1.cell? ⟨w.heap.size, 0, none⟩ = some (.string S1) := hU1.cell 0
  have ub1 : v1.cell? ⟨w.heap.size, 1, none⟩ = some (.slice (some ⟨g1, 0, none⟩) n1 cap1) := hU1.cell 1
  have uc1 : v1.cell? ⟨w.heap.size, 2, none⟩ = some (.bool fr) := hU1.cell 2
  have ud1 := hU1.frozen 0
  have ue1 := hU1.frozen 1
  have uf1 := hU1.frozen 2
  have va1 : v1.cell? ⟨w.heap.size + 1, 0, none⟩ = some (.string ⟨#[]⟩) := hV1.cell 0
  have vb1 : v1.cell? ⟨w.heap.size + 1, 1, none⟩ = some (.slice none 0 0) := hV1.cell 1
  have vc1 : v1.cell? ⟨w.heap.size + 1, 2, none⟩ = some (.bool false) := hV1.cell 2
  have vd1 := hV1.frozen 0
  have ve1 := hV1.frozen 1
  have vf1 := hV1.frozen 2
  go_wp2_with fail
  refine (hcall _ S1 g1 n1 cap1 hQ1).mono ?_
  rintro e w2 ⟨S2, g2, n2, cap2, rfl, hR2, hb2, hg2⟩
  have hs2 := hb2.size
  have hZ2 := (hV1).below hb2
  have za2 : w2.cell? ⟨w.heap.size + 1, 0, none⟩ = some (.string ⟨#[]⟩) := hZ2.cell 0
  have zb2 : w2.cell? ⟨w.heap.size + 1, 1, none⟩ = some (.slice none 0 0) := hZ2.cell 1
  have zc2 : w2.cell? ⟨w.heap.size + 1, 2, none⟩ = some (.bool false) := hZ2.cell 2
  have zd2 := hZ2.frozen 0
  have ze2 := hZ2.frozen 1
  have zf2 := hZ2.frozen 2
  rw [hN1] at hs2 hg2
  go_wp2
  refine bodyPost_ret (v := .agg #[.string S2, .slice (some ⟨g2, 0, none⟩) n2 cap2, .bool fX]) (by simp [results, Tryz.results79, go_sem, *]) rfl ?_
  exact rv_done (g0 := g0) hR2 (hT1.trans (hb2.mono (by omega))) (w.heap.size + 1) (by omega) (by omega) (by omega) _ _ _
set_option maxHeartbeats 2000000 in
theorem st_11_41 (hR0 : Rv w ((11, f) :: r) S0 g0 n0 cap0) (hl : r.length ≤ 90000) :
    Calls Tryz.prog 79 #[.agg #[.string S0, .slice (some ⟨g0, 0, none⟩) n0 cap0, .bool fr], .int .u8 41, .int .i64 (p : Int)] w (RvTo w g0 r fr) := by
  have hlt := hR0.lt
  have hsz := hR0.size
  obtain ⟨k, hk⟩ : ∃ k, k = r.length := ⟨_, rfl⟩
  have hks : k < S0.size := by rw [hk, hsz]; exact Nat.lt_succ_self _
  have hby := rv_by hR0 hk hks
  rw [show (((ltB 11).toNat : Nat) : Int) = 69 by decide] at hby
  have hszk : S0.size = k + 1 := by rw [hk, hsz]; rfl
  have hk9 : k ≤ 90001 := by rw [hk]; first | omega | (simp only [List.length_cons]; omega)
  have e1 : IntKind.i64.wrap ((S0.size : Int) - 1) = (k : Int) := by rw [IntWalk.i64_in _ (by omega)]; omega
  have hks2 : (k : Int) < S0.size := by omega
  have q0 : (0 : Int) ≤ (k : Int) := by omega
  have HZ := Lib.hid hszk
  have HK := Lib.hid hk
  clear hsz hk hszk hk9
  go_enter Tryz.func79, Tryz.ntmps79
  go_wp2_with fail
  refine (rv_pop _ r S0 g0 n0 cap0 fr 11 f (hR0.below (below2 _ _ _)) (by omega)).mono ?_
  rintro e w1 ⟨S1, g1, n1, cap1, rfl, hR1, hb1, hg1⟩
  have hs1 := hb1.size
  rw [size2] at hs1 hg1
  have hZ1 := (blk2 w _ #[.string ⟨#[]⟩, .slice none 0 0, .bool false] 117).below hb1
  have za1 : w1.cell? ⟨w.heap.size + 1, 0, none⟩ = some (.string ⟨#[]⟩) := hZ1.cell 0
  have zb1 : w1.cell? ⟨w.heap.size + 1, 1, none⟩ = some (.slice none 0 0) := hZ1.cell 1
  have zc1 : w1.cell? ⟨w.heap.size + 1, 2, none⟩ = some (.bool false) := hZ1.cell 2
  have zd1 := hZ1.frozen 0
  have ze1 := hZ1.frozen 1
  have zf1 := hZ1.frozen 2
  go_wp2
  refine bodyPost_ret (v := .agg #[.string S1, .slice (some ⟨g1, 0, none⟩) n1 cap1, .bool fr]) (by simp [results, Tryz.results79, go_sem, *]) rfl ?_
  exact rv_done (g0 := g0) hR1 ((below2 w _ _).trans (hb1.mono (by first | omega | (rw [size2]; omega)))) (w.heap.size + 1) (by omega) (by omega) (by omega) _ _ _
set_option maxHeartbeats 2000000 in
theorem st_11_x (hR0 : Rv w ((11, f) :: r) S0 g0 n0 cap0) (hl : r.length ≤ 90000) (t0 : ((b : Int) == 41) = false) :
    Calls Tryz.prog 79 #[.agg #[.string S0, .slice (some ⟨g0, 0, none⟩) n0 cap0, .bool fr], .int .u8 b, .int .i64 (p : Int)] w (RvTo w g0 (plainF ((9, f) :: r) fr b p).st (plainF ((9, f) :: r) fr b p).fresh) := by
  obtain ⟨X, hX⟩ : ∃ X, plainF ((9, f) :: r) fr b p = X := ⟨_, rfl⟩
  have hcall := fun W S g n cap (h : Rv W ((9, f) :: r) S g n cap) => pla_9 W b f p r S g n cap fr h (by omega)
  rw [hX] at hcall ⊢
  obtain ⟨sX, fX⟩ := X
  clear hX
  have hlt := hR0.lt
  have hsz := hR0.size
  obtain ⟨k, hk⟩ : ∃ k, k = r.length := ⟨_, rfl⟩
  have hks : k < S0.size := by rw [hk, hsz]; exact Nat.lt_succ_self _
  have hby := rv_by hR0 hk hks
  rw [show (((ltB 11).toNat : Nat) : Int) = 69 by decide] at hby
  have hszk : S0.size = k + 1 := by rw [hk, hsz]; rfl
  have hk9 : k ≤ 90001 := by rw [hk]; first | omega | (simp only [List.length_cons]; omega)
  have e1 : IntKind.i64.wrap ((S0.size : Int) - 1) = (k : Int) := by rw [IntWalk.i64_in _ (by omega)]; omega
  have hks2 : (k : Int) < S0.size := by omega
  have q0 : (0 : Int) ≤ (k : Int) := by omega
  have HZ := Lib.hid hszk
  have HK := Lib.hid hk
  clear hsz hk hszk hk9
  go_enter Tryz.func79, Tryz.ntmps79
  go_wp2_with fail
  refine (rv_turn _ r S0 g0 n0 cap0 fr 11 f 9 _ rfl (hR0.below (below2 _ _ _)) (by omega)).mono ?_
  rintro e w1 ⟨S1, g1, n1, cap1, rfl, hR1, hb1, hg1⟩
  have hs1 := hb1.size
  rw [size2] at hs1 hg1
  have hZ1 := (blk2 w _ #[.string ⟨#[]⟩, .slice none 0 0, .bool false] 117).below hb1
  have za1 : w1.cell? ⟨w.heap.size + 1, 0, none⟩ = some (.string ⟨#[]⟩) := hZ1.cell 0
  have zb1 : w1.cell? ⟨w.heap.size + 1, 1, none⟩ = some (.slice none 0 0) := hZ1.cell 1
  have zc1 : w1.cell? ⟨w.heap.size + 1, 2, none⟩ = some (.bool false) := hZ1.cell 2
  have zd1 := hZ1.frozen 0
  have ze1 := hZ1.frozen 1
  have zf1 := hZ1.frozen 2
  have hL1 := ((below2 w _ _).trans (hb1.mono (by first | omega | (rw [size2]; omega))))
  have hY1 := (blk1 w #[.string S0, .slice (some ⟨g0, 0, none⟩) n0 cap0, .bool fr] _ 117).below hb1
  have ya1 := hY1.cell 0
  have yb1 := hY1.cell 1
  have yc1 := hY1.cell 2
  have yd1 := hY1.frozen 0
  have ye1 := hY1.frozen 1
  have yf1 := hY1.frozen 2
  simp at ya1 yb1 yc1
  go_upto_region 22 with fail
  have hU1 := ((hY1.set 0 (.string S1)).set 1 (.slice (some ⟨g1, 0, none⟩) n1 cap1)).set 2 (.bool fr)
  have hV1 := ((hZ1.other 0 (.string S1) (by omega : w.heap.size + 1 ≠ w.heap.size)).other 1 (.slice (some ⟨g1, 0, none⟩) n1 cap1) (by omega : w.heap.size + 1 ≠ w.heap.size)).other 2 (.bool fr) (by omega : w.heap.size + 1 ≠ w.heap.size)
  have hQ1 := hR1.frm (((Frm.put (Frm.refl _ w1) 0 (.string S1)).put 1 (.slice (some ⟨g1, 0, none⟩) n1 cap1)).put 2 (.bool fr)) (show ¬ g1 = w.heap.size by omega)
  have hT1 := ((hL1.setCell (p := ⟨w.heap.size, 0, none⟩) (Nat.le_refl _) (.string S1)).setCell (p := ⟨w.heap.size, 1, none⟩) (Nat.le_refl _) (.slice (some ⟨g1, 0, none⟩) n1 cap1)).setCell (p := ⟨w.heap.size, 2, none⟩) (Nat.le_refl _) (.bool fr)
  have hN1 : (((w1.setCell ⟨w.heap.size, 0, none⟩ (.string S1)).setCell ⟨w.heap.size, 1, none⟩ (.slice (some ⟨g1, 0, none⟩) n1 cap1)).setCell ⟨w.heap.size, 2, none⟩ (.bool fr)).heap.size = w1.heap.size := by simp [World.setCell]
  generalize ((w1.setCell ⟨w.heap.size, 0, none⟩ (.string S1)).setCell ⟨w.heap.size, 1, none⟩ (.slice (some ⟨g1, 0, none⟩) n1 cap1)).setCell ⟨w.heap.size, 2, none⟩ (.bool fr) = v1 at hU1 hV1 hQ1 hT1 hN1 ⊢
  simp at hU1
  clear ya1 yb1 yc1 yd1 ye1 yf1 za1 zb1 zc1 zd1 ze1 zf1
  have ua1 : v1.cell? ⟨w.heap.size, 0, none⟩ = some (.string S1) := hU1.cell 0
  have ub1 : v1.cell? ⟨w.heap.size, 1, none⟩ = some (.slice (some ⟨g1, 0, none⟩) n1 cap1) := hU1.cell 1
  have uc1 : v1.cell? ⟨w.heap.size, 2, none⟩ = some (.bool fr) := hU1.cell 2
  have ud1 := hU1.frozen 0
  have ue1 := hU1.frozen 1
  have uf1 := hU1.frozen 2
  have va1 : v1.cell? ⟨w.heap.size + 1, 0, none⟩ = some (.string ⟨#[]⟩) := hV1.cell 0
  have vb1 : v1.cell? ⟨w.heap.size + 1, 1, none⟩ = some (.slice none 0 0) := hV1.cell 1
  have vc1 : v1.cell? ⟨w.heap.size + 1, 2, none⟩ = some (.bool false) := hV1.cell 2
  have vd1 := hV1.frozen 0
  have ve1 := hV1.frozen 1
  have vf1 := hV1.frozen 2
  go_wp2_with fail
  refine (hcall _ S1 g1 n1 cap1 hQ1).mono ?_
  rintro e w2 ⟨S2, g2, n2, cap2, rfl, hR2, hb2, hg2⟩
  have hs2 := hb2.size
  have hZ2 := (hV1).below hb2
  have za2 : w2.cell? ⟨w.heap.size + 1, 0, none⟩ = some (.string ⟨#[]⟩) := hZ2.cell 0
  have zb2 : w2.cell? ⟨w.heap.size + 1, 1, none⟩ = some (.slice none 0 0) := hZ2.cell 1
  have zc2 : w2.cell? ⟨w.heap.size + 1, 2, none⟩ = some (.bool false) := hZ2.cell 2
  have zd2 := hZ2.frozen 0
  have ze2 := hZ2.frozen 1
  have zf2 := hZ2.frozen 2
  rw [hN1] at hs2 hg2
  go_wp2
  refine bodyPost_ret (v := .agg #[.string S2, .slice (some ⟨g2, 0, none⟩) n2 cap2, .bool fX]) (by simp [results, Tryz.results79, go_sem, *]) rfl ?_
  exact rv_done (g0 := g0) hR2 (hT1.trans (hb2.mono (by omega))) (w.heap.size + 1) (by omega) (by omega) (by omega) _ _ _
theorem step_any (x : Ms) (hI : Inv x) (hR0 : Rv w x.st S0 g0 n0 cap0) (hl : x.st.length ≤ 90000) :
    Calls Tryz.prog 79 #[.agg #[.string S0, .slice (some ⟨g0, 0, none⟩) n0 cap0, .bool x.fresh], .int .u8 b, .int .i64 (p : Int)] w (RvTo w g0 (feed x b p).st (feed x b p).fresh) := by
  obtain ⟨st, fr⟩ := x
  cases st with
  | nil => exact absurd hI.good (by simp [good])
  | cons a r =>
    obtain ⟨m, f⟩ := a
    have hle := good_le hI.good
    simp only [List.length_cons] at hl hR0 ⊢
    by_cases h12 : m = 12
    · subst h12
      by_cases h40 : b = 40
      · subst h40
        exact st_12_40 w f p r S0 g0 n0 cap0 fr hR0 (by omega)
      obtain ⟨m2, f2, r2, rfl, ho, hg2⟩ := good_more hI.good (by omega)
      have hb2 := over_base ho
      unfold base at hb2
      rw [decide_eq_true_iff] at hb2
      simp only [List.length_cons] at hl
      by_cases h123 : b = 123
      · subst h123
        by_cases h5 : m2 = 5
        · subst h5
          exact st_12_123_5 w f p r2 S0 g0 n0 cap0 fr f2 hR0 (by omega)
        by_cases h8 : m2 = 8
        · subst h8
          exact st_12_123_8 w f p r2 S0 g0 n0 cap0 fr f2 hR0 (by omega)
        have e : feed ⟨(12, f) :: (m2, f2) :: r2, fr⟩ 123 p = ⟨(7, f) :: (m2, f2) :: r2, fr⟩ := by
          show (⟨(brace m2, f) :: (m2, f2) :: r2, fr⟩ : Ms) = _
          unfold brace
          rw [if_neg (by omega)]
        rw [e]
        exact st_12_123_x w f p r2 S0 g0 n0 cap0 fr f2 m2 h5 h8 (by omega) hR0 (by omega)
      by_cases h36 : b = 36
      · subst h36
        exact st_12_36 w f p ((m2, f2) :: r2) S0 g0 n0 cap0 fr hR0 (by simp; omega)
      have e : feed ⟨(12, f) :: (m2, f2) :: r2, fr⟩ b p = plainF ((m2, f2) :: r2) fr b p := by
        unfold feed
        simp [h40, h123, h36]
      rw [e]
      exact st_12_x w b f p r2 S0 g0 n0 cap0 fr m2 f2 ⟨by omega, by omega, by omega, by omega⟩ (t_no h40) (t_no h123) (t_no h36) hR0 (by omega)
    by_cases h3 : m = 3
    · subst h3
      by_cases h40 : b = 40
      · subst h40
        exact st_3_40 w f p r S0 g0 n0 cap0 fr hR0 (by omega)
      have e : feed ⟨(3, f) :: r, fr⟩ b p = plainF ((1, f) :: r) fr b p := by
        unfold feed
        simp [h40]
      rw [e]
      exact st_3_x w b f p r S0 g0 n0 cap0 fr hR0 (by omega) (t_no h40)
    by_cases h11 : m = 11
    · subst h11
      by_cases h41 : b = 41
      · subst h41
        exact st_11_41 w f p r S0 g0 n0 cap0 fr hR0 (by omega)
      have e : feed ⟨(11, f) :: r, fr⟩ b p = plainF ((9, f) :: r) fr b p := by
        unfold feed
        simp [h41]
      rw [e]
      exact st_11_x w b f p r S0 g0 n0 cap0 fr hR0 (by omega) (t_no h41)
    rw [feed_plain h3 h11 h12]
    by_cases e0 : m = 0
    · subst e0
      exact stp_0 w b f p r S0 g0 n0 cap0 fr hR0 (by omega)
    by_cases e1 : m = 1
    · subst e1
      exact stp_1 w b f p r S0 g0 n0 cap0 fr hR0 (by omega)
    by_cases e2 : m = 2
    · subst e2
      exact stp_2 w b f p r S0 g0 n0 cap0 fr hR0 (by omega)
    by_cases e4 : m = 4
    · subst e4
      exact stp_4 w b f p r S0 g0 n0 cap0 fr hR0 (by omega)
    by_cases e5 : m = 5
    · subst e5
      exact stp_5 w b f p r S0 g0 n0 cap0 fr hR0 (by omega)
    by_cases e6 : m = 6
    · subst e6
      exact stp_6 w b f p r S0 g0 n0 cap0 fr hR0 (by omega)
    by_cases e7 : m = 7
    · subst e7
      exact stp_7 w b f p r S0 g0 n0 cap0 fr hR0 (by omega)
    by_cases e8 : m = 8
    · subst e8
      exact stp_8 w b f p r S0 g0 n0 cap0 fr hR0 (by omega)
    by_cases e9 : m = 9
    · subst e9
      exact stp_9 w b f p r S0 g0 n0 cap0 fr hR0 (by omega)
    by_cases e10 : m = 10
    · subst e10
      exact stp_10 w b f p r S0 g0 n0 cap0 fr hR0 (by omega)
    by_cases e13 : m = 13
    · subst e13
      exact stp_13 w b f p r S0 g0 n0 cap0 fr hR0 (by omega)
    by_cases e14 : m = 14
    · subst e14
      exact stp_14 w b f p r S0 g0 n0 cap0 fr hR0 (by omega)
    omega
end
end Go.Proofs.YtgfkbfojeohlkaaGreatDoor

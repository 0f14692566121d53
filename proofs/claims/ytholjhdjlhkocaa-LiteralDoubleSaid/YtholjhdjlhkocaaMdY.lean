/- What pop, turn, opens and First of the document's own machine return. Condition: stacks of at most a hundred thousand frames. -/
import Derived.Test.YtholjhdjlhkocaaMdX
namespace Go.Proofs.Ytholjhdjlhkocaa
open Go.RowKit
set_option linter.unusedVariables false

section
variable (w : World)
set_option maxHeartbeats 1000000 in
theorem pop_any (l : List Fr) (m f g cap : Nat) (fr : Bool) (hP : Pw w g cap (l ++ [(m, f)])) (hl : l.length ≤ 100000) :
    Calls Try.prog 55 #[.agg #[.string (ltS (l ++ [(m, f)])), .slice (some ⟨g, 0, none⟩) (l.length + 1) cap, .bool fr]] w fun e w' => e = .returned (.agg #[.string (ltS l), .slice (some ⟨g, 0, none⟩) l.length cap, .bool fr]) ∧ Below w.heap.size w w' := by
  have hle := hP.le
  simp at hle
  have hsz : (ltS (l ++ [(m, f)])).size = l.length + 1 := by rw [ltS_size]; simp
  have hpop := ltS_pop l m f
  obtain ⟨S, hS⟩ : ∃ S, ltS (l ++ [(m, f)]) = S := ⟨_, rfl⟩
  obtain ⟨S2, hS2⟩ : ∃ S2, ltS l = S2 := ⟨_, rfl⟩
  obtain ⟨n, hn⟩ : ∃ n, l.length = n := ⟨_, rfl⟩
  rw [hS] at hsz hpop ⊢
  rw [hS2] at hpop ⊢
  rw [hn] at hsz hpop hle hl ⊢
  obtain ⟨z, hz⟩ : ∃ z, S.size = z := ⟨_, rfl⟩
  have e1 : IntKind.i64.wrap ((S.size : Int) - 1) = (n : Int) := by rw [IntWalk.i64_in _ (by omega)]; omega
  have q0 : (0 : Int) ≤ (n : Int) := by omega
  have q1 : (n : Int) ≤ (S.size : Int) := by omega
  have q2 : (n : Int) ≤ (cap : Int) := by omega
  have q3 : (n : Int) ≤ (n : Int) + 1 := by omega
  have HZ := Lib.hid hsz
  have HP2 := Lib.hid hpop
  clear hS hS2 hn hsz hz hpop hP
  go_enter Try.func55, Try.ntmps55
  go_wp2
  go_region
  all_goals
    go_wp2
    refine bodyPost_ret (v := .agg #[.string S2, .slice (some ⟨g, 0, none⟩) n cap, .bool fr]) (by simp [results, Try.results55, go_sem, *]; rw [HP2.out]) rfl ?_
    exact ⟨rfl, (((Below.refl w.heap.size w).alloc (Nat.le_refl _) _).alloc (by simp) _).drew⟩
set_option maxHeartbeats 1000000 in
theorem refturn_any (l : List Fr) (m f m2 g cap : Nat) (fr : Bool) (c : ByteArray) (hc : Hid (c = ⟨#[ltB m2]⟩)) (hl : l.length ≤ 100000) (n : Nat) :
    Calls Try.prog 54 #[.agg #[.string (ltS (l ++ [(m, f)])), .slice (some ⟨g, 0, none⟩) n cap, .bool fr], .string c] w fun e w' => e = .returned (.agg #[.string (ltS (l ++ [(m2, f)])), .slice (some ⟨g, 0, none⟩) n cap, .bool fr]) ∧ Below w.heap.size w w' := by
  have hsz : (ltS (l ++ [(m, f)])).size = l.length + 1 := by rw [ltS_size]; simp
  have hpop := ltS_pop l m f
  have hcs : c.size = 1 := by rw [hc.out]; rfl
  rw [ltS_snoc l m2 f, ← hc.out]
  obtain ⟨S, hS⟩ : ∃ S, ltS (l ++ [(m, f)]) = S := ⟨_, rfl⟩
  have hs2 := ltS_size l
  obtain ⟨S2, hS2⟩ : ∃ S2, ltS l = S2 := ⟨_, rfl⟩
  obtain ⟨k, hk⟩ : ∃ k, l.length = k := ⟨_, rfl⟩
  rw [hS] at hsz hpop ⊢
  rw [hS2] at hpop hs2 ⊢
  rw [hk] at hsz hpop hl hs2
  have e1 : IntKind.i64.wrap ((S.size : Int) - 1) = (k : Int) := by rw [IntWalk.i64_in _ (by omega)]; omega
  have q0 : (0 : Int) ≤ (k : Int) := by omega
  have q1 : (k : Int) ≤ (S.size : Int) := by omega
  have hnb : ¬ (S.extract 0 k).size + c.size > 9223372036854775807 := by rw [hpop, hs2]; omega
  have HZ := Lib.hid hsz
  have HP2 := Lib.hid hpop
  clear hS hS2 hk hsz hpop hcs hs2
  go_enter Try.func54, Try.ntmps54
  go_wp2
  go_region
  all_goals
    go_wp2
    refine bodyPost_ret (v := .agg #[.string (S2 ++ c), .slice (some ⟨g, 0, none⟩) n cap, .bool fr]) (by simp [results, Try.results54, go_sem, *]; rw [HP2.out]) rfl ?_
    exact ⟨rfl, (((Below.refl w.heap.size w).alloc (Nat.le_refl _) _).alloc (by simp) _).drew⟩
set_option maxHeartbeats 1000000 in
theorem opens_92 : Calls Try.prog 77 #[.int .u8 92] w fun e w' => e = .returned (.string ⟨#[88]⟩) ∧ w' = w := by
  go_enter Try.func77, Try.ntmps77
  go_wp2
  go_ret
  exact ⟨rfl, rfl⟩
set_option maxHeartbeats 1000000 in
theorem opens_36 : Calls Try.prog 77 #[.int .u8 36] w fun e w' => e = .returned (.string ⟨#[76]⟩) ∧ w' = w := by
  go_enter Try.func77, Try.ntmps77
  go_wp2
  go_ret
  exact ⟨rfl, rfl⟩
set_option maxHeartbeats 1000000 in
theorem opens_96 : Calls Try.prog 77 #[.int .u8 96] w fun e w' => e = .returned (.string ⟨#[66]⟩) ∧ w' = w := by
  go_enter Try.func77, Try.ntmps77
  go_wp2
  go_ret
  exact ⟨rfl, rfl⟩
set_option maxHeartbeats 1000000 in
theorem opens_none (b : Nat) (t1 : ((b : Int) == 92) = false) (t2 : ((b : Int) == 36) = false) (t3 : ((b : Int) == 96) = false) : Calls Try.prog 77 #[.int .u8 b] w fun e w' => e = .returned (.string ⟨#[]⟩) ∧ w' = w := by
  go_enter Try.func77, Try.ntmps77
  go_wp2
  go_ret
  exact ⟨rfl, rfl⟩
set_option maxHeartbeats 1000000 in
theorem first_any : Calls Try.prog 29 #[] w fun e w' => (∃ g cap, e = .returned (.agg #[.string (ltS [(0, 0)]), .slice (some ⟨g, 0, none⟩) 1 cap, .bool true]) ∧ Pw w' g cap [(0, 0)] ∧ w.heap.size ≤ g) ∧ Below w.heap.size w w' := by
  go_enter Try.func29, Try.ntmps29
  go_wp2
  refine bodyPost_ret (v := .agg #[.string ⟨#[84]⟩, .slice (some ⟨w.heap.size + 1, 0, none⟩) 1 1, .bool true]) (by simp [results, Try.results29, go_sem, *]) rfl ?_
  refine ⟨⟨w.heap.size + 1, 1, rfl, ?_, by omega⟩, ((Below.refl w.heap.size w).alloc (Nat.le_refl _) _).alloc (by simp) _⟩
  refine ⟨#[.int .i64 0], ?_, Nat.le_refl _, by unfold maxLen; omega, rfl, rfl⟩
  have := Blk.new (w.alloc (.cells #[.string ⟨#[84]⟩, .slice (some ⟨w.heap.size + 1, 0, none⟩) 1 1, .bool true] 48)) #[.int .i64 0] 3
  rw [World.size_alloc] at this
  exact this
end
end Go.Proofs.Ytholjhdjlhkocaa

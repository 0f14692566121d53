/- What slices.Replace at a row of ints returns, in one law: whatever the row, nil or not, whatever is taken out and put in, with room or without. Condition: at most a million ints; what comes lies in another block. -/
import Derived.Test.YtiiebholgmhogaaLnO
namespace Go.Proofs.Ytiiebholgmhogaa
open Go.RowKit Go.Shelf
set_option linter.unusedVariables false

section
variable (w : World) (sv vv : Value) (n i j m : Nat) (xs ys : List Value)
set_option maxRecDepth 100000 in
set_option maxHeartbeats 1000000 in
theorem rep_same (hrow : w.ownsRow 0 3 1 sv n xs) (h1 : ∀ v ∈ xs, v.oneCell' = true) (hv : Vs w vv m ys) (hap : ∀ k, vv.ownBlock = some k → sv.ownBlock ≠ some k) (hi : i ≤ n) (hn : n ≤ 1000000) (hm : m ≤ 1000000) :
    Calls Try.prog 27 #[sv, .int .i64 i, .int .i64 i, vv] w (Rep w sv (i + m + (n - i)) (xs.take i ++ ys ++ xs.drop i)) := by
  have hRR : ∀ e w', Rep w sv (i + m + (n - i)) (xs.take i ++ ys ++ xs.drop i) e w' → ∃ a k c, e = .returned (.slice a k c) := fun e w' h => by
    obtain ⟨v, he, ho, _⟩ := h
    rcases ho.2 with ⟨h0, _⟩ | ⟨g, cap, cur, h0, _⟩
    · exact ⟨_, _, _, by rw [he, h0]⟩
    · exact ⟨_, _, _, by rw [he, h0]⟩
  have hc := insert_any w sv vv n i m xs ys hrow h1 hv hap hi hn hm
  rcases hrow.2 with ⟨rfl, rfl⟩ | ⟨g, cap, cur, rfl, _, hg, hnc, hcm, _⟩
  · obtain rfl : i = 0 := by omega
    obtain ⟨R, hR⟩ : ∃ R, R = Rep w (.slice none 0 0) (0 + m + (0 - 0)) (xs.take 0 ++ ys ++ xs.drop 0) := ⟨_, rfl⟩
    rw [← hR] at hc hRR ⊢
    clear hR
    have HC := Lib.hid hc
    clear hc
    go_enter Try.func27, Try.ntmps27
    go_wp2_with fail
    refine HC.out.mono ?_
    rintro e w1 hr
    obtain ⟨a, k, c, rfl⟩ := hRR _ _ hr
    go_wp2
    exact hr
  · unfold maxLen at hcm
    have e1 : (i : Int) ≤ n := by omega
    have e2 : (i : Int) ≤ cap := by omega
    by_cases e3 : cap = i
    · obtain rfl : n = cap := by omega
      subst e3
      obtain ⟨R, hR⟩ : ∃ R, R = Rep w (.slice (some ⟨g, 0, none⟩) n n) (n + m + (n - n)) (xs.take n ++ ys ++ xs.drop n) := ⟨_, rfl⟩
      rw [← hR] at hc hRR ⊢
      clear hR
      have HC := Lib.hid hc
      clear hc
      go_enter Try.func27, Try.ntmps27
      go_wp2_with fail
      refine HC.out.mono ?_
      rintro e w1 hr
      obtain ⟨a, k, c, rfl⟩ := hRR _ _ hr
      go_wp2
      exact hr
    · obtain ⟨R, hR⟩ : ∃ R, R = Rep w (.slice (some ⟨g, 0, none⟩) n cap) (i + m + (n - i)) (xs.take i ++ ys ++ xs.drop i) := ⟨_, rfl⟩
      rw [← hR] at hc hRR ⊢
      clear hR
      have HC := Lib.hid hc
      clear hc
      go_enter Try.func27, Try.ntmps27
      go_wp2_with fail
      refine HC.out.mono ?_
      rintro e w1 hr
      obtain ⟨a, k, c, rfl⟩ := hRR _ _ hr
      go_wp2
      exact hr

/-- What slices.Replace leaves of a row. -/
theorem replace_any (hrow : w.ownsRow 0 3 1 sv n xs) (h1 : ∀ v ∈ xs, v.oneCell' = true) (hv : Vs w vv m ys) (hap : ∀ k, vv.ownBlock = some k → sv.ownBlock ≠ some k) (hij : i ≤ j) (hjn : j ≤ n) (hn : n ≤ 1000000) (hm : m ≤ 1000000) :
    Calls Try.prog 27 #[sv, .int .i64 i, .int .i64 j, vv] w (Rep w sv (i + m + (n - j)) (xs.take i ++ ys ++ xs.drop j)) := by
  by_cases c1 : i = j
  · subst c1
    exact rep_same w sv vv n i m xs ys hrow h1 hv hap hjn hn hm
  · have hxl : xs.length = n := by have := hrow.1; omega
    rcases hrow.2 with ⟨rfl, rfl⟩ | ⟨g, cap, cur, rfl, _, hg, hnc, hcm, hcs, htk⟩
    · omega
    · have hB : Blk w g cur 3 := hg
      have hcs' : cur.size = cap := by omega
      have htk' : cur.toList.take n = xs := by simpa using htk
      obtain ⟨a, c, rfl⟩ := hv.form
      have hap' : ∀ k, (Value.slice a m c).ownBlock = some k → k ≠ g := fun k hk h => hap k hk (by rw [h]; rfl)
      by_cases c2 : j = n
      · subst c2
        by_cases c3 : i + m ≤ cap
        · exact rep_end_room w g cap j i m cur xs ys a c hB hcs' hnc hcm htk' hxl hv (by omega) c3 hn hm
        · exact rep_end_grow w g cap j i m cur xs ys a c hB hcs' hnc hcm htk' hxl hv (by omega) (by omega) hn hm
      · by_cases c3 : i + m + (n - j) ≤ cap
        · by_cases c4 : i + m ≤ j
          · exact rep_mid_fits w g cap n i j m cur xs ys a c hB hcs' hnc hcm htk' hxl h1 hv hap' (by omega) (by omega) c4 hn hm
          · exact rep_mid_over w g cap n i j m cur xs ys a c hB hcs' hnc hcm htk' hxl h1 hv hap' (by omega) (by omega) (by omega) c3 hn hm
        · exact rep_mid_grow w g cap n i j m cur xs ys a c hB hcs' hnc hcm htk' hxl h1 hv hap' (by omega) (by omega) (by omega) hn hm
end
end Go.Proofs.Ytiiebholgmhogaa

/- LinesTell's walk: for every text, line, column and place the law returns true. Condition: no text is longer than an int can tell. -/
import Derived.Test.YtiiebholgmhogaaLnH
namespace Go.Proofs.Ytiiebholgmhogaa
open Go.RowKit Go.Shelf
set_option linter.unusedVariables false

set_option maxRecDepth 100000 in
set_option maxHeartbeats 4000000 in
theorem tell_1 (s : ByteArray) (line col m : Int) (w : World) (hs : s.size ≤ 200) (hl : line < 0 ∨ (ct s s.size : Int) < line) (hm : m < 0 ∨ (s.size : Int) < m) :
    Calls Try.prog 3 #[.string s, .int .i64 line, .int .i64 col, .int .i64 m] w fun e w' => e = .returned (.bool true) ∧ Below w.heap.size w w' := by
    have hs1 : s.size ≤ 1000000 := by omega
    have hct := ct_le s s.size
    have hll := lns_length s
    have hN := fun w' => new_any s hs1 w'
    have hR := fun xb sv w' (hI : Ix w' xb sv s) => right_any s xb sv w' hs1 hI
    have hL := fun w' => reflines_any s w' hs1
    have hA := fun xb sv w' (hI : Ix w' xb sv s) => at_any s xb sv w' hs1 hI line col
    have hS := fun xb sv w' (hI : Ix w' xb sv s) => span_any s xb sv w' hs1 hI line
    have hO := fun w' => of_any s hs1 line w'
    have hW := fun xb sv w' (hI : Ix w' xb sv s) => where_any s xb sv w' hs1 hI m
    have hst : ∀ (base g c : Nat) (w1 : World), w1.ownsRow base 9 1 (.slice (some ⟨g, 0, none⟩) (ct s s.size + 1) c) (ct s s.size + 1) (strCells (lns s)) → ∀ l, l ≤ ct s s.size → w1.cell? ⟨g, l, none⟩ = some (.string ((lns s)[l]?.getD ⟨#[]⟩)) := fun _ _ _ _ h l hl => strs_at h hll l (by omega)
    have hz : ¬ (200 : Int) < (s.size : Int) := by omega
    unfold atV at hA
    unfold spanV at hS
    unfold ofV at hO
    unfold whereV at hW
    rw [if_neg (by omega)] at hA hS hO
    clear hst hll
    rw [if_neg (by omega)] at hW
    obtain ⟨n, hn⟩ : ∃ n, ct s s.size = n := ⟨_, rfl⟩
    rw [hn] at *
    have HN := Lib.hid hN
    have HR := Lib.hid hR
    have HL := Lib.hid hL
    have HA := Lib.hid hA
    have HS := Lib.hid hS
    have HO := Lib.hid hO
    have HW := Lib.hid hW
    clear hN hR hL hA hS hO hW hn
    rcases hl with hl | hl <;> rcases hm with hm | hm
    all_goals
      go_enter Try.func3, Try.ntmps3
      go_wp2_with fail
      refine (awake_any _).mono ?_
      rintro e w1 ⟨rfl, hb1⟩
      go_wp2_with fail
      refine (HN.out _).mono ?_
      rintro e w2 ⟨xb, sv, rfl, hI, _, _, hb2⟩
      go_wp2_with fail
      refine (HR.out xb sv _ hI).mono ?_
      rintro e w3 ⟨rfl, hb3⟩
      go_wp2_with fail
      refine (HL.out _).mono ?_
      rintro e w4 ⟨v, rfl, hown, hb4⟩
      obtain ⟨g, cc, rfl⟩ := ownsRow_succ hown
      have hI3 := (hI.below hb3).below hb4
      have hB4 := ((hb1.trans (hb2.mono hb1.size)).trans (hb3.mono (Nat.le_trans hb1.size hb2.size))).trans (hb4.mono (Nat.le_trans (Nat.le_trans hb1.size hb2.size) hb3.size))
      clear hown hI
      go_wp2_with fail
      refine (HA.out xb sv _ hI3).mono ?_
      rintro e w5 ⟨rfl, hd5⟩
      have hI5 := hI3.drew hd5
      go_wp2_with fail
      refine (HS.out xb sv _ hI5).mono ?_
      rintro e w6 ⟨rfl, hd6⟩
      have hI6 := hI5.drew hd6
      go_wp2_with fail
      refine (HO.out _).mono ?_
      rintro e w7 ⟨rfl, hb7⟩
      have hI7 := hI6.below hb7
      have hB7 := ((hB4.trans hd5.below).trans hd6.below).trans (hb7.mono (Nat.le_trans hB4.size (Nat.le_trans (hd5.below (n := 0)).size (hd6.below (n := 0)).size)))
      go_wp2_with fail
      refine (HW.out xb sv _ hI7).mono ?_
      rintro e w8 ⟨rfl, hd8⟩
      go_wp2_with fail
      go_ret
      exact ⟨rfl, hB7.trans hd8.below⟩

set_option maxRecDepth 100000 in
set_option maxHeartbeats 4000000 in
theorem tell_2 (s : ByteArray) (line col m : Int) (w : World) (hs : s.size ≤ 200) (hl : line < 0 ∨ (ct s s.size : Int) < line) (hm : 0 ≤ m ∧ m ≤ (s.size : Int)) :
    Calls Try.prog 3 #[.string s, .int .i64 line, .int .i64 col, .int .i64 m] w fun e w' => e = .returned (.bool true) ∧ Below w.heap.size w w' := by
    have hs1 : s.size ≤ 1000000 := by omega
    have hct := ct_le s s.size
    have hll := lns_length s
    have hN := fun w' => new_any s hs1 w'
    have hR := fun xb sv w' (hI : Ix w' xb sv s) => right_any s xb sv w' hs1 hI
    have hL := fun w' => reflines_any s w' hs1
    have hA := fun xb sv w' (hI : Ix w' xb sv s) => at_any s xb sv w' hs1 hI line col
    have hS := fun xb sv w' (hI : Ix w' xb sv s) => span_any s xb sv w' hs1 hI line
    have hO := fun w' => of_any s hs1 line w'
    have hW := fun xb sv w' (hI : Ix w' xb sv s) => where_any s xb sv w' hs1 hI m
    have hst : ∀ (base g c : Nat) (w1 : World), w1.ownsRow base 9 1 (.slice (some ⟨g, 0, none⟩) (ct s s.size + 1) c) (ct s s.size + 1) (strCells (lns s)) → ∀ l, l ≤ ct s s.size → w1.cell? ⟨g, l, none⟩ = some (.string ((lns s)[l]?.getD ⟨#[]⟩)) := fun _ _ _ _ h l hl => strs_at h hll l (by omega)
    have hz : ¬ (200 : Int) < (s.size : Int) := by omega
    unfold atV at hA
    unfold spanV at hS
    unfold ofV at hO
    unfold whereV at hW
    rw [if_neg (by omega)] at hA hS hO
    clear hst hll
    rw [if_pos (by omega)] at hW
    obtain ⟨k, rfl⟩ : ∃ k : Nat, m = k := ⟨m.toNat, by omega⟩
    simp only [Int.toNat_natCast] at hW
    have hk1 : (k : Int) ≤ s.size := by omega
    clear hm
    obtain ⟨n, hn⟩ : ∃ n, ct s s.size = n := ⟨_, rfl⟩
    rw [hn] at *
    have HN := Lib.hid hN
    have HR := Lib.hid hR
    have HL := Lib.hid hL
    have HA := Lib.hid hA
    have HS := Lib.hid hS
    have HO := Lib.hid hO
    have HW := Lib.hid hW
    clear hN hR hL hA hS hO hW hn
    rcases hl with hl | hl
    all_goals
      go_enter Try.func3, Try.ntmps3
      go_wp2_with fail
      refine (awake_any _).mono ?_
      rintro e w1 ⟨rfl, hb1⟩
      go_wp2_with fail
      refine (HN.out _).mono ?_
      rintro e w2 ⟨xb, sv, rfl, hI, _, _, hb2⟩
      go_wp2_with fail
      refine (HR.out xb sv _ hI).mono ?_
      rintro e w3 ⟨rfl, hb3⟩
      go_wp2_with fail
      refine (HL.out _).mono ?_
      rintro e w4 ⟨v, rfl, hown, hb4⟩
      obtain ⟨g, cc, rfl⟩ := ownsRow_succ hown
      have hI3 := (hI.below hb3).below hb4
      have hB4 := ((hb1.trans (hb2.mono hb1.size)).trans (hb3.mono (Nat.le_trans hb1.size hb2.size))).trans (hb4.mono (Nat.le_trans (Nat.le_trans hb1.size hb2.size) hb3.size))
      clear hown hI
      go_wp2_with fail
      refine (HA.out xb sv _ hI3).mono ?_
      rintro e w5 ⟨rfl, hd5⟩
      have hI5 := hI3.drew hd5
      go_wp2_with fail
      refine (HS.out xb sv _ hI5).mono ?_
      rintro e w6 ⟨rfl, hd6⟩
      have hI6 := hI5.drew hd6
      go_wp2_with fail
      refine (HO.out _).mono ?_
      rintro e w7 ⟨rfl, hb7⟩
      have hI7 := hI6.below hb7
      have hB7 := ((hB4.trans hd5.below).trans hd6.below).trans (hb7.mono (Nat.le_trans hB4.size (Nat.le_trans (hd5.below (n := 0)).size (hd6.below (n := 0)).size)))
      go_wp2_with fail
      refine (HW.out xb sv _ hI7).mono ?_
      rintro e w8 ⟨rfl, hd8⟩
      go_wp2_with fail
      go_ret
      exact ⟨rfl, hB7.trans hd8.below⟩

set_option maxRecDepth 100000 in
set_option maxHeartbeats 4000000 in
theorem tell_3 (s : ByteArray) (line col m : Int) (w : World) (hs : s.size ≤ 200) (l : Nat) (hline : line = l) (hl : l ≤ ct s s.size) (hm : m < 0 ∨ (s.size : Int) < m) (hc : col < 0 ∨ (((lns s)[l]?.getD ⟨#[]⟩).size : Int) < col) :
    Calls Try.prog 3 #[.string s, .int .i64 line, .int .i64 col, .int .i64 m] w fun e w' => e = .returned (.bool true) ∧ Below w.heap.size w w' := by
    have hs1 : s.size ≤ 1000000 := by omega
    have hct := ct_le s s.size
    have hll := lns_length s
    have hN := fun w' => new_any s hs1 w'
    have hR := fun xb sv w' (hI : Ix w' xb sv s) => right_any s xb sv w' hs1 hI
    have hL := fun w' => reflines_any s w' hs1
    have hA := fun xb sv w' (hI : Ix w' xb sv s) => at_any s xb sv w' hs1 hI line col
    have hS := fun xb sv w' (hI : Ix w' xb sv s) => span_any s xb sv w' hs1 hI line
    have hO := fun w' => of_any s hs1 line w'
    have hW := fun xb sv w' (hI : Ix w' xb sv s) => where_any s xb sv w' hs1 hI m
    have hst : ∀ (base g c : Nat) (w1 : World), w1.ownsRow base 9 1 (.slice (some ⟨g, 0, none⟩) (ct s s.size + 1) c) (ct s s.size + 1) (strCells (lns s)) → ∀ l, l ≤ ct s s.size → w1.cell? ⟨g, l, none⟩ = some (.string ((lns s)[l]?.getD ⟨#[]⟩)) := fun _ _ _ _ h l hl => strs_at h hll l (by omega)
    have hz : ¬ (200 : Int) < (s.size : Int) := by omega
    unfold atV at hA
    unfold spanV at hS
    unfold ofV at hO
    unfold whereV at hW
    have hcc := hc
    clear hc
    subst hline
    have h1 := lns_size s hl
    have h2 := head_end s hl
    have hF := fun w' => first_any s l w' hs1 hl
    have hst1 := fun base g c w1 h => hst base g c w1 h l hl
    clear hst hll
    rw [if_pos (by omega)] at hS hO
    simp only [Int.toNat_natCast] at hA hS hO
    obtain ⟨x, hx⟩ : ∃ x, (lns s)[l]?.getD ⟨#[]⟩ = x := ⟨_, rfl⟩
    obtain ⟨h, hh⟩ : ∃ h, headL (br s s.size) l = h := ⟨_, rfl⟩
    obtain ⟨t, ht⟩ : ∃ t, endL (br s s.size) s.size l = t := ⟨_, rfl⟩
    rw [hx] at h1 hO hst1 hcc
    rw [hh] at h1 h2 hA hS hF
    rw [ht] at h1 h2 hA hS
    rw [show (t : Int) - h = (x.size : Int) from by omega] at hA
    have hhs : h ≤ 200 := by omega
    have hxs : x.size ≤ 200 := by omega
    clear hx hh ht h1 h2
    rw [if_neg (by omega)] at hA
    rw [if_neg (by omega)] at hW
    obtain ⟨n, hn⟩ : ∃ n, ct s s.size = n := ⟨_, rfl⟩
    rw [hn] at *
    have HN := Lib.hid hN
    have HR := Lib.hid hR
    have HL := Lib.hid hL
    have HA := Lib.hid hA
    have HS := Lib.hid hS
    have HO := Lib.hid hO
    have HW := Lib.hid hW
    clear hN hR hL hA hS hO hW hn
    have HST := Lib.hid hst1
    have HF := Lib.hid hF
    clear hst1 hF
    rcases hcc with hc | hc <;> rcases hm with hm | hm
    all_goals
      go_enter Try.func3, Try.ntmps3
      go_wp2_with fail
      refine (awake_any _).mono ?_
      rintro e w1 ⟨rfl, hb1⟩
      go_wp2_with fail
      refine (HN.out _).mono ?_
      rintro e w2 ⟨xb, sv, rfl, hI, _, _, hb2⟩
      go_wp2_with fail
      refine (HR.out xb sv _ hI).mono ?_
      rintro e w3 ⟨rfl, hb3⟩
      go_wp2_with fail
      refine (HL.out _).mono ?_
      rintro e w4 ⟨v, rfl, hown, hb4⟩
      obtain ⟨g, cc, rfl⟩ := ownsRow_succ hown
      have hI3 := (hI.below hb3).below hb4
      have hB4 := ((hb1.trans (hb2.mono hb1.size)).trans (hb3.mono (Nat.le_trans hb1.size hb2.size))).trans (hb4.mono (Nat.le_trans (Nat.le_trans hb1.size hb2.size) hb3.size))
      have hck := HST.out _ _ _ _ hown
      have hgl := (str_blk hown).1
      clear hown hI
      go_wp2_with fail
      refine (HA.out xb sv _ hI3).mono ?_
      rintro e w5 ⟨rfl, hd5⟩
      have hI5 := hI3.drew hd5
      go_wp2_with fail
      refine (HS.out xb sv _ hI5).mono ?_
      rintro e w6 ⟨rfl, hd6⟩
      have hI6 := hI5.drew hd6
      go_wp2_with fail
      refine (HO.out _).mono ?_
      rintro e w7 ⟨rfl, hb7⟩
      have hI7 := hI6.below hb7
      have hB7 := ((hB4.trans hd5.below).trans hd6.below).trans (hb7.mono (Nat.le_trans hB4.size (Nat.le_trans (hd5.below (n := 0)).size (hd6.below (n := 0)).size)))
      go_wp2_with fail
      refine (HW.out xb sv _ hI7).mono ?_
      rintro e w8 ⟨rfl, hd8⟩
      have hck8 := ((hd8.below (n := w7.heap.size)).cell (p := ⟨g, l, none⟩) (Nat.lt_of_lt_of_le hgl (Nat.le_trans (Nat.le_trans (hd5.below (n := 0)).size (hd6.below (n := 0)).size) hb7.size))).trans ((hb7.cell (p := ⟨g, l, none⟩) (Nat.lt_of_lt_of_le hgl (Nat.le_trans (hd5.below (n := 0)).size (hd6.below (n := 0)).size))).trans (((hd6.below (n := w5.heap.size)).cell (p := ⟨g, l, none⟩) (Nat.lt_of_lt_of_le hgl (hd5.below (n := 0)).size)).trans (((hd5.below (n := w4.heap.size)).cell (p := ⟨g, l, none⟩) hgl).trans hck)))
      go_wp2_with (go_at_call 14; refine (HF.out _).mono ?_; rintro e w9 ⟨rfl, rfl⟩)
      go_ret
      exact ⟨rfl, hB7.trans hd8.below⟩

set_option maxRecDepth 100000 in
set_option maxHeartbeats 4000000 in
theorem tell_4 (s : ByteArray) (line col m : Int) (w : World) (hs : s.size ≤ 200) (l : Nat) (hline : line = l) (hl : l ≤ ct s s.size) (hm : 0 ≤ m ∧ m ≤ (s.size : Int)) (hc : col < 0 ∨ (((lns s)[l]?.getD ⟨#[]⟩).size : Int) < col) :
    Calls Try.prog 3 #[.string s, .int .i64 line, .int .i64 col, .int .i64 m] w fun e w' => e = .returned (.bool true) ∧ Below w.heap.size w w' := by
    have hs1 : s.size ≤ 1000000 := by omega
    have hct := ct_le s s.size
    have hll := lns_length s
    have hN := fun w' => new_any s hs1 w'
    have hR := fun xb sv w' (hI : Ix w' xb sv s) => right_any s xb sv w' hs1 hI
    have hL := fun w' => reflines_any s w' hs1
    have hA := fun xb sv w' (hI : Ix w' xb sv s) => at_any s xb sv w' hs1 hI line col
    have hS := fun xb sv w' (hI : Ix w' xb sv s) => span_any s xb sv w' hs1 hI line
    have hO := fun w' => of_any s hs1 line w'
    have hW := fun xb sv w' (hI : Ix w' xb sv s) => where_any s xb sv w' hs1 hI m
    have hst : ∀ (base g c : Nat) (w1 : World), w1.ownsRow base 9 1 (.slice (some ⟨g, 0, none⟩) (ct s s.size + 1) c) (ct s s.size + 1) (strCells (lns s)) → ∀ l, l ≤ ct s s.size → w1.cell? ⟨g, l, none⟩ = some (.string ((lns s)[l]?.getD ⟨#[]⟩)) := fun _ _ _ _ h l hl => strs_at h hll l (by omega)
    have hz : ¬ (200 : Int) < (s.size : Int) := by omega
    unfold atV at hA
    unfold spanV at hS
    unfold ofV at hO
    unfold whereV at hW
    have hcc := hc
    clear hc
    subst hline
    have h1 := lns_size s hl
    have h2 := head_end s hl
    have hF := fun w' => first_any s l w' hs1 hl
    have hst1 := fun base g c w1 h => hst base g c w1 h l hl
    clear hst hll
    rw [if_pos (by omega)] at hS hO
    simp only [Int.toNat_natCast] at hA hS hO
    obtain ⟨x, hx⟩ : ∃ x, (lns s)[l]?.getD ⟨#[]⟩ = x := ⟨_, rfl⟩
    obtain ⟨h, hh⟩ : ∃ h, headL (br s s.size) l = h := ⟨_, rfl⟩
    obtain ⟨t, ht⟩ : ∃ t, endL (br s s.size) s.size l = t := ⟨_, rfl⟩
    rw [hx] at h1 hO hst1 hcc
    rw [hh] at h1 h2 hA hS hF
    rw [ht] at h1 h2 hA hS
    rw [show (t : Int) - h = (x.size : Int) from by omega] at hA
    have hhs : h ≤ 200 := by omega
    have hxs : x.size ≤ 200 := by omega
    clear hx hh ht h1 h2
    rw [if_neg (by omega)] at hA
    rw [if_pos (by omega)] at hW
    obtain ⟨k, rfl⟩ : ∃ k : Nat, m = k := ⟨m.toNat, by omega⟩
    simp only [Int.toNat_natCast] at hW
    have hk1 : (k : Int) ≤ s.size := by omega
    clear hm
    obtain ⟨n, hn⟩ : ∃ n, ct s s.size = n := ⟨_, rfl⟩
    rw [hn] at *
    have HN := Lib.hid hN
    have HR := Lib.hid hR
    have HL := Lib.hid hL
    have HA := Lib.hid hA
    have HS := Lib.hid hS
    have HO := Lib.hid hO
    have HW := Lib.hid hW
    clear hN hR hL hA hS hO hW hn
    have HST := Lib.hid hst1
    have HF := Lib.hid hF
    clear hst1 hF
    rcases hcc with hc | hc
    all_goals
      go_enter Try.func3, Try.ntmps3
      go_wp2_with fail
      refine (awake_any _).mono ?_
      rintro e w1 ⟨rfl, hb1⟩
      go_wp2_with fail
      refine (HN.out _).mono ?_
      rintro e w2 ⟨xb, sv, rfl, hI, _, _, hb2⟩
      go_wp2_with fail
      refine (HR.out xb sv _ hI).mono ?_
      rintro e w3 ⟨rfl, hb3⟩
      go_wp2_with fail
      refine (HL.out _).mono ?_
      rintro e w4 ⟨v, rfl, hown, hb4⟩
      obtain ⟨g, cc, rfl⟩ := ownsRow_succ hown
      have hI3 := (hI.below hb3).below hb4
      have hB4 := ((hb1.trans (hb2.mono hb1.size)).trans (hb3.mono (Nat.le_trans hb1.size hb2.size))).trans (hb4.mono (Nat.le_trans (Nat.le_trans hb1.size hb2.size) hb3.size))
      have hck := HST.out _ _ _ _ hown
      have hgl := (str_blk hown).1
      clear hown hI
      go_wp2_with fail
      refine (HA.out xb sv _ hI3).mono ?_
      rintro e w5 ⟨rfl, hd5⟩
      have hI5 := hI3.drew hd5
      go_wp2_with fail
      refine (HS.out xb sv _ hI5).mono ?_
      rintro e w6 ⟨rfl, hd6⟩
      have hI6 := hI5.drew hd6
      go_wp2_with fail
      refine (HO.out _).mono ?_
      rintro e w7 ⟨rfl, hb7⟩
      have hI7 := hI6.below hb7
      have hB7 := ((hB4.trans hd5.below).trans hd6.below).trans (hb7.mono (Nat.le_trans hB4.size (Nat.le_trans (hd5.below (n := 0)).size (hd6.below (n := 0)).size)))
      go_wp2_with fail
      refine (HW.out xb sv _ hI7).mono ?_
      rintro e w8 ⟨rfl, hd8⟩
      have hck8 := ((hd8.below (n := w7.heap.size)).cell (p := ⟨g, l, none⟩) (Nat.lt_of_lt_of_le hgl (Nat.le_trans (Nat.le_trans (hd5.below (n := 0)).size (hd6.below (n := 0)).size) hb7.size))).trans ((hb7.cell (p := ⟨g, l, none⟩) (Nat.lt_of_lt_of_le hgl (Nat.le_trans (hd5.below (n := 0)).size (hd6.below (n := 0)).size))).trans (((hd6.below (n := w5.heap.size)).cell (p := ⟨g, l, none⟩) (Nat.lt_of_lt_of_le hgl (hd5.below (n := 0)).size)).trans (((hd5.below (n := w4.heap.size)).cell (p := ⟨g, l, none⟩) hgl).trans hck)))
      go_wp2_with (go_at_call 14; refine (HF.out _).mono ?_; rintro e w9 ⟨rfl, rfl⟩)
      go_ret
      exact ⟨rfl, hB7.trans hd8.below⟩

set_option maxRecDepth 100000 in
set_option maxHeartbeats 4000000 in
theorem tell_5 (s : ByteArray) (line col m : Int) (w : World) (hs : s.size ≤ 200) (l : Nat) (hline : line = l) (hl : l ≤ ct s s.size) (hm : m < 0 ∨ (s.size : Int) < m) (hc1 : 0 ≤ col) (hc2 : col ≤ (((lns s)[l]?.getD ⟨#[]⟩).size : Int)) :
    Calls Try.prog 3 #[.string s, .int .i64 line, .int .i64 col, .int .i64 m] w fun e w' => e = .returned (.bool true) ∧ Below w.heap.size w w' := by
    have hs1 : s.size ≤ 1000000 := by omega
    have hct := ct_le s s.size
    have hll := lns_length s
    have hN := fun w' => new_any s hs1 w'
    have hR := fun xb sv w' (hI : Ix w' xb sv s) => right_any s xb sv w' hs1 hI
    have hL := fun w' => reflines_any s w' hs1
    have hA := fun xb sv w' (hI : Ix w' xb sv s) => at_any s xb sv w' hs1 hI line col
    have hS := fun xb sv w' (hI : Ix w' xb sv s) => span_any s xb sv w' hs1 hI line
    have hO := fun w' => of_any s hs1 line w'
    have hW := fun xb sv w' (hI : Ix w' xb sv s) => where_any s xb sv w' hs1 hI m
    have hst : ∀ (base g c : Nat) (w1 : World), w1.ownsRow base 9 1 (.slice (some ⟨g, 0, none⟩) (ct s s.size + 1) c) (ct s s.size + 1) (strCells (lns s)) → ∀ l, l ≤ ct s s.size → w1.cell? ⟨g, l, none⟩ = some (.string ((lns s)[l]?.getD ⟨#[]⟩)) := fun _ _ _ _ h l hl => strs_at h hll l (by omega)
    have hz : ¬ (200 : Int) < (s.size : Int) := by omega
    unfold atV at hA
    unfold spanV at hS
    unfold ofV at hO
    unfold whereV at hW
    subst hline
    have h1 := lns_size s hl
    have h2 := head_end s hl
    have hF := fun w' => first_any s l w' hs1 hl
    have hst1 := fun base g c w1 h => hst base g c w1 h l hl
    clear hst hll
    rw [if_pos (by omega)] at hS hO
    simp only [Int.toNat_natCast] at hA hS hO
    obtain ⟨x, hx⟩ : ∃ x, (lns s)[l]?.getD ⟨#[]⟩ = x := ⟨_, rfl⟩
    obtain ⟨h, hh⟩ : ∃ h, headL (br s s.size) l = h := ⟨_, rfl⟩
    obtain ⟨t, ht⟩ : ∃ t, endL (br s s.size) s.size l = t := ⟨_, rfl⟩
    rw [hx] at h1 hO hst1 hc2
    rw [hh] at h1 h2 hA hS hF
    rw [ht] at h1 h2 hA hS
    rw [show (t : Int) - h = (x.size : Int) from by omega] at hA
    have hhs : h ≤ 200 := by omega
    have hxs : x.size ≤ 200 := by omega
    clear hx hh ht h1 h2
    rw [if_pos (by omega)] at hA
    have q1 : IntKind.i64.wrap ((h : Int) + col) = (h : Int) + col := IntWalk.i64_in _ (by omega)
    rw [if_neg (by omega)] at hW
    obtain ⟨n, hn⟩ : ∃ n, ct s s.size = n := ⟨_, rfl⟩
    rw [hn] at *
    have HN := Lib.hid hN
    have HR := Lib.hid hR
    have HL := Lib.hid hL
    have HA := Lib.hid hA
    have HS := Lib.hid hS
    have HO := Lib.hid hO
    have HW := Lib.hid hW
    clear hN hR hL hA hS hO hW hn
    have HST := Lib.hid hst1
    have HF := Lib.hid hF
    clear hst1 hF
    rcases hm with hm | hm
    all_goals
      go_enter Try.func3, Try.ntmps3
      go_wp2_with fail
      refine (awake_any _).mono ?_
      rintro e w1 ⟨rfl, hb1⟩
      go_wp2_with fail
      refine (HN.out _).mono ?_
      rintro e w2 ⟨xb, sv, rfl, hI, _, _, hb2⟩
      go_wp2_with fail
      refine (HR.out xb sv _ hI).mono ?_
      rintro e w3 ⟨rfl, hb3⟩
      go_wp2_with fail
      refine (HL.out _).mono ?_
      rintro e w4 ⟨v, rfl, hown, hb4⟩
      obtain ⟨g, cc, rfl⟩ := ownsRow_succ hown
      have hI3 := (hI.below hb3).below hb4
      have hB4 := ((hb1.trans (hb2.mono hb1.size)).trans (hb3.mono (Nat.le_trans hb1.size hb2.size))).trans (hb4.mono (Nat.le_trans (Nat.le_trans hb1.size hb2.size) hb3.size))
      have hck := HST.out _ _ _ _ hown
      have hgl := (str_blk hown).1
      clear hown hI
      go_wp2_with fail
      refine (HA.out xb sv _ hI3).mono ?_
      rintro e w5 ⟨rfl, hd5⟩
      have hI5 := hI3.drew hd5
      go_wp2_with fail
      refine (HS.out xb sv _ hI5).mono ?_
      rintro e w6 ⟨rfl, hd6⟩
      have hI6 := hI5.drew hd6
      go_wp2_with fail
      refine (HO.out _).mono ?_
      rintro e w7 ⟨rfl, hb7⟩
      have hI7 := hI6.below hb7
      have hB7 := ((hB4.trans hd5.below).trans hd6.below).trans (hb7.mono (Nat.le_trans hB4.size (Nat.le_trans (hd5.below (n := 0)).size (hd6.below (n := 0)).size)))
      go_wp2_with fail
      refine (HW.out xb sv _ hI7).mono ?_
      rintro e w8 ⟨rfl, hd8⟩
      have hck8 := ((hd8.below (n := w7.heap.size)).cell (p := ⟨g, l, none⟩) (Nat.lt_of_lt_of_le hgl (Nat.le_trans (Nat.le_trans (hd5.below (n := 0)).size (hd6.below (n := 0)).size) hb7.size))).trans ((hb7.cell (p := ⟨g, l, none⟩) (Nat.lt_of_lt_of_le hgl (Nat.le_trans (hd5.below (n := 0)).size (hd6.below (n := 0)).size))).trans (((hd6.below (n := w5.heap.size)).cell (p := ⟨g, l, none⟩) (Nat.lt_of_lt_of_le hgl (hd5.below (n := 0)).size)).trans (((hd5.below (n := w4.heap.size)).cell (p := ⟨g, l, none⟩) hgl).trans hck)))
      go_wp2_with (go_at_call 14; refine (HF.out _).mono ?_; rintro e w9 ⟨rfl, rfl⟩)
      go_ret
      exact ⟨rfl, hB7.trans hd8.below⟩

set_option maxRecDepth 100000 in
set_option maxHeartbeats 4000000 in
theorem tell_6 (s : ByteArray) (line col m : Int) (w : World) (hs : s.size ≤ 200) (l : Nat) (hline : line = l) (hl : l ≤ ct s s.size) (hm : 0 ≤ m ∧ m ≤ (s.size : Int)) (hc1 : 0 ≤ col) (hc2 : col ≤ (((lns s)[l]?.getD ⟨#[]⟩).size : Int)) :
    Calls Try.prog 3 #[.string s, .int .i64 line, .int .i64 col, .int .i64 m] w fun e w' => e = .returned (.bool true) ∧ Below w.heap.size w w' := by
    have hs1 : s.size ≤ 1000000 := by omega
    have hct := ct_le s s.size
    have hll := lns_length s
    have hN := fun w' => new_any s hs1 w'
    have hR := fun xb sv w' (hI : Ix w' xb sv s) => right_any s xb sv w' hs1 hI
    have hL := fun w' => reflines_any s w' hs1
    have hA := fun xb sv w' (hI : Ix w' xb sv s) => at_any s xb sv w' hs1 hI line col
    have hS := fun xb sv w' (hI : Ix w' xb sv s) => span_any s xb sv w' hs1 hI line
    have hO := fun w' => of_any s hs1 line w'
    have hW := fun xb sv w' (hI : Ix w' xb sv s) => where_any s xb sv w' hs1 hI m
    have hst : ∀ (base g c : Nat) (w1 : World), w1.ownsRow base 9 1 (.slice (some ⟨g, 0, none⟩) (ct s s.size + 1) c) (ct s s.size + 1) (strCells (lns s)) → ∀ l, l ≤ ct s s.size → w1.cell? ⟨g, l, none⟩ = some (.string ((lns s)[l]?.getD ⟨#[]⟩)) := fun _ _ _ _ h l hl => strs_at h hll l (by omega)
    have hz : ¬ (200 : Int) < (s.size : Int) := by omega
    unfold atV at hA
    unfold spanV at hS
    unfold ofV at hO
    unfold whereV at hW
    subst hline
    have h1 := lns_size s hl
    have h2 := head_end s hl
    have hF := fun w' => first_any s l w' hs1 hl
    have hst1 := fun base g c w1 h => hst base g c w1 h l hl
    clear hst hll
    rw [if_pos (by omega)] at hS hO
    simp only [Int.toNat_natCast] at hA hS hO
    obtain ⟨x, hx⟩ : ∃ x, (lns s)[l]?.getD ⟨#[]⟩ = x := ⟨_, rfl⟩
    obtain ⟨h, hh⟩ : ∃ h, headL (br s s.size) l = h := ⟨_, rfl⟩
    obtain ⟨t, ht⟩ : ∃ t, endL (br s s.size) s.size l = t := ⟨_, rfl⟩
    rw [hx] at h1 hO hst1 hc2
    rw [hh] at h1 h2 hA hS hF
    rw [ht] at h1 h2 hA hS
    rw [show (t : Int) - h = (x.size : Int) from by omega] at hA
    have hhs : h ≤ 200 := by omega
    have hxs : x.size ≤ 200 := by omega
    clear hx hh ht h1 h2
    rw [if_pos (by omega)] at hA
    have q1 : IntKind.i64.wrap ((h : Int) + col) = (h : Int) + col := IntWalk.i64_in _ (by omega)
    rw [if_pos (by omega)] at hW
    obtain ⟨k, rfl⟩ : ∃ k : Nat, m = k := ⟨m.toNat, by omega⟩
    simp only [Int.toNat_natCast] at hW
    have hk1 : (k : Int) ≤ s.size := by omega
    clear hm
    obtain ⟨n, hn⟩ : ∃ n, ct s s.size = n := ⟨_, rfl⟩
    rw [hn] at *
    have HN := Lib.hid hN
    have HR := Lib.hid hR
    have HL := Lib.hid hL
    have HA := Lib.hid hA
    have HS := Lib.hid hS
    have HO := Lib.hid hO
    have HW := Lib.hid hW
    clear hN hR hL hA hS hO hW hn
    have HST := Lib.hid hst1
    have HF := Lib.hid hF
    clear hst1 hF
    all_goals
      go_enter Try.func3, Try.ntmps3
      go_wp2_with fail
      refine (awake_any _).mono ?_
      rintro e w1 ⟨rfl, hb1⟩
      go_wp2_with fail
      refine (HN.out _).mono ?_
      rintro e w2 ⟨xb, sv, rfl, hI, _, _, hb2⟩
      go_wp2_with fail
      refine (HR.out xb sv _ hI).mono ?_
      rintro e w3 ⟨rfl, hb3⟩
      go_wp2_with fail
      refine (HL.out _).mono ?_
      rintro e w4 ⟨v, rfl, hown, hb4⟩
      obtain ⟨g, cc, rfl⟩ := ownsRow_succ hown
      have hI3 := (hI.below hb3).below hb4
      have hB4 := ((hb1.trans (hb2.mono hb1.size)).trans (hb3.mono (Nat.le_trans hb1.size hb2.size))).trans (hb4.mono (Nat.le_trans (Nat.le_trans hb1.size hb2.size) hb3.size))
      have hck := HST.out _ _ _ _ hown
      have hgl := (str_blk hown).1
      clear hown hI
      go_wp2_with fail
      refine (HA.out xb sv _ hI3).mono ?_
      rintro e w5 ⟨rfl, hd5⟩
      have hI5 := hI3.drew hd5
      go_wp2_with fail
      refine (HS.out xb sv _ hI5).mono ?_
      rintro e w6 ⟨rfl, hd6⟩
      have hI6 := hI5.drew hd6
      go_wp2_with fail
      refine (HO.out _).mono ?_
      rintro e w7 ⟨rfl, hb7⟩
      have hI7 := hI6.below hb7
      have hB7 := ((hB4.trans hd5.below).trans hd6.below).trans (hb7.mono (Nat.le_trans hB4.size (Nat.le_trans (hd5.below (n := 0)).size (hd6.below (n := 0)).size)))
      go_wp2_with fail
      refine (HW.out xb sv _ hI7).mono ?_
      rintro e w8 ⟨rfl, hd8⟩
      have hck8 := ((hd8.below (n := w7.heap.size)).cell (p := ⟨g, l, none⟩) (Nat.lt_of_lt_of_le hgl (Nat.le_trans (Nat.le_trans (hd5.below (n := 0)).size (hd6.below (n := 0)).size) hb7.size))).trans ((hb7.cell (p := ⟨g, l, none⟩) (Nat.lt_of_lt_of_le hgl (Nat.le_trans (hd5.below (n := 0)).size (hd6.below (n := 0)).size))).trans (((hd6.below (n := w5.heap.size)).cell (p := ⟨g, l, none⟩) (Nat.lt_of_lt_of_le hgl (hd5.below (n := 0)).size)).trans (((hd5.below (n := w4.heap.size)).cell (p := ⟨g, l, none⟩) hgl).trans hck)))
      go_wp2_with (go_at_call 14; refine (HF.out _).mono ?_; rintro e w9 ⟨rfl, rfl⟩)
      go_ret
      exact ⟨rfl, hB7.trans hd8.below⟩

set_option maxRecDepth 100000 in
set_option maxHeartbeats 4000000 in
theorem linesTell_any (s : ByteArray) (line col m : Int) (w : World) (hmax : s.size ≤ 9223372036854775807) :
    Calls Try.prog 3 #[.string s, .int .i64 line, .int .i64 col, .int .i64 m] w fun e w' => e = .returned (.bool true) ∧ Below w.heap.size w w' := by
  by_cases hs : s.size ≤ 200
  · by_cases c : line < 0 ∨ (ct s s.size : Int) < line
    · by_cases c2 : m < 0 ∨ (s.size : Int) < m
      · exact tell_1 s line col m w hs c c2
      · exact tell_2 s line col m w hs c (by omega)
    · obtain ⟨l, hl⟩ : ∃ l : Nat, line = l := ⟨line.toNat, by omega⟩
      have hl2 : l ≤ ct s s.size := by omega
      by_cases c3 : col < 0 ∨ (((lns s)[l]?.getD ⟨#[]⟩).size : Int) < col
      · by_cases c2 : m < 0 ∨ (s.size : Int) < m
        · exact tell_3 s line col m w hs l hl hl2 c2 c3
        · exact tell_4 s line col m w hs l hl hl2 (by omega) c3
      · by_cases c2 : m < 0 ∨ (s.size : Int) < m
        · exact tell_5 s line col m w hs l hl hl2 c2 (by omega) (by omega)
        · exact tell_6 s line col m w hs l hl hl2 (by omega) (by omega) (by omega)
  · have hz : (200 : Int) < (s.size : Int) := by omega
    go_enter Try.func3, Try.ntmps3
    go_wp2_with fail
    refine (awake_any _).mono ?_
    rintro e w1 ⟨rfl, hb1⟩
    go_wp2
    go_ret
    exact ⟨rfl, hb1⟩
end Go.Proofs.Ytiiebholgmhogaa

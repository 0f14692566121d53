/- What New, Where, Span, At, Near and Of of layer 3 (lines) return. Condition: texts of at most a million bytes; the index at hand lies in memory as such. -/
import Derived.Test.YtiiebholgmhogaaLnD
import Derived.Lib.MinMax
namespace Go.Proofs.Ytiiebholgmhogaa
open Go.RowKit Go.Shelf
set_option linter.unusedVariables false

section
variable (s : ByteArray) (xb : Nat) (sv : Value) (w : World)
set_option maxHeartbeats 1000000 in
theorem span_mid (hs : s.size ≤ 1000000) (hI : Ix w xb sv s) (l : Nat) (hl : l < ct s s.size) :
    Calls Try.prog 11 #[.pointer (some ⟨xb, 0, none⟩), .int .i64 l] w fun e w' => e = .returned (.tuple #[.int .i64 (headL (br s s.size) l : Nat), .int .i64 ((br s s.size)[l]?.getD 0 : Nat), .int .i64 0]) ∧ Drew w w' := by
  have hct := ct_le s s.size
  have c0 : w.cell? ⟨xb, 0, none⟩ = some sv := hI.obj.cell 0
  have hh : ∀ w', Below w.heap.size w w' → Calls Try.prog 22 #[.pointer (some ⟨xb, 0, none⟩), .int .i64 l] w' fun e w'' => e = .returned (.int .i64 (headL (br s s.size) l : Nat)) ∧ w'' = w' :=
    fun w' hb => head_any s xb sv w' hs (hI.below hb) _ (by omega)
  have hfm := hI.form
  have hcn : ∀ w', Below w.heap.size w w' → Calls Try.prog 19 #[.pointer (some ⟨xb, 0, none⟩)] w' fun e w'' => e = .returned (.int .i64 (ct s s.size + 1 : Nat)) ∧ w'' = w' := fun w' hb => count_any s xb sv w' hs (hI.below hb)
  obtain ⟨n, hn⟩ : ∃ n, ct s s.size = n := ⟨_, rfl⟩
  obtain ⟨x, hx⟩ : ∃ x, headL (br s s.size) l = x := ⟨_, rfl⟩
  rw [hn] at hct hfm hcn hl
  rw [hx] at hh ⊢
  have HH := Lib.hid hh
  have HC := Lib.hid hcn
  clear hh hcn hn hx
  rcases hfm with ⟨rfl, h0⟩ | ⟨g, cap, rfl, hnc, hg, hgx, hc⟩
  · omega
  · have hcl := hc l hl
    obtain ⟨v, hv⟩ : ∃ v, (br s s.size)[l]?.getD 0 = v := ⟨_, rfl⟩
    rw [hv] at hcl ⊢
    clear hc hv
    have q3 : (l : Int) < (n : Int) := by omega
    have q4 : ¬ (l : Int) = (n : Int) := by omega
    go_enter Try.func11, Try.ntmps11
    go_wp2_with (go_at_call 19; refine (HC.out _ (Below.refl _ _)).mono ?_; rintro e w1 ⟨rfl, rfl⟩)
    go_quiet ((go_at_call 22; exact Calls.quiet_of_same (HH.out _ (by first | exact Below.refl _ _ | exact (Below.refl _ _).drew | exact below_drewN (Below.refl _ _) _))))
    go_wp2
    go_ret3
    exact ⟨rfl, _, rfl⟩
theorem span_good (hs : s.size ≤ 1000000) (hI : Ix w xb sv s) (l : Nat) (hl : l ≤ ct s s.size) :
    Calls Try.prog 11 #[.pointer (some ⟨xb, 0, none⟩), .int .i64 l] w fun e w' => e = .returned (.tuple #[.int .i64 (headL (br s s.size) l : Nat), .int .i64 (endL (br s s.size) s.size l : Nat), .int .i64 0]) ∧ Drew w w' := by
  unfold endL
  rw [br_length]
  by_cases c : l = ct s s.size
  · rw [if_pos c, c]
    exact span_last s xb sv w hs hI
  · rw [if_neg c]
    exact span_mid s xb sv w hs hI l (by omega)
theorem span_any (hs : s.size ≤ 1000000) (hI : Ix w xb sv s) (line : Int) :
    Calls Try.prog 11 #[.pointer (some ⟨xb, 0, none⟩), .int .i64 line] w fun e w' => e = .returned (spanV s line) ∧ Drew w w' := by
  unfold spanV
  by_cases c : 0 ≤ line ∧ line ≤ ct s s.size
  · rw [if_pos c]
    obtain ⟨l, rfl⟩ := Int.eq_ofNat_of_zero_le c.1
    simpa using span_good s xb sv w hs hI l (by omega)
  · rw [if_neg c]
    refine (span_bad s xb sv w hs hI line (by omega)).mono ?_
    rintro e w' ⟨rfl, rfl⟩
    exact ⟨rfl, Drew.refl _⟩

theorem nearest_any (n m : Int) (w : World) :
    Calls Try.prog 25 #[.int .i64 n, .int .i64 m] w fun e w' => e = .returned (.int .i64 (min (max n 0) m)) ∧ w' = w := by
  go_enter Try.func25, Try.ntmps25
  go_wp2
  go_ret
  exact ⟨rfl, rfl⟩

/-- What At answers. -/
def atV (s : ByteArray) (line col : Int) : Value :=
  if 0 ≤ line ∧ line ≤ ct s s.size ∧ 0 ≤ col ∧ col ≤ (endL (br s s.size) s.size line.toNat : Int) - headL (br s s.size) line.toNat then .tuple #[.int .i64 (headL (br s s.size) line.toNat + col), .int .i64 0]
  else .tuple #[.int .i64 0, .int .i64 1]
set_option maxHeartbeats 1000000 in
theorem at_any (hs : s.size ≤ 1000000) (hI : Ix w xb sv s) (line col : Int) :
    Calls Try.prog 10 #[.pointer (some ⟨xb, 0, none⟩), .int .i64 line, .int .i64 col] w fun e w' => e = .returned (atV s line col) ∧ Drew w w' := by
  have hsp : ∀ w', Below w.heap.size w w' → Calls Try.prog 11 #[.pointer (some ⟨xb, 0, none⟩), .int .i64 line] w' fun e w'' => e = .returned (spanV s line) ∧ Drew w' w'' := fun w' hb => span_any s xb sv w' hs (hI.below hb) line
  unfold atV
  by_cases c : 0 ≤ line ∧ line ≤ ct s s.size
  · have hle := head_end s (i := line.toNat) (by omega)
    have e1 : spanV s line = .tuple #[.int .i64 (headL (br s s.size) line.toNat : Nat), .int .i64 (endL (br s s.size) s.size line.toNat : Nat), .int .i64 0] := by unfold spanV; rw [if_pos c]
    rw [e1] at hsp
    obtain ⟨h, hh⟩ : ∃ h, headL (br s s.size) line.toNat = h := ⟨_, rfl⟩
    obtain ⟨t, ht⟩ : ∃ t, endL (br s s.size) s.size line.toNat = t := ⟨_, rfl⟩
    rw [hh, ht] at hle hsp ⊢
    have HS := Lib.hid hsp
    clear hsp e1 hh ht
    have q1 : IntKind.i64.wrap ((t : Int) - h) = (t : Int) - h := IntWalk.i64_in _ (by omega)
    by_cases c2 : 0 ≤ col ∧ col ≤ (t : Int) - h
    · rw [if_pos ⟨c.1, c.2, c2.1, c2.2⟩]
      have c3 := c2.1
      have c4 := c2.2
      have q2 : IntKind.i64.wrap ((h : Int) + col) = (h : Int) + col := IntWalk.i64_in _ (by omega)
      clear c c2
      go_enter Try.func10, Try.ntmps10
      go_wp2_with (go_at_call 11; refine (HS.out _ (Below.refl _ _)).mono ?_; rintro e w1 ⟨rfl, hb⟩)
      go_ret2
      exact ⟨rfl, hb⟩
    · rw [if_neg (fun h => c2 ⟨h.2.2.1, h.2.2.2⟩)]
      clear c
      by_cases c3 : col < 0
      · clear c2
        go_enter Try.func10, Try.ntmps10
        go_wp2_with (go_at_call 11; refine (HS.out _ (Below.refl _ _)).mono ?_; rintro e w1 ⟨rfl, hb⟩)
        go_ret2
        exact ⟨rfl, hb⟩
      · have c4 : (t : Int) - h < col := by omega
        clear c2
        go_enter Try.func10, Try.ntmps10
        go_wp2_with (go_at_call 11; refine (HS.out _ (Below.refl _ _)).mono ?_; rintro e w1 ⟨rfl, hb⟩)
        go_ret2
        exact ⟨rfl, hb⟩
  · rw [if_neg (fun h => c ⟨h.1, h.2.1⟩)]
    have e1 : spanV s line = .tuple #[.int .i64 0, .int .i64 0, .int .i64 1] := by unfold spanV; rw [if_neg c]
    rw [e1] at hsp
    have HS := Lib.hid hsp
    clear hsp e1 c
    go_enter Try.func10, Try.ntmps10
    go_wp2_with (go_at_call 11; refine (HS.out _ (Below.refl _ _)).mono ?_; rintro e w1 ⟨rfl, hb⟩)
    go_ret2
    exact ⟨rfl, hb⟩

/-- Where Near answers. -/
def nearN (s : ByteArray) (line col : Int) : Int :=
  (headL (br s s.size) (min (max line 0) (ct s s.size : Int)).toNat : Int) + min (max col 0) ((endL (br s s.size) s.size (min (max line 0) (ct s s.size : Int)).toNat : Int) - headL (br s s.size) (min (max line 0) (ct s s.size : Int)).toNat)
set_option maxHeartbeats 1000000 in
theorem near_any (hs : s.size ≤ 1000000) (hI : Ix w xb sv s) (line col : Int) :
    Calls Try.prog 15 #[.pointer (some ⟨xb, 0, none⟩), .int .i64 line, .int .i64 col] w fun e w' => e = .returned (.int .i64 (nearN s line col)) ∧ Drew w w' := by
  have hct := ct_le s s.size
  unfold nearN
  obtain ⟨l, hl⟩ : ∃ l : Nat, min (max line 0) (ct s s.size : Int) = l := ⟨(min (max line 0) (ct s s.size : Int)).toNat, by omega⟩
  have hl2 : l ≤ ct s s.size := by omega
  have hle := head_end s hl2
  have hsp : ∀ w', Below w.heap.size w w' → Calls Try.prog 11 #[.pointer (some ⟨xb, 0, none⟩), .int .i64 l] w' fun e w'' => e = .returned (.tuple #[.int .i64 (headL (br s s.size) l : Nat), .int .i64 (endL (br s s.size) s.size l : Nat), .int .i64 0]) ∧ Drew w' w'' := fun w' hb => span_good s xb sv w' hs (hI.below hb) l hl2
  have hcn : ∀ w', Below w.heap.size w w' → Calls Try.prog 19 #[.pointer (some ⟨xb, 0, none⟩)] w' fun e w'' => e = .returned (.int .i64 (ct s s.size + 1 : Nat)) ∧ w'' = w' := fun w' hb => count_any s xb sv w' hs (hI.below hb)
  have hne : ∀ w', Calls Try.prog 25 #[.int .i64 line, .int .i64 (ct s s.size : Nat)] w' fun e w'' => e = .returned (.int .i64 l) ∧ w'' = w' := fun w' => by
    have := nearest_any line (ct s s.size : Nat) w'
    rwa [hl] at this
  rw [hl]
  simp only [Int.toNat_natCast]
  obtain ⟨n, hn⟩ : ∃ n, ct s s.size = n := ⟨_, rfl⟩
  obtain ⟨h, hh⟩ : ∃ h, headL (br s s.size) l = h := ⟨_, rfl⟩
  obtain ⟨t, ht⟩ : ∃ t, endL (br s s.size) s.size l = t := ⟨_, rfl⟩
  rw [hh, ht] at hle hsp ⊢
  rw [hn] at hne hcn hct
  have q1 : IntKind.i64.wrap ((t : Int) - h) = (t : Int) - h := IntWalk.i64_in _ (by omega)
  have hnr2 : ∀ w', Calls Try.prog 25 #[.int .i64 col, .int .i64 ((t : Int) - h)] w' fun e w'' => e = .returned (.int .i64 (min (max col 0) ((t : Int) - h))) ∧ w'' = w' := fun w' => nearest_any col _ w'
  obtain ⟨r, hr⟩ : ∃ r, min (max col 0) ((t : Int) - h) = r := ⟨_, rfl⟩
  have hr1 : 0 ≤ r ∧ r ≤ 1000000 := by omega
  rw [hr] at hnr2 ⊢
  have hr2 := hr1.1
  have hr3 := hr1.2
  have HS := Lib.hid hsp
  have HC := Lib.hid hcn
  have HN := Lib.hid hne
  have HM := Lib.hid hnr2
  clear hsp hcn hne hnr2 hl hn hh ht hr hr1
  go_enter Try.func15, Try.ntmps15
  go_wp2_with fail
  refine (HC.out _ (Below.refl _ _)).mono ?_
  rintro e w1 ⟨rfl, rfl⟩
  go_wp2_with fail
  refine (HN.out _).mono ?_
  rintro e w2 ⟨rfl, rfl⟩
  go_wp2_with fail
  refine (HS.out _ (Below.refl _ _)).mono ?_
  rintro e w3 ⟨rfl, hb⟩
  go_wp2_with fail
  refine (HM.out _).mono ?_
  rintro e w4 ⟨rfl, rfl⟩
  go_wp2
  go_ret
  exact ⟨rfl, hb⟩
end
end Go.Proofs.Ytiiebholgmhogaa

/- What itself and quotes of layer 8 (literal) return. Condition: a part that lies in the text. -/
import Derived.Test.YtholjhdjlhkocaaLtP
namespace Go.Proofs.Ytholjhdjlhkocaa
open Go.RowKit
set_option linter.unusedVariables false

/-- What itself answers. -/
def ItP (o : Option ByteArray) (e : Ending) : Prop := ∃ X b, e = .returned (.tuple #[.string X, .bool b]) ∧ o = (if b = true then some X else none)
section
variable (w : World)
set_option maxRecDepth 100000 in
set_option maxHeartbeats 8000000 in
theorem itself_any (s : ByteArray) (mb : Nat) (m f t : Nat) (up : Int) (op dbl : Bool) (h1 : f < t) (h2 : t ≤ s.size) (hs : s.size ≤ 1000000) (h13 : m = 13 → t = f + 1 ∨ t = f + 2) :
    Calls Try.prog 81 #[.agg #[.string s, .map (some mb)], .agg #[.int .i64 (m : Int), .int .i64 (f : Int), .int .i64 (t : Int), .int .i64 up, .bool op], .bool dbl] w fun e w' => ItP (itself s ⟨m, f, t, up, op⟩ dbl) e ∧ Below w.heap.size w w' := by
  have hw2 : Below w.heap.size w ((w.alloc (.cells #[.string s, .map (some mb)] 93)).alloc (.cells #[.int .i64 (m : Int), .int .i64 (f : Int), .int .i64 (t : Int), .int .i64 up, .bool op] 45)) := ((Below.refl _ _).alloc (Nat.le_refl _) _).alloc (by simp) _
  obtain ⟨X, hX⟩ : ∃ X, s.extract f t = X := ⟨_, rfl⟩
  have hXz : X.size = t - f := by rw [← hX]; simp; omega
  by_cases m14 : m = 14
  · subst m14
    have he : itself s ⟨14, f, t, up, op⟩ dbl = some X := by unfold itself; dsimp only; rw [if_pos rfl]; exact congrArg some hX
    have HE := Lib.hid he
    clear he hXz
    go_enter Try.func81, Try.ntmps81
    go_wp2
    go_ret2
    exact ⟨⟨X, true, rfl, HE.out⟩, hw2⟩
  by_cases m12 : m = 12
  · subst m12
    by_cases ht : t = f + 1
    · have he : itself s ⟨12, f, t, up, op⟩ dbl = some X := by unfold itself; dsimp only; rw [if_neg (by decide), if_pos rfl, if_pos ht]; exact congrArg some hX
      have HE := Lib.hid he
      have hz : X.size = 1 := by omega
      clear he hXz ht
      go_enter Try.func81, Try.ntmps81
      go_wp2
      go_ret2
      exact ⟨⟨X, true, rfl, HE.out⟩, hw2⟩
    · have he : itself s ⟨12, f, t, up, op⟩ dbl = none := by unfold itself; dsimp only; rw [if_neg (by decide), if_pos rfl, if_neg ht]
      have HE := Lib.hid he
      have hz : ((X.size : Int) == 1) = false := beq_eq_false_iff_ne.2 (by omega)
      clear he hXz ht
      go_enter Try.func81, Try.ntmps81
      go_wp2
      go_ret2
      exact ⟨⟨X, false, rfl, HE.out⟩, hw2⟩
  by_cases m13 : m = 13
  · subst m13
    rcases h13 rfl with ht | ht
    · have he : itself s ⟨13, f, t, up, op⟩ dbl = some ByteArray.empty := by unfold itself; dsimp only; rw [if_neg (by decide), if_neg (by decide), if_pos rfl, if_pos (.inl ht)]
      have HE := Lib.hid he
      have hz : X.size = 1 := by omega
      clear he hXz ht
      go_enter Try.func81, Try.ntmps81
      go_wp2
      go_ret2
      exact ⟨⟨ByteArray.empty, true, rfl, HE.out⟩, hw2⟩
    · obtain ⟨b, hb⟩ : ∃ b, by8 s (f + 1) = b := ⟨_, rfl⟩
      have hz : X.size = 2 := by omega
      have hX1 : ∀ h : 1 < X.size, (X[1]'h).toNat = b := by
        intro h
        rw [← hb]
        subst hX
        unfold by8
        rw [bt_eq (by omega)]
        first | rfl | simp [ByteArray.getElem_extract]
      have hX2 : X.extract 1 2 = s.extract (f + 1) t := by rw [← hX, ht]; simp [ByteArray.extract_extract]
      obtain ⟨Y, hY⟩ : ∃ Y, s.extract (f + 1) t = Y := ⟨_, rfl⟩
      rw [hY] at hX2
      have hbl : b < 256 := hb ▸ by8_lt s _
      by_cases b10 : b = 10
      · have he : itself s ⟨13, f, t, up, op⟩ dbl = some ByteArray.empty := by unfold itself; dsimp only; rw [if_neg (by decide), if_neg (by decide), if_pos rfl, if_pos (.inr (hb.trans b10))]
        have HE := Lib.hid he
        subst b10
        clear he hXz ht hb hY hX2
        go_enter Try.func81, Try.ntmps81
        go_wp2
        go_ret2
        exact ⟨⟨ByteArray.empty, true, rfl, HE.out⟩, hw2⟩
      · have hb10 : ((b : Int) == 10) = false := beq_eq_false_iff_ne.2 (by omega)
        have hor : ¬ (t = f + 1 ∨ by8 s (f + 1) = 10) := by omega
        cases dbl with
        | false =>
          have he : itself s ⟨13, f, t, up, op⟩ false = none := by unfold itself; dsimp only; rw [if_neg (by decide), if_neg (by decide), if_pos rfl, if_neg hor, if_pos rfl]
          have HE := Lib.hid he
          clear he hXz ht hb hY hX2 hor
          go_enter Try.func81, Try.ntmps81
          go_wp2
          go_ret2
          exact ⟨⟨ByteArray.empty, false, rfl, HE.out⟩, hw2⟩
        | true =>
          have hin : ∀ b, b < 256 → (inB b ⟨#[36, 96, 34, 92]⟩ = true ↔ (b = 36 ∨ b = 96 ∨ b = 34 ∨ b = 92)) := by decide +kernel
          by_cases hq : b = 36 ∨ b = 96 ∨ b = 34 ∨ b = 92
          · have he : itself s ⟨13, f, t, up, op⟩ true = some Y := by
              unfold itself; dsimp only; rw [if_neg (by decide), if_neg (by decide), if_pos rfl, if_neg hor, if_neg (by decide)]
              simp only [hb]
              rw [if_pos hq]; exact congrArg some hY
            have HE := Lib.hid he
            have HIN := Lib.hid ((hin b hbl).2 hq)
            clear he hXz ht hb hY hor hin hq
            go_enter Try.func81, Try.ntmps81
            go_wp2_with fail
            refine (index_inB _ b hbl _).mono ?_
            rintro e w3 ⟨⟨x, rfl, hx⟩, rfl⟩
            have hx0 : (0 : Int) ≤ x := by rw [HIN.out] at hx; simpa using hx
            clear hx
            go_wp2
            go_ret2
            exact ⟨⟨Y, true, rfl, HE.out⟩, hw2⟩
          · have he : itself s ⟨13, f, t, up, op⟩ true = some X := by
              unfold itself; dsimp only; rw [if_neg (by decide), if_neg (by decide), if_pos rfl, if_neg hor, if_neg (by decide)]
              simp only [hb]
              rw [if_neg hq]; exact congrArg some hX
            have HE := Lib.hid he
            have HIN := Lib.hid (fun h => hq ((hin b hbl).1 h))
            clear he hXz ht hb hY hor hin hq
            go_enter Try.func81, Try.ntmps81
            go_wp2_with fail
            refine (index_inB _ b hbl _).mono ?_
            rintro e w3 ⟨⟨x, rfl, hx⟩, rfl⟩
            have hx0 : ¬ (0 : Int) ≤ x := fun h => HIN.out (by rw [← hx]; simpa using h)
            clear hx
            go_wp2
            go_ret2
            exact ⟨⟨X, true, rfl, HE.out⟩, hw2⟩
  have he : itself s ⟨m, f, t, up, op⟩ dbl = none := by unfold itself; dsimp only; rw [if_neg m14, if_neg m12, if_neg m13]
  have HE := Lib.hid he
  have t14 : ((m : Int) == 14) = false := beq_eq_false_iff_ne.2 (by omega)
  have t12 : ((m : Int) == 12) = false := beq_eq_false_iff_ne.2 (by omega)
  have t13 : ((m : Int) == 13) = false := beq_eq_false_iff_ne.2 (by omega)
  clear he hXz
  go_enter Try.func81, Try.ntmps81
  go_wp2
  go_ret2
  exact ⟨⟨ByteArray.empty, false, rfl, HE.out⟩, hw2⟩
set_option maxHeartbeats 2000000 in
theorem quotes_any (m : Nat) : Calls Try.prog 49 #[.int .i64 (m : Int)] w fun e w' => e = .returned (.bool (decide (m = 13 ∨ m = 4 ∨ m = 5))) ∧ w' = w := by
  go_enter Try.func49, Try.ntmps49
  go_wp2
  all_goals
    go_ret
    refine ⟨ret_bool ?_, rfl⟩
    rw [Bool.eq_iff_iff, decide_eq_true_iff]
    simp at *
    try omega
end
end Go.Proofs.Ytholjhdjlhkocaa

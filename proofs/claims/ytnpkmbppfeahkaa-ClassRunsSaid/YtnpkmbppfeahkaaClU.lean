/- The walk of ClassRuns of layer 4 (class): the law returns true. Condition: texts as they come. -/
import Derived.Test.YtnpkmbppfeahkaaClT
import Derived.Test.YtnpkmbppfeahkaaClE
namespace Go.Proofs.Ytnpkmbppfeahkaa
open Go.RowKit
set_option linter.unusedVariables false

/-- Where the row i of a list of rows is to begin. -/
def endOf (l : List Rn) (i : Nat) : Nat := if i = 0 then 0 else ((l[i - 1]?.getD Rn.zero).t).toNat
/-- The row i is a row of one class, the longest, right behind the one ahead. -/
def RnOk (s : ByteArray) (l : List Rn) (i : Nat) : Prop :=
  ∃ c f t : Nat, l[i]? = some ⟨c, f, t⟩ ∧ f = endOf l i ∧ f < t ∧ t ≤ s.size ∧ (∀ j, f ≤ j → j < t → cl s j = c) ∧ (t < s.size → cl s t ≠ c)
theorem endOf_pre (l m : List Rn) {i : Nat} (h : i ≤ l.length) : endOf (l ++ m) i = endOf l i := by
  unfold endOf
  by_cases h0 : i = 0
  · rw [if_pos h0, if_pos h0]
  · rw [if_neg h0, if_neg h0, List.getElem?_append_left (by omega)]
theorem Til.ok {s : ByteArray} {l : List Rn} {k : Nat} (h : Til s l k) : (∀ i, i < l.length → RnOk s l i) ∧ endOf l l.length = k := by
  induction h with
  | nil => exact ⟨fun i hi => by simp at hi, rfl⟩
  | @snoc l a hT hl ih =>
    have hp := rowN_pos hl
    have hle := rowN_le s a (cl s a)
    obtain ⟨m, hm⟩ : ∃ m, rowN s a (cl s a) = m := ⟨_, rfl⟩
    have hall : ∀ j, a ≤ j → j < a + m → cl s j = cl s a := fun j h1 h2 => by
      have := lead_all (fun i => decide (cl s (a + i) = cl s a)) (z := s.size - a) (i := j - a) (by
        have : lead (fun i => decide (cl s (a + i) = cl s a)) (s.size - a) = m := hm
        omega)
      rw [decide_eq_true_iff, show a + (j - a) = j by omega] at this
      exact this
    have hstop : a + m < s.size → cl s (a + m) ≠ cl s a := fun h => by
      have e : lead (fun i => decide (cl s (a + i) = cl s a)) (s.size - a) = m := hm
      have := lead_stop (fun i => decide (cl s (a + i) = cl s a)) (z := s.size - a) (by omega)
      rw [e, decide_eq_false_iff_not] at this
      exact this
    rw [hm] at hp hle ⊢
    refine ⟨fun i hi => ?_, ?_⟩
    · by_cases g : i < l.length
      · obtain ⟨c, f, t, h1, h2, h3⟩ := ih.1 i g
        exact ⟨c, f, t, by rw [List.getElem?_append_left g]; exact h1, by rw [endOf_pre _ _ (by omega)]; exact h2, h3⟩
      · obtain rfl : i = l.length := by simp at hi; omega
        refine ⟨cl s a, a, a + m, by simp, by rw [endOf_pre _ _ (Nat.le_refl _)]; exact ih.2.symm, by omega, by omega, hall, hstop⟩
    · unfold endOf
      rw [if_neg (by simp)]
      simp
      omega
theorem RnOk.next {s : ByteArray} {l : List Rn} {i c f t c' f' t' : Nat} (h1 : l[i]? = some ⟨c, f, t⟩) (h2 : t < s.size → cl s t ≠ c) (g2 : f' = endOf l (i + 1)) (g3 : f' < t') (g4 : t' ≤ s.size) (g5 : ∀ j, f' ≤ j → j < t' → cl s j = c') : c ≠ c' := by
  have e : endOf l (i + 1) = t := by unfold endOf; rw [if_neg (by omega)]; simp [h1]
  rw [e] at g2
  subst g2
  have := h2 (by omega)
  rw [g5 f' (Nat.le_refl _) g3] at this
  exact fun h => this h.symm

theorem rcells_at : ∀ (l : List Rn) (j : Nat) (x : Rn), l[j]? = some x → ∀ i, i < 3 → (rcells l)[j * 3 + i]? = x.cells[i]?
  | [], j, x, h, _, _ => by simp at h
  | y :: l, 0, x, h, i, hi => by
    have e : rcells (y :: l) = y.cells ++ rcells l := by simp [rcells]
    have : y = x := by simpa using h
    subst this
    have h3 : y.cells.length = 3 := rfl
    rw [e, List.getElem?_append_left (by omega)]
    simp
  | y :: l, j + 1, x, h, i, hi => by
    have e : rcells (y :: l) = y.cells ++ rcells l := by simp [rcells]
    have h3 : y.cells.length = 3 := rfl
    rw [e, List.getElem?_append_right (by omega), show (j + 1) * 3 + i - y.cells.length = j * 3 + i by omega]
    exact rcells_at l j x (by simpa using h) i hi
/-- The slice's cells. -/
def RnAt (w : World) (g : Nat) (l : List Rn) : Prop := ∀ j x, l[j]? = some x → w.cell? ⟨g, j * 3, none⟩ = some (.int .i64 x.c) ∧ w.cell? ⟨g, j * 3 + 1, none⟩ = some (.int .i64 x.f) ∧ w.cell? ⟨g, j * 3 + 2, none⟩ = some (.int .i64 x.t)
theorem own_rn {w : World} {base : Nat} {v : Value} {l : List Rn} (h : w.ownsRow base 35 3 v l.length (rcells l)) :
    (v = .slice none 0 0 ∧ l = []) ∨ ∃ g cap, v = .slice (some ⟨g, 0, none⟩) l.length cap ∧ l.length ≤ cap ∧ g < w.heap.size ∧ RnAt w g l := by
  rcases h.2 with ⟨e, hl⟩ | ⟨g, cap, cur, e, hb, hg, hc, _, hz, ht⟩
  · exact .inl ⟨e, List.length_eq_zero_iff.1 hl⟩
  · refine .inr ⟨g, cap, e, hc, (Array.getElem?_eq_some_iff.1 hg).1, fun j x hx => ?_⟩
    have hj : j < l.length := (List.getElem?_eq_some_iff.1 hx).1
    have hat : ∀ i, i < 3 → w.cell? ⟨g, j * 3 + i, none⟩ = x.cells[i]? := fun i hi => by
      rw [cell_of_row w g (j * 3 + i) cur _ _ hg, ← rcells_at l j x hx i hi, ← ht, List.getElem?_take_of_lt (by omega)]
      simp
    exact ⟨hat 0 (by omega), hat 1 (by omega), hat 2 (by omega)⟩
theorem RnAt.below {w w' : World} {g : Nat} {l : List Rn} (h : RnAt w g l) (hg : g < w.heap.size) (hb : Below w.heap.size w w') : RnAt w' g l := fun j x hx =>
  ⟨(hb.cell (p := ⟨g, j * 3, none⟩) hg).trans (h j x hx).1, (hb.cell (p := ⟨g, j * 3 + 1, none⟩) hg).trans (h j x hx).2.1, (hb.cell (p := ⟨g, j * 3 + 2, none⟩) hg).trans (h j x hx).2.2⟩

def LwRel (l : List Rn) (w1 : World) (v4 v5 : Value) (wr : World) : Prop :=
  ∃ i a : Nat, i ≤ l.length ∧ v5 = .int .i64 i ∧ v4 = .int .i64 a ∧ a = endOf l i ∧ Below w1.heap.size w1 wr

set_option maxRecDepth 100000 in
set_option maxHeartbeats 4000000 in
theorem runs_law (s : ByteArray) (w : World) (hmax : s.size ≤ 9223372036854775807) :
    Calls Try.prog 7 #[.string s] w fun e w' => e = .returned (.bool true) ∧ Below w.heap.size w w' := by
  by_cases hs : (s.size : Int) ≤ 200
  · have hm : s.size ≤ 1000000 := by omega
    go_enter Try.func7, Try.ntmps7
    go_wp2_with fail
    refine (awake_any _).mono ?_
    rintro e w0 ⟨rfl, rfl⟩
    go_wp2_with fail
    refine (runs_any s hm _).mono ?_
    rintro e w1 ⟨v, l, rfl, hT, hown, hb1⟩
    have hlen := hT.len
    obtain ⟨hok, hend⟩ := hT.ok
    have HOK := Lib.hid hok
    have HEND := Lib.hid hend
    clear hok hend hT
    rcases own_rn hown with ⟨rfl, rfl⟩ | ⟨g, cap, rfl, hcap, hg, hat⟩
    · have hz : s.size = 0 := HEND.out.symm
      have hz1 : ((s.size : Int) == 0) = true := beq_iff_eq.2 (by omega)
      have hz2 : ((0 : Int) == (s.size : Int)) = true := beq_iff_eq.2 (by omega)
      clear hz
      go_wp2
      go_loopw [4, 5] (fun v4 v5 wr => LwRel [] w1 v4 v5 wr) (fun _ _ _ => 0)
      case atStart => exact ⟨0, 0, Nat.le_refl _, rfl, rfl, rfl, Below.refl _ _⟩
      case round =>
        obtain ⟨i, a, hi, rfl, rfl, ha, hbr⟩ := hrel
        obtain rfl : i = 0 := by simpa using hi
        obtain rfl : a = 0 := ha
        go_wp2
        go_ret
        exact ⟨ret_bool (by first | rfl | simpa using hz2), hb1.trans (hbr.mono hb1.size)⟩
    · have HAT := Lib.hid hat
      obtain ⟨N, hN⟩ : ∃ N, l.length = N := ⟨_, rfl⟩
      rw [hN] at hlen hcap ⊢
      have HN := Lib.hid hN
      have HHM := Lib.hid hmax
      clear hat hN hown hmax
      go_wp2
      go_loopw [4, 5] (fun v4 v5 wr => LwRel l w1 v4 v5 wr) (fun _ v5 _ => N - (intOf v5).toNat)
      case atStart => exact ⟨0, 0, Nat.zero_le _, rfl, rfl, rfl, Below.refl _ _⟩
      case round =>
        obtain ⟨i, a, hi, rfl, rfl, ha, hbr⟩ := hrel
        have hiN : i ≤ N := by have := HN.out; omega
        have HA := Lib.hid ha
        clear ha hi
        by_cases hlt : i < N
        · have hlt2 : (i : Int) < N := by omega
          obtain ⟨c, f, t, h1, h2, h3, h4, h5, h6⟩ := HOK.out i (by have := HN.out; omega)
          obtain ⟨c0, c1, c2⟩ := HAT.out.below hg hbr i _ h1
          obtain rfl : f = a := by rw [h2, HA.out]
          have HT1 : Hid (endOf l (i + 1) = t) := Lib.hid (by unfold endOf; rw [if_neg (by omega)]; simp [h1])
          have q1 : decide ((t : Int) ≤ f) = false := by simp; omega
          have q1' : decide (t ≤ f) = false := by simp; omega
          have q2 : decide ((s.size : Int) < t) = false := by simp; omega
          have q2' : decide (s.size < t) = false := by simp; omega
          have r1 : (f : Int) ≤ t := by omega
          have r2 : (t : Int) ≤ s.size := by omega
          have hball : allB (s.extract f t) c = true := (allB_extract s f t c h4).2 (fun j hj => h5 (f + j) (by omega) (by omega))
          have hz : (s.extract f t).size ≤ 1000000 := by simp; omega
          have hall := fun w => all_eq (s.extract f t) c w hz true hball
          have HALL := Lib.hid hall
          by_cases h0 : i = 0
          · subst h0
            simp at c0 c1 c2
            clear h1 h2 h5 h6 hball hall
            go_wp2
            go_quiet (fail)
            obtain ⟨V, hV⟩ : ∃ V, V = wr.drewN nq := ⟨_, rfl⟩
            have hbV : Below w1.heap.size w1 V := hV ▸ below_drewN hbr _
            have k0 : V.cell? ⟨g, 0, none⟩ = some (.int .i64 (c : Int)) := hV ▸ c0
            have k2 : V.cell? ⟨g, 2, none⟩ = some (.int .i64 (t : Int)) := hV ▸ c2
            rw [← hV]
            clear hV c0 c1 c2
            go_wp2
            go_quiet ((go_at_call 30; exact Calls.quiet_of_same (HALL.out _)))
            go_wp2
            go_roundw
            case rel => exact ⟨1, t, by have := HN.out; omega, rfl, rfl, HT1.out.symm, below_drewN hbV _⟩
            case measure => simp [intOf]; omega
          · obtain ⟨p, hp⟩ : ∃ p, i = p + 1 := ⟨i - 1, by omega⟩
            obtain ⟨c', f', t', g1, g2, g3, g4, g5, g6⟩ := HOK.out p (by have := HN.out; omega)
            obtain ⟨d0, d1, d2⟩ := HAT.out.below hg hbr p _ g1
            have hne : c' ≠ c := RnOk.next g1 g6 (by rw [← hp]; exact h2) h3 h4 h5
            have n1 : ((c' : Int) == (c : Int)) = false := beq_eq_false_iff_ne.2 (by omega)
            have n2 : (c' == c) = false := beq_eq_false_iff_ne.2 hne
            have w1' : IntKind.i64.wrap ((i : Int) - 1) = (p : Int) := by rw [IntWalk.i64_in _ (by omega)]; omega
            have p1 : decide ((0 : Int) < i) = true := by simp; omega
            have p2 : decide (0 < i) = true := by simp; omega
            have p3 : (p : Int) < N := by omega
            have p4 : p < N := by omega
            simp only at c0 c1 c2 d0
            have HP := Lib.hid hp
            clear h1 h2 h5 h6 hball hall g1 g2 g3 g4 g5 g6 d1 d2 hne hp h0
            go_wp2
            go_quiet (fail)
            obtain ⟨V, hV⟩ : ∃ V, V = wr.drewN nq := ⟨_, rfl⟩
            have hbV : Below w1.heap.size w1 V := hV ▸ below_drewN hbr _
            have k0 : V.cell? ⟨g, i * 3, none⟩ = some (.int .i64 (c : Int)) := hV ▸ c0
            have k2 : V.cell? ⟨g, i * 3 + 2, none⟩ = some (.int .i64 (t : Int)) := hV ▸ c2
            rw [← hV]
            clear hV c0 c1 c2 d0 w1' n1 n2
            go_wp2
            go_quiet ((go_at_call 30; exact Calls.quiet_of_same (HALL.out _)))
            go_wp2
            go_roundw
            case rel => exact ⟨i + 1, t, by have := HN.out; omega, by go_num, rfl, HT1.out.symm, below_drewN hbV _⟩
            case measure => simp [intOf]; omega
        · obtain rfl : i = N := by omega
          have ha : a = s.size := by rw [HA.out, ← HN.out, HEND.out]
          subst ha
          go_wp2
          go_ret
          exact ⟨ret_bool (by simp), hb1.trans (hbr.mono hb1.size)⟩
  · have hs2 : (200 : Int) < s.size := by omega
    clear hs
    go_enter Try.func7, Try.ntmps7
    go_wp2_with fail
    refine (awake_any _).mono ?_
    rintro e w' ⟨rfl, rfl⟩
    go_wp2
    go_ret
    exact ⟨rfl, Below.refl _ _⟩
end Go.Proofs.Ytnpkmbppfeahkaa

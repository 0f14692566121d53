/- What layer 7's statement PartsRows does. No condition but that a text's length fits an int. -/
import Derived.Test.YtholjhdjlhkocaaPtZa
import Derived.Test.YtholjhdjlhkocaaPtAw
import Derived.Test.YtholjhdjlhkocaaPtX
namespace Go.Proofs.Ytholjhdjlhkocaa
open Go.RowKit
set_option linter.unusedVariables false

/-- Where the row i of a list of rows is to begin. -/
def pendOf (l : List PRn) (i : Nat) : Nat := if i = 0 then 0 else ((l[i - 1]?.map PRn.t).getD 0)
/-- The row i is a row of one part, the longest, right behind the one ahead. -/
def PRnOk (s : ByteArray) (l : List PRn) (i : Nat) : Prop :=
  ∃ (c : Int) (f t : Nat), l[i]? = some ⟨c, f, t⟩ ∧ f = pendOf l i ∧ f < t ∧ t ≤ s.size ∧ (∀ j, f ≤ j → j < t → byP s j = c) ∧ (t < s.size → byP s t ≠ c)
theorem pendOf_pre (l m : List PRn) {i : Nat} (h : i ≤ l.length) : pendOf (l ++ m) i = pendOf l i := by
  unfold pendOf
  by_cases h0 : i = 0
  · rw [if_pos h0, if_pos h0]
  · rw [if_neg h0, if_neg h0, List.getElem?_append_left (by omega)]
theorem PTil.ok {s : ByteArray} {l : List PRn} {k : Nat} (h : PTil s l k) : (∀ i, i < l.length → PRnOk s l i) ∧ pendOf l l.length = k := by
  induction h with
  | nil => exact ⟨fun i hi => by simp at hi, rfl⟩
  | @snoc l a t hT hat hts hall hstop ih =>
    refine ⟨fun i hi => ?_, ?_⟩
    · by_cases g : i < l.length
      · obtain ⟨c, f, t, h1, h2, h3⟩ := ih.1 i g
        exact ⟨c, f, t, by rw [List.getElem?_append_left g]; exact h1, by rw [pendOf_pre _ _ (by omega)]; exact h2, h3⟩
      · obtain rfl : i = l.length := by simp at hi; omega
        exact ⟨byP s a, a, t, by simp, by rw [pendOf_pre _ _ (Nat.le_refl _)]; exact ih.2.symm, hat, hts, hall, hstop⟩
    · unfold pendOf
      rw [if_neg (by simp)]
      simp
theorem PRnOk.next {s : ByteArray} {l : List PRn} {i f t f' t' : Nat} {c c' : Int} (h1 : l[i]? = some ⟨c, f, t⟩) (h2 : t < s.size → byP s t ≠ c) (g2 : f' = pendOf l (i + 1)) (g3 : f' < t') (g4 : t' ≤ s.size) (g5 : ∀ j, f' ≤ j → j < t' → byP s j = c') : c ≠ c' := by
  have e : pendOf l (i + 1) = t := by unfold pendOf; rw [if_neg (by omega)]; simp [h1]
  rw [e] at g2
  subst g2
  have := h2 (by omega)
  rw [g5 f' (Nat.le_refl _) g3] at this
  exact fun h => this h.symm

theorem prcells_at : ∀ (l : List PRn) (j : Nat) (x : PRn), l[j]? = some x → ∀ i, i < 3 → (prcells l)[j * 3 + i]? = x.cells[i]?
  | [], j, x, h, _, _ => by simp at h
  | y :: l, 0, x, h, i, hi => by
    have e : prcells (y :: l) = y.cells ++ prcells l := by simp [prcells]
    have : y = x := by simpa using h
    subst this
    have h3 : y.cells.length = 3 := rfl
    rw [e, List.getElem?_append_left (by omega)]
    simp
  | y :: l, j + 1, x, h, i, hi => by
    have e : prcells (y :: l) = y.cells ++ prcells l := by simp [prcells]
    have h3 : y.cells.length = 3 := rfl
    rw [e, List.getElem?_append_right (by omega), show (j + 1) * 3 + i - y.cells.length = j * 3 + i by omega]
    exact prcells_at l j x (by simpa using h) i hi
/-- The slice's cells. -/
def PRnAt (w : World) (g : Nat) (l : List PRn) : Prop := ∀ j x, l[j]? = some x → w.cell? ⟨g, j * 3, none⟩ = some (.int .i64 x.c) ∧ w.cell? ⟨g, j * 3 + 1, none⟩ = some (.int .i64 (x.f : Int)) ∧ w.cell? ⟨g, j * 3 + 2, none⟩ = some (.int .i64 (x.t : Int))
theorem own_prn {w : World} {base : Nat} {v : Value} {l : List PRn} (h : w.ownsRow base 28 3 v l.length (prcells l)) :
    (v = .slice none 0 0 ∧ l = []) ∨ ∃ g cap, v = .slice (some ⟨g, 0, none⟩) l.length cap ∧ l.length ≤ cap ∧ g < w.heap.size ∧ PRnAt w g l := by
  rcases h.2 with ⟨e, hl⟩ | ⟨g, cap, cur, e, hb, hg, hc, _, hz, ht⟩
  · exact .inl ⟨e, List.length_eq_zero_iff.1 hl⟩
  · refine .inr ⟨g, cap, e, hc, (Array.getElem?_eq_some_iff.1 hg).1, fun j x hx => ?_⟩
    have hj : j < l.length := (List.getElem?_eq_some_iff.1 hx).1
    have hat : ∀ i, i < 3 → w.cell? ⟨g, j * 3 + i, none⟩ = x.cells[i]? := fun i hi => by
      rw [cell_of_row w g (j * 3 + i) cur _ _ hg, ← prcells_at l j x hx i hi, ← ht, List.getElem?_take_of_lt (by omega)]
      simp
    exact ⟨hat 0 (by omega), hat 1 (by omega), hat 2 (by omega)⟩
theorem PRnAt.below {w w' : World} {g : Nat} {l : List PRn} (h : PRnAt w g l) (hg : g < w.heap.size) (hb : Below w.heap.size w w') : PRnAt w' g l := fun j x hx =>
  ⟨(hb.cell (p := ⟨g, j * 3, none⟩) hg).trans (h j x hx).1, (hb.cell (p := ⟨g, j * 3 + 1, none⟩) hg).trans (h j x hx).2.1, (hb.cell (p := ⟨g, j * 3 + 2, none⟩) hg).trans (h j x hx).2.2⟩

def LpRel (l : List PRn) (w1 : World) (v5 v6 : Value) (wr : World) : Prop :=
  ∃ i a : Nat, i ≤ l.length ∧ v6 = .int .i64 i ∧ v5 = .int .i64 a ∧ a = pendOf l i ∧ Below w1.heap.size w1 wr
def LqRel (f t : Nat) (w1 : World) (v5 : Value) (wr : World) : Prop :=
  ∃ a : Nat, f ≤ a ∧ a ≤ t ∧ v5 = .int .i64 a ∧ Below w1.heap.size w1 wr

set_option maxRecDepth 100000 in
set_option maxHeartbeats 8000000 in
theorem partsRows_law (w : World) (s : ByteArray) (hmax : s.size ≤ 9223372036854775807) :
    Calls Try.prog 3 #[.string s] w fun e w' => e = .returned (.bool true) ∧ Below w.heap.size w w' := by
  by_cases hs : (s.size : Int) ≤ 100
  · have hm : s.size ≤ 60000 := by omega
    have hHR := Lib.hid (fun W => prows_any s hm W)
    go_enter Try.func3, Try.ntmps3
    go_wp2_with fail
    refine (awake_any _).mono ?_
    rintro e w0 ⟨rfl, hB0⟩
    go_wp2_with fail
    refine (of_ref_any _ s (by omega)).mono ?_
    rintro e w2 ⟨⟨v, rfl, hP⟩, hB2⟩
    obtain ⟨oa, n, oc, rfl, hR⟩ := hP.read
    have hnl : n ≤ 100 := by have h1 := hR.len; have h2 := PL_len s; omega
    clear hP
    go_wp2_with fail
    refine (hHR.out _).mono ?_
    rintro e w1 ⟨v, l, rfl, hT, hown, hb1⟩
    have hB : Below w.heap.size w w1 := (hB0.trans (hB2.mono hB0.size)).trans (hb1.mono (Nat.le_trans hB0.size hB2.size))
    have HR := Lib.hid (hR.below hb1)
    have hlen := hT.len
    obtain ⟨hok, hend⟩ := hT.ok
    have HOK := Lib.hid hok
    have HEND := Lib.hid hend
    clear hok hend hT hR hB0 hB2 hb1
    rcases own_prn hown with ⟨rfl, rfl⟩ | ⟨g, cap, rfl, hcap, hg, hat⟩
    · have hz : s.size = 0 := HEND.out.symm
      have hz1 : ((s.size : Int) == 0) = true := beq_iff_eq.2 (by omega)
      have hz2 : ((0 : Int) == (s.size : Int)) = true := beq_iff_eq.2 (by omega)
      clear hz
      go_wp2
      go_loopw [5, 6] (fun v4 v5 wr => LpRel [] w1 v4 v5 wr) (fun _ _ _ => 0)
      case atStart => exact ⟨0, 0, Nat.le_refl _, rfl, rfl, rfl, Below.refl _ _⟩
      case round =>
        obtain ⟨i, a, hi, rfl, rfl, ha, hbr⟩ := hrel
        obtain rfl : i = 0 := by simpa using hi
        obtain rfl : a = 0 := ha
        go_wp2
        go_ret
        exact ⟨ret_bool (by first | rfl | simpa using hz2), hB.trans (hbr.mono hB.size)⟩
    · have HAT := Lib.hid hat
      obtain ⟨N, hN⟩ : ∃ N, l.length = N := ⟨_, rfl⟩
      rw [hN] at hlen hcap ⊢
      have HN := Lib.hid hN
      have HHM := Lib.hid hmax
      clear hat hN hown hmax hHR
      go_wp2
      go_loopw [5, 6] (fun v4 v5 wr => LpRel l w1 v4 v5 wr) (fun _ v5 _ => N - (intOf v5).toNat)
      case atStart => exact ⟨0, 0, Nat.zero_le _, rfl, rfl, rfl, Below.refl _ _⟩
      case round =>
        obtain ⟨i, a, hi, rfl, rfl, ha, hbr⟩ := hrel
        have hiN : i ≤ N := by have := HN.out; omega
        have HA := Lib.hid ha
        clear ha hi
        by_cases hlt : i < N
        · have hlt2 : (i : Int) < N := by omega
          obtain ⟨c, f, t, h1, h2, h3, h4, h5, h6⟩ := HOK.out i (by have := HN.out; omega)
          obtain ⟨c0, c1, c2⟩ := HAT.out.below hg hbr i _ h1
          obtain rfl : f = a := by rw [h2, HA.out]
          have HT1 : Hid (pendOf l (i + 1) = t) := Lib.hid (by unfold pendOf; rw [if_neg (by omega)]; simp [h1])
          have q1 : decide ((t : Int) ≤ f) = false := by simp; omega
          have q1' : decide (t ≤ f) = false := by simp; omega
          have q2 : decide ((s.size : Int) < t) = false := by simp; omega
          have q2' : decide (s.size < t) = false := by simp; omega
          have H5 := Lib.hid h5
          have HHS := Lib.hid (show f < t ∧ t ≤ s.size from ⟨h3, h4⟩)
          by_cases h0 : i = 0
          · subst h0
            simp at c0 c1 c2
            have K0 := Lib.hid ((HAT.out 0 _ h1).1)
            have K2 := Lib.hid ((HAT.out 0 _ h1).2.2)
            simp only [Nat.zero_mul, Nat.zero_add] at K0 K2
            clear h1 h2 h5 h6
            go_wp2
            go_quiet (fail)
            obtain ⟨V, hV⟩ : ∃ V, V = wr.drewN nq := ⟨_, rfl⟩
            have hbV : Below w1.heap.size w1 V := hV ▸ below_drewN hbr _
            rw [← hV]
            clear hV c0 c1 c2
            go_wp2
            go_loopw [5] (fun v5 wr => LqRel f t w1 v5 wr) (fun v5 _ => t - (intOf v5).toNat)
            case atStart => exact ⟨f, Nat.le_refl _, by have := HHS.out; omega, rfl, hbV⟩
            case round =>
              obtain ⟨a, ha1, ha2, rfl, hb5⟩ := hrel
            
              have k0 : wr.cell? ⟨g, 0, none⟩ = some (.int .i64 c) := (hb5.cell (p := ⟨g, 0, none⟩) hg).trans K0.out
              have k2 : wr.cell? ⟨g, 2, none⟩ = some (.int .i64 (t : Int)) := (hb5.cell (p := ⟨g, 2, none⟩) hg).trans K2.out
              by_cases hat : a < t
              · have hat2 : (a : Int) < (t : Int) := by omega
                have hby := fun W (h : RdP W oa n (PL s)) => byte_any W oa n oc s a h (by omega)
                have e1 := H5.out a ha1 hat
                rw [e1] at hby
                have HBY := Lib.hid hby
                clear hby e1
                go_wp2
                go_quiet ((go_at_call 14; exact Calls.quiet_of_same (HBY.out _ (HR.out.below (by first | exact hb5 | exact hb5.drew | exact below_drewN hb5 _)))))
                go_wp2
                go_roundw
                case rel => exact ⟨a + 1, by omega, by omega, by go_num, below_drewN hb5 _⟩
                case measure => simp [intOf]; omega
              · obtain rfl : a = t := by omega
                go_wp2
                go_roundw
                case rel => exact ⟨1, a, by have := HN.out; omega, rfl, rfl, HT1.out.symm, hb5⟩
                case measure => simp [intOf]; omega
          · obtain ⟨p, hp⟩ : ∃ p, i = p + 1 := ⟨i - 1, by omega⟩
            obtain ⟨c', f', t', g1, g2, g3, g4, g5, g6⟩ := HOK.out p (by have := HN.out; omega)
            obtain ⟨d0, d1, d2⟩ := HAT.out.below hg hbr p _ g1
            have hne : c' ≠ c := PRnOk.next g1 g6 (by rw [← hp]; exact h2) h3 h4 h5
            have n1 : ((c' : Int) == (c : Int)) = false := beq_eq_false_iff_ne.2 hne
            have w1' : IntKind.i64.wrap ((i : Int) - 1) = (p : Int) := by rw [IntWalk.i64_in _ (by omega)]; omega
            have p1 : decide ((0 : Int) < i) = true := by simp; omega
            have p2 : decide (0 < i) = true := by simp; omega
            have p3 : (p : Int) < N := by omega
            have p4 : p < N := by omega
            simp only at c0 c1 c2 d0
            have HP := Lib.hid hp
            have K0 := Lib.hid ((HAT.out i _ h1).1)
            have K2 := Lib.hid ((HAT.out i _ h1).2.2)
            clear h1 h2 h5 h6 g1 g2 g3 g4 g5 g6 d1 d2 hne hp h0
            go_wp2
            go_quiet (fail)
            obtain ⟨V, hV⟩ : ∃ V, V = wr.drewN nq := ⟨_, rfl⟩
            have hbV : Below w1.heap.size w1 V := hV ▸ below_drewN hbr _
            rw [← hV]
            clear hV c0 c1 c2
            go_wp2
            go_loopw [5] (fun v5 wr => LqRel f t w1 v5 wr) (fun v5 _ => t - (intOf v5).toNat)
            case atStart => exact ⟨f, Nat.le_refl _, by have := HHS.out; omega, rfl, hbV⟩
            case round =>
              obtain ⟨a, ha1, ha2, rfl, hb5⟩ := hrel
            
              have k0 : wr.cell? ⟨g, i * 3, none⟩ = some (.int .i64 c) := (hb5.cell (p := ⟨g, i * 3, none⟩) hg).trans K0.out
              have k2 : wr.cell? ⟨g, i * 3 + 2, none⟩ = some (.int .i64 (t : Int)) := (hb5.cell (p := ⟨g, i * 3 + 2, none⟩) hg).trans K2.out
              by_cases hat : a < t
              · have hat2 : (a : Int) < (t : Int) := by omega
                have hby := fun W (h : RdP W oa n (PL s)) => byte_any W oa n oc s a h (by omega)
                have e1 := H5.out a ha1 hat
                rw [e1] at hby
                have HBY := Lib.hid hby
                clear hby e1
                go_wp2
                go_quiet ((go_at_call 14; exact Calls.quiet_of_same (HBY.out _ (HR.out.below (by first | exact hb5 | exact hb5.drew | exact below_drewN hb5 _)))))
                go_wp2
                go_roundw
                case rel => exact ⟨a + 1, by omega, by omega, by go_num, below_drewN hb5 _⟩
                case measure => simp [intOf]; omega
              · obtain rfl : a = t := by omega
                go_wp2
                go_roundw
                case rel => exact ⟨i + 1, a, by have := HN.out; omega, by go_num, rfl, HT1.out.symm, hb5⟩
                case measure => simp [intOf]; omega
        · obtain rfl : i = N := by omega
          have ha : a = s.size := by rw [HA.out, ← HN.out, HEND.out]
          subst ha
          go_wp2
          go_ret
          exact ⟨ret_bool (by simp), hB.trans (hbr.mono hB.size)⟩
  · have hs2 : (100 : Int) < s.size := by omega
    clear hs
    go_enter Try.func3, Try.ntmps3
    go_wp2_with fail
    refine (awake_any _).mono ?_
    rintro e w' ⟨rfl, hB0⟩
    go_wp2
    go_ret
    exact ⟨rfl, hB0⟩
end Go.Proofs.Ytholjhdjlhkocaa

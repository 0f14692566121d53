/- The walk of OperSplits of layer 5 (oper): the law returns true. Condition: texts as they come; the program's table lies as start-up lays it. -/
import Derived.Test.YtlfmpjneopeadaaDoorOpJ
namespace Go.Proofs.YtlfmpjneopeadaaDoor
open Go.RowKit
set_option linter.unusedVariables false

/-- A row of whole numbers: its slice, and its cells. -/
theorem row_form {w : World} {base : Nat} {v : Value} {l : List Nat} (h : w.ownsRow base 3 1 v l.length (intCells l)) :
    ∃ ao cap, v = .slice ao l.length cap ∧ l.length ≤ cap ∧ ∀ (j x : Nat), l[j]? = some x → ∃ g, ao = some ⟨g, 0, none⟩ ∧ g < w.heap.size ∧ w.cell? ⟨g, j, none⟩ = some (.int .i64 (x : Int)) := by
  rcases own_ints h with ⟨rfl, rfl⟩ | ⟨g, cap, rfl, hc, hg, hat⟩
  · exact ⟨none, 0, rfl, Nat.le_refl _, fun j x hx => by simp at hx⟩
  · exact ⟨_, cap, rfl, hc, fun j x hx => ⟨g, rfl, hg, hat j x hx⟩⟩

def SlRel (N : Nat) (w2 : World) (v : Value) (wr : World) : Prop := ∃ i : Nat, i ≤ N ∧ v = .int .i64 i ∧ Below w2.heap.size w2 wr

set_option maxRecDepth 100000 in
set_option maxHeartbeats 4000000 in
theorem splits_law (s : ByteArray) (w : World) (hT : Tx w) (hmax : s.size ≤ 9223372036854775807) :
    Calls Tryd.prog 6 #[.string s] w fun e w' => e = .returned (.bool true) ∧ Below w.heap.size w w' := by
  have haw := awake5_any w hT
  have HAW := Lib.hid haw
  have HTX := Lib.hid hT
  clear haw hT
  by_cases hs : (s.size : Int) ≤ 100
  · have hm : s.size ≤ 1000000 := by omega
    have hlen : (spl s 0).1.length ≤ s.size := by
      have := spl_len s (s.size - 0) 0
      simpa [spl] using this
    go_enter Tryd.func6, Tryd.ntmps6
    go_wp2_with fail
    refine HAW.out.mono ?_
    rintro e w0 ⟨rfl, hd0⟩
    have hT0 : Tx w0 := HTX.out.d hd0
    have hb0 : Below w.heap.size w w0 := hd0.below
    have hsz0 : w.heap.size = w0.heap.size := by rw [hd0.heap]
    clear hd0
    go_wp2_with fail
    refine (split_any s hm _ hT0).mono ?_
    rintro e w1 ⟨v1, a1, c1, rfl, hs1, hb1⟩
    go_wp2_with fail
    refine (refsplit_any s _ hm).mono ?_
    rintro e w2 ⟨v2, rfl, hs2, hb2⟩
    have hb3 : Below w.heap.size w w2 := hb0.trans ((hb1.mono (Nat.le_of_eq hsz0)).trans (hb2.mono (Nat.le_trans (Nat.le_of_eq hsz0) hb1.size)))
    have hz1 : w1.heap.size ≤ w2.heap.size := hb2.size
    unfold SplitA at hs1
    unfold SplitV at hs2
    obtain ⟨l, r, hl⟩ : ∃ l r, spl s 0 = (l, r) := ⟨_, _, rfl⟩
    rw [hl] at hs1 hs2 hlen ⊢
    clear hl hsz0 hb0 hT0
    rcases hs1 with ⟨hr, hown1, rfl, rfl⟩ | ⟨hr, rfl, rfl, rfl⟩
    · have hr' : r = -1 := hr
      subst hr'
      have hown2 : w2.ownsRow w1.heap.size 3 1 v2 l.length (intCells l) := by
        rcases hs2 with ⟨_, h⟩ | ⟨h, _⟩
        · exact h
        · exact absurd (show (0 : Int) ≤ -1 from h) (by decide)
      obtain ⟨ao1, cap1, rfl, hcap1, hat1⟩ := row_form hown1
      obtain ⟨ao2, cap2, rfl, hcap2, hat2⟩ := row_form hown2
      obtain ⟨N, hN⟩ : ∃ N, l.length = N := ⟨_, rfl⟩
      have hall : ∀ j, j < N → ∃ (x : Nat) (g1 g2 : Nat), ao1 = some ⟨g1, 0, none⟩ ∧ ao2 = some ⟨g2, 0, none⟩ ∧ g1 < w2.heap.size ∧ g2 < w2.heap.size ∧ w2.cell? ⟨g1, j, none⟩ = some (.int .i64 (x : Int)) ∧ w2.cell? ⟨g2, j, none⟩ = some (.int .i64 (x : Int)) := fun j hj => by
        have hx := List.getElem?_eq_getElem (l := l) (i := j) (by omega)
        obtain ⟨g1, h1, h2, h3⟩ := hat1 j _ hx
        obtain ⟨g2, k1, k2, k3⟩ := hat2 j _ hx
        exact ⟨_, g1, g2, h1, k1, by omega, k2, (hb2.cell (p := ⟨g1, j, none⟩) h2).trans h3, k3⟩
      rw [hN] at hlen hcap1 hcap2 ⊢
      have HALL := Lib.hid hall
      have hN1 : N ≤ 100 := by have h := hlen; omega
      clear hs2 hown1 hown2 hat1 hat2 hN hall hr hlen hb1 hb2
      go_wp2
      go_loopw [8] (fun v wr => SlRel N w2 v wr) (fun v _ => N - (intOf v).toNat)
      case atStart => exact ⟨0, Nat.zero_le _, rfl, Below.refl _ _⟩
      case round =>
        obtain ⟨i, hi, rfl, hbr⟩ := hrel
        by_cases hlt : i < N
        · have hlt2 : (i : Int) < N := by omega
          obtain ⟨x, g1, g2, rfl, rfl, hg1, hg2, c1, c2⟩ := HALL.out i hlt
          have k1 := (hbr.cell (p := ⟨g1, i, none⟩) hg1).trans c1
          have k2 := (hbr.cell (p := ⟨g2, i, none⟩) hg2).trans c2
          clear c1 c2
          go_wp2
          go_quiet (fail)
          go_wp2
          go_roundw
          case rel => exact ⟨i + 1, by omega, by go_num, below_drewN hbr _⟩
          case measure => simp [intOf]; omega
        · obtain rfl : i = N := by omega
          go_wp2
          go_ret
          exact ⟨ret_bool (by first | rfl | simp), hb3.trans (hbr.mono hb3.size)⟩
    · have hr' : (0 : Int) ≤ a1 := hr
      have hv2 : v2 = .slice none 0 0 := by
        rcases hs2 with ⟨h, _⟩ | ⟨_, h⟩
        · have h' : a1 = -1 := h
          omega
        · exact h
      subst hv2
      clear hs2 hr hb1 hb2 hlen
      go_wp2
      go_ret
      exact ⟨ret_bool (by simp), hb3⟩
  · have hs2 : (100 : Int) < s.size := by omega
    clear hs
    go_enter Tryd.func6, Tryd.ntmps6
    go_wp2_with fail
    refine HAW.out.mono ?_
    rintro e w1 ⟨rfl, hd1⟩
    go_wp2
    go_ret
    exact ⟨rfl, hd1.below⟩
end Go.Proofs.YtlfmpjneopeadaaDoor

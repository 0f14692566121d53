/- The walk of the statement EditDiffers: it returns true, and what lay in memory before stays as it was. No condition. -/
import Derived.Test.YtjickhgkhcojgaaEdD
import Derived.Deep.RegionHeld3
namespace Go.Proofs.Ytjickhgkhcojgaa
open Go.RowKit
set_option linter.unusedVariables false

theorem refdiff_eq {a b : ByteArray} {h t : Nat} (hD : IsDiff a b h t) (w : World) (ha : a.size ≤ 281474976710656) (hb : b.size ≤ 281474976710656) :
    Calls Try.prog 17 #[.string a, .string b] w fun e w' => e = .returned (.agg #[.int .i64 h, .string (a.extract h (a.size - t)), .string (b.extract h (b.size - t))]) ∧ Below w.heap.size w w' := by
  refine (refdiff_any a b w ha hb).mono ?_
  rintro e w1 ⟨h', t', hD', rfl, hb⟩
  obtain ⟨rfl, rfl⟩ := hD.one hD'
  exact ⟨rfl, hb⟩

/-- Three cells of one block that are kept over calls that write only above. -/
theorem held_of {B W w' : World} {p : Nat} {x y z : Value} (hS : W.cell? ⟨p, 0, none⟩ = some x ∧ W.cell? ⟨p, 1, none⟩ = some y ∧ W.cell? ⟨p, 2, none⟩ = some z ∧ p < W.heap.size ∧ Below B.heap.size B W) (hb : Below W.heap.size W w') :
    w'.cell? ⟨p, 0, none⟩ = some x ∧ w'.cell? ⟨p, 1, none⟩ = some y ∧ w'.cell? ⟨p, 2, none⟩ = some z ∧ p < w'.heap.size ∧ Below B.heap.size B w' := by
  obtain ⟨h0, h1, h2, h3, h4⟩ := hS
  have hz := hb.size
  have hz4 := h4.size
  obtain ⟨hc, _⟩ := bcell hb
  exact ⟨(hc _ _ h3).trans h0, (hc _ _ h3).trans h1, (hc _ _ h3).trans h2, by omega, h4.trans (hb.mono hz4)⟩

set_option maxHeartbeats 1000000 in
theorem differs_any (a b : ByteArray) (w : World) :
    Calls Try.prog 5 #[.string a, .string b] w fun e w' => e = .returned (.bool true) ∧ Below w.heap.size w w' := by
  go_enter Try.func5, Try.ntmps5
  go_wp2_with fail
  refine (awake_any _).mono ?_
  rintro e w1 ⟨rfl, hb1⟩
  by_cases h1 : (300 : Int) < a.size
  · go_wp2
    go_ret
    exact ⟨rfl, hb1⟩
  · by_cases h2 : (300 : Int) < b.size
    · go_wp2
      go_ret
      exact ⟨rfl, hb1⟩
    · have ha : a.size ≤ 281474976710656 := by omega
      have hb : b.size ≤ 281474976710656 := by omega
      go_wp2_with fail
      refine (diff_any a b _ ha hb).mono ?_
      rintro e w2 ⟨h, t, hD, rfl, hb2⟩
      have HD := Lib.hid hD
      have hbr := hD.brings
      have hA := hD.1
      have hB := hD.2.1
      have zd : (a.extract h (a.size - t)).size ≤ 281474976710656 := by simp; omega
      have zn : (b.extract h (b.size - t)).size ≤ 281474976710656 := by simp; omega
      have hw : wrongN a h (a.extract h (a.size - t)) (b.extract h (b.size - t)) = 0 := wrongN_mk0 (by omega) (by omega) (by simpa using hbr.1) (by
        have := doB_size (n := b.extract h (b.size - t)) hbr.1.1
        rw [hbr.2] at this
        omega)
      have HW := Lib.hid hw
      have HB := Lib.hid hbr.2
      clear hD hbr hw
      generalize hgd : a.extract h (a.size - t) = d at *
      generalize hgn : b.extract h (b.size - t) = n at *
      have HR : Hid (∀ W, Calls Try.prog 17 #[.string a, .string b] W fun e w' => e = .returned (.agg #[.int .i64 h, .string d, .string n]) ∧ Below W.heap.size W w') := by
        intro W
        rw [← hgd, ← hgn]
        exact refdiff_eq HD.out W ha hb
      clear hgd hgn
      go_wp2_with fail
      refine (do_ok a d n _ h HW.out ha zd zn).mono ?_
      rw [HB.out]
      rintro e w3 ⟨rfl, hb3⟩
      obtain ⟨W2, hW2⟩ : ∃ W2, W2 = w2.alloc (Obj.cells #[Value.int IntKind.i64 h, Value.string d, Value.string n] 23) := ⟨_, rfl⟩
      have hS2 : W2.cell? ⟨w2.heap.size, 0, none⟩ = some (.int .i64 h) ∧ W2.cell? ⟨w2.heap.size, 1, none⟩ = some (.string d) ∧ W2.cell? ⟨w2.heap.size, 2, none⟩ = some (.string n) ∧ w2.heap.size < W2.heap.size ∧ Below W2.heap.size W2 W2 := by
        rw [hW2]; simp [Below.refl]
      have hS3 := held_of hS2 (by rw [hW2]; exact hb3)
      obtain ⟨hx0, hx1, hx2, hx3, hx4⟩ := hS3
      have hSd : w3.drew.cell? ⟨w2.heap.size, 0, none⟩ = some (.int .i64 h) ∧ w3.drew.cell? ⟨w2.heap.size, 1, none⟩ = some (.string d) ∧ w3.drew.cell? ⟨w2.heap.size, 2, none⟩ = some (.string n) ∧ w2.heap.size < w3.drew.heap.size ∧ Below W2.heap.size W2 w3.drew := ⟨hx0, hx1, hx2, hx3, below_drewN hx4 1⟩
      have hB2 : Below w.heap.size w W2 := by
        rw [hW2]; exact (hb1.trans (hb2.mono hb1.size)).alloc (by have := hb1.size; have := hb2.size; omega) _
      have hle : w.heap.size ≤ W2.heap.size := hB2.size
      clear hW2 hS2 hb1 hb2 hb3 hx4
      go_wp2_with fail
      go_region_held3 (fun w' => w'.cell? ⟨w2.heap.size, 0, none⟩ = some (.int .i64 h) ∧ w'.cell? ⟨w2.heap.size, 1, none⟩ = some (.string d) ∧ w'.cell? ⟨w2.heap.size, 2, none⟩ = some (.string n) ∧ w2.heap.size < w'.heap.size ∧ Below W2.heap.size W2 w')
        (first | exact hSd | exact held_of (by assumption) (by assumption))
        (first | (go_at_call 17; refine (HR.out _).mono ?_; rintro e w' ⟨rfl, hb'⟩))
      go_wp2
      rename_i hH
      go_ret
      exact ⟨rfl, hB2.trans (hH.2.2.2.2.mono hle)⟩
end Go.Proofs.Ytjickhgkhcojgaa

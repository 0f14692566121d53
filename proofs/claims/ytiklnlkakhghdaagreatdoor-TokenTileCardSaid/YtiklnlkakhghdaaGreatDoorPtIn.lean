/- What Inside of layer 7 (parts) returns. Condition: a part of a text. -/
import Derived.Test.YtiklnlkakhghdaaGreatDoorPtK
import Derived.Deep.CutRange
import Derived.Deep.DeepCutAuto
namespace Go.Proofs.YtiklnlkakhghdaaGreatDoor
open Go.RowKit
set_option linter.unusedVariables false

/-- How many bytes of a part stand ahead of its inside, and behind it. -/
def headM (m : Nat) : Nat := if m = 1 ∨ m = 7 ∨ m = 8 then 2 else if m = 9 then 3 else 1
def tailM (m : Nat) : Nat := if m = 1 ∨ m = 7 ∨ m = 8 then 1 else if m = 9 then 2 else if m = 13 ∨ m = 12 then 0 else 1
theorem headM_le (m : Nat) : headM m ≤ 3 := by unfold headM; (repeat' split) <;> omega
theorem tailM_le (m : Nat) : tailM m ≤ 2 := by unfold tailM; (repeat' split) <;> omega
/-- Where a part's inside ends. -/
def insT (p : Prt) : Nat := if p.to ≤ p.frm + headM p.mode then p.frm + headM p.mode else if p.op = true then p.to else if p.frm + headM p.mode ≤ p.to - tailM p.mode then p.to - tailM p.mode else p.frm + headM p.mode

theorem prt_to_pos {s : ByteArray} {f : Nat} (hf : f < s.size) (hb : born s f = true) : 1 ≤ (prt s f).to := by
  have he := eK_born hb hf
  rw [prt_eq hb hf]
  split
  · show 1 ≤ f + 1 + _; omega
  · show 1 ≤ (if eK s f s.size = s.size then s.size else eK s f s.size + 1)
    split <;> omega
/-- The same, as the statement works it out. -/
theorem insT_law (m f t : Nat) (up : Int) (op : Bool) (ht : 1 ≤ t) (Y F : Int) (hF : F = (f : Int) + (headM m : Nat)) (hY : Y = if m = 12 ∨ m = 13 ∨ op = true then (t : Int) else if m = 9 then (t : Int) - 2 else (t : Int) - 1) : ((insT ⟨m, f, t, up, op⟩ : Nat) : Int) = if Y < F then F else Y := by
  subst hF hY
  unfold insT tailM
  simp only
  have h3 := headM_le m
  by_cases e12 : m = 12
  · subst e12
    have : headM 12 = 1 := rfl
    rw [this]
    cases op <;> simp <;> (repeat' split) <;> omega
  by_cases e13 : m = 13
  · subst e13
    have : headM 13 = 1 := rfl
    rw [this]
    cases op <;> simp <;> (repeat' split) <;> omega
  by_cases e9 : m = 9
  · subst e9
    have : headM 9 = 3 := rfl
    rw [this]
    cases op <;> simp <;> (repeat' split) <;> omega
  generalize headM m = hd at *
  cases op <;> simp [e12, e13, e9] <;> (repeat' split) <;> omega

section
variable (w : World)
set_option maxHeartbeats 2000000 in
theorem edges_any (m hd tl : Nat) (hh : Hid (hd = headM m)) (ht : Hid (tl = tailM m)) : Calls Tryz.prog 155 #[.int .i64 (m : Int)] w fun e w' => e = .returned (.tuple #[.int .i64 (hd : Int), .int .i64 (tl : Int)]) ∧ w' = w := by
  have h1 := hh.out
  have h2 := ht.out
  unfold headM at h1
  unfold tailM at h2
  by_cases e1 : m = 1
  · subst e1
    simp at h1 h2
    subst h1 h2
    go_enter Tryz.func155, Tryz.ntmps155
    go_wp2
    go_ret2
    exact ⟨rfl, rfl⟩
  by_cases e7 : m = 7
  · subst e7
    simp at h1 h2
    subst h1 h2
    go_enter Tryz.func155, Tryz.ntmps155
    go_wp2
    go_ret2
    exact ⟨rfl, rfl⟩
  by_cases e8 : m = 8
  · subst e8
    simp at h1 h2
    subst h1 h2
    go_enter Tryz.func155, Tryz.ntmps155
    go_wp2
    go_ret2
    exact ⟨rfl, rfl⟩
  by_cases e9 : m = 9
  · subst e9
    simp at h1 h2
    subst h1 h2
    go_enter Tryz.func155, Tryz.ntmps155
    go_wp2
    go_ret2
    exact ⟨rfl, rfl⟩
  by_cases e13 : m = 13
  · subst e13
    simp at h1 h2
    subst h1 h2
    go_enter Tryz.func155, Tryz.ntmps155
    go_wp2
    go_ret2
    exact ⟨rfl, rfl⟩
  by_cases e12 : m = 12
  · subst e12
    simp at h1 h2
    subst h1 h2
    go_enter Tryz.func155, Tryz.ntmps155
    go_wp2
    go_ret2
    exact ⟨rfl, rfl⟩
  rw [if_neg (by omega), if_neg e9] at h1
  rw [if_neg (by omega), if_neg e9, if_neg (by omega)] at h2
  subst h1 h2
  have t1 : ((m : Int) == 1) = false := beq_eq_false_iff_ne.2 (by omega)
  have t7 : ((m : Int) == 7) = false := beq_eq_false_iff_ne.2 (by omega)
  have t8 : ((m : Int) == 8) = false := beq_eq_false_iff_ne.2 (by omega)
  have t9 : ((m : Int) == 9) = false := beq_eq_false_iff_ne.2 (by omega)
  have t13 : ((m : Int) == 13) = false := beq_eq_false_iff_ne.2 (by omega)
  have t12 : ((m : Int) == 12) = false := beq_eq_false_iff_ne.2 (by omega)
  go_enter Tryz.func155, Tryz.ntmps155
  go_wp2
  go_ret2
  exact ⟨rfl, rfl⟩
set_option maxHeartbeats 4000000 in
theorem inside_any (m f t : Nat) (up : Int) (op : Bool) (hf : f ≤ 1000000) (ht : t ≤ 1000000) :
    Calls Tryz.prog 145 #[.agg #[.int .i64 (m : Int), .int .i64 (f : Int), .int .i64 (t : Int), .int .i64 up, .bool op]] w fun e w' => e = .returned (.tuple #[.int .i64 ((f + headM m : Nat) : Int), .int .i64 ((insT ⟨m, f, t, up, op⟩ : Nat) : Int)]) ∧ Below w.heap.size w w' := by
  have h3 := headM_le m
  have h2 := tailM_le m
  obtain ⟨T, hT⟩ : ∃ T, insT ⟨m, f, t, up, op⟩ = T := ⟨_, rfl⟩
  rw [hT]
  unfold insT at hT
  simp only at hT
  have hed := fun W => edges_any W m (headM m) (tailM m) (Lib.hid rfl) (Lib.hid rfl)
  generalize headM m = hd at *
  generalize tailM m = tl at *
  obtain ⟨F, hF⟩ : ∃ F, f + hd = F := ⟨_, rfl⟩
  rw [hF] at hT ⊢
  have e1 : IntKind.i64.wrap ((f : Int) + (hd : Int)) = (F : Int) := by rw [IntWalk.i64_in _ (by omega)]; omega
  have e2 : IntKind.i64.wrap ((t : Int) - (tl : Int)) = (t : Int) - (tl : Int) := by rw [IntWalk.i64_in _ (by omega)]
  have HED := Lib.hid hed
  have HT := Lib.hid hT
  have HFF := Lib.hid hF
  have hbel : ∀ W : World, Below w.heap.size w W → ∀ q, Below w.heap.size w (W.drewN q) := fun W h q => below_drewN h q
  clear hed hT hF h3
  by_cases hle : t ≤ F
  · have t1 : (t : Int) ≤ (F : Int) := by omega
    have t1b : decide (t ≤ F) = true := by simpa using hle
    have e : T = F := by rw [← HT.out, if_pos hle]
    subst e
    go_enter Tryz.func145, Tryz.ntmps145
    go_wp2_with fail
    refine (HED.out _).mono ?_
    rintro e w1 ⟨rfl, rfl⟩
    go_wp2
    go_ret2
    exact ⟨rfl, (Below.refl _ _).alloc (Nat.le_refl _) _⟩
  · have t1 : ¬ (t : Int) ≤ (F : Int) := by omega
    have t1b : decide (t ≤ F) = false := by simpa using hle
    cases op with
    | true =>
      have e : t = T := by rw [← HT.out, if_neg hle, if_pos rfl]
      subst e
      go_enter Tryz.func145, Tryz.ntmps145
      go_wp2_with fail
      refine (HED.out _).mono ?_
      rintro e w1 ⟨rfl, rfl⟩
      go_wp2
      go_quiet (fail)
      go_wp2
      go_ret2
      exact ⟨rfl, below_drewN ((Below.refl _ _).alloc (Nat.le_refl _) _) _⟩
    | false =>
      have e : T = if F ≤ t - tl then t - tl else F := by rw [← HT.out, if_neg hle, if_neg (by simp)]
      have HE := Lib.hid e
      clear e HT
      go_enter Tryz.func145, Tryz.ntmps145
      go_wp2_with fail
      refine (HED.out _).mono ?_
      rintro e w1 ⟨rfl, rfl⟩
      go_wp2
      go_quiet (fail)
      go_wp2
      all_goals
        go_ret2
        refine ⟨?_, below_drewN ((Below.refl _ _).alloc (Nat.le_refl _) _) _⟩
        first
          | (have e3 : (T : Int) = (t : Int) - (tl : Int) := (by have := HE.out; split at this <;> omega)
             rw [e3]
             rfl)
          | (have e3 : (T : Int) = (F : Int) := (by have := HE.out; split at this <;> omega)
             rw [e3]
             rfl)

end
end Go.Proofs.YtiklnlkakhghdaaGreatDoor

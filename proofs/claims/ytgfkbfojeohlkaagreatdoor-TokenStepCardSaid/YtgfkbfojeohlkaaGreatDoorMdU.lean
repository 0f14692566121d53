/- What dollar and plain of layer 6 (modes) leave of a machine in memory. Condition: a byte; a machine of at most a hundred thousand frames. -/
import Derived.Test.YtgfkbfojeohlkaaGreatDoorMdT
import Derived.Deep.RegionWith
namespace Go.Proofs.YtgfkbfojeohlkaaGreatDoor
open Go.RowKit
set_option linter.unusedVariables false

section
variable (mb g cap p : Nat) (w : World)
set_option maxHeartbeats 2000000 in
theorem dollar_any (b f : Nat) (r : List Fr) (fresh : Bool) (hM : Mc w mb g cap ⟨(12, f) :: r, fresh⟩ p) (hl : r.length ≤ 100000) (hr : r ≠ []) (X : Ms)
    (hX : Hid (X = if b = 40 then ⟨(3, f) :: r, true⟩ else if b = 123 then ⟨(brace (top r), f) :: r, fresh⟩ else ⟨r, fresh⟩)) :
    Calls Tryz.prog 185 #[.pointer (some ⟨mb, 0, none⟩), .int .u8 b] w fun e w' => (∃ v, e = .returned v) ∧ McTo w mb g X p w' := by
  by_cases h1 : b = 40
  · subst h1
    have e : X = ⟨(3, f) :: r, true⟩ := hX.out
    clear hX
    subst e
    go_enter Tryz.func185, Tryz.ntmps185
    go_wp2_with fail
    refine (turn_any mb g cap p _ 12 f 3 r fresh hM (by omega)).mono ?_
    rintro e w1 ⟨⟨v, rfl⟩, hM1, hF⟩
    have d1 := hM1.obj.cell 1
    have f1 := hM1.obj.frozen 1
    go_wp2
    refine bodyPost_end (results_none rfl _ _ _) rfl ?_
    exact ⟨⟨_, rfl⟩, _, _, hM1.fr true, hF.setCell 1 (.inl (.inl rfl)) _, .inl rfl⟩
  by_cases h2 : b = 123
  · subst h2
    have e : X = ⟨(brace (top r), f) :: r, fresh⟩ := hX.out
    clear hX
    subst e
    cases r with
    | nil => exact absurd rfl hr
    | cons a r =>
      obtain ⟨m2, f2⟩ := a
      simp only [List.length_cons] at hl
      have htp : top ((m2, f2) :: r) = m2 := rfl
      rw [htp]
      clear htp
      obtain ⟨z, hz⟩ : ∃ z, z = r.length + 2 := ⟨_, rfl⟩
      have c0 : w.cell? ⟨mb, 0, none⟩ = some (.slice (some ⟨g, 0, none⟩) z cap) := by rw [hz]; exact hM.obj.cell 0
      have c1 := (hM.row.cell (j := r.length) (x := (m2, f2)) (by simp)).1
      simp only at c1
      have e1 : IntKind.i64.wrap ((z : Int) - 2) = (r.length : Int) := by rw [IntWalk.i64_in _ (by omega)]; omega
      have q1 : (r.length : Int) < (z : Int) := by omega
      have q0 : (0 : Int) ≤ (r.length : Int) := by omega
      have hR : ∀ X, Frm (fun _ => False) w X → Mc X mb g cap ⟨(12, f) :: (m2, f2) :: r, fresh⟩ p := fun X hX => hM.frm hX (fun h => h) (fun h => h)
      obtain ⟨k, hk⟩ : ∃ k, r.length = k := ⟨_, rfl⟩
      rw [hk] at c1 e1 q1 q0
      have HZ := Lib.hid hz
      have HK := Lib.hid hk
      clear hz hk
      go_enter Tryz.func185, Tryz.ntmps185
      go_wp2
      go_region_with (first
        | (go_at_call 198; refine (braced_any _ _).mono ?_; rintro e w1 ⟨rfl, rfl⟩)
        | (go_at_call 160; refine (turn_any mb g cap p _ 12 f (brace m2) ((m2, f2) :: r) fresh (hR _ ((Frm.refl _ _).drew)) (by simp; omega)).mono ?_; rintro e w1 ⟨⟨v, rfl⟩, hM1, hF⟩))
      all_goals
        go_wp2
        refine bodyPost_end (results_none rfl _ _ _) rfl ?_
        exact ⟨⟨_, rfl⟩, _, _, hM1, (Frm.refl (mfoot mb g) w).drew.trans hF (fun _ _ h => h), .inl rfl⟩
  · have t1 : ((b : Int) == 40) = false := beq_eq_false_iff_ne.2 (by omega)
    have t2 : ((b : Int) == 123) = false := beq_eq_false_iff_ne.2 (by omega)
    have e : X = ⟨r, fresh⟩ := by rw [hX.out, if_neg h1, if_neg h2]
    clear hX
    subst e
    go_enter Tryz.func185, Tryz.ntmps185
    go_wp2_with fail
    refine (shut_any mb g cap p _ (12, f) r fresh hM (by omega)).mono ?_
    rintro e w1 ⟨⟨v, rfl⟩, hM1, hF⟩
    go_wp2
    refine bodyPost_end (results_none rfl _ _ _) rfl ?_
    exact ⟨⟨_, rfl⟩, _, _, hM1, hF, .inl rfl⟩

theorem mv_quote {m b : Nat} (hm : isProg m = true) (fresh : Bool) (h : cls b = 4) : mv m b fresh = (.push (openedN b), fresh && decide (b = 92)) := by
  have hb : b = 92 ∨ b = 39 ∨ b = 34 ∨ b = 96 ∨ b = 36 := by
    unfold cls at h
    repeat' split at h
    all_goals first | omega | assumption
  unfold mv
  rw [if_pos hm]
  rcases hb with rfl | rfl | rfl | rfl | rfl <;> simp [openedN, opn]
theorem mv_other {m b : Nat} (hm : isProg m = true) (fresh : Bool) (h : cls b ≠ 4) (h1 : b = 35 → fresh = false) (h2 : b ≠ 40) (h3 : b ≠ 41) : mv m b fresh = (.keep, endsB b) := by
  have hb : b ≠ 92 ∧ b ≠ 39 ∧ b ≠ 34 ∧ b ≠ 96 ∧ b ≠ 36 := by
    refine ⟨?_, ?_, ?_, ?_, ?_⟩ <;> (intro e; subst e; exact h rfl)
  have h4 : ¬ (b = 35 ∧ fresh = true) := fun ⟨a, c⟩ => by rw [h1 a] at c; cases c
  unfold mv
  rw [if_pos hm]
  simp [hb, h2, h3, h4]

set_option maxHeartbeats 2000000 in
theorem plain_any (m b f : Nat) (r : List Fr) (fresh : Bool) (hM : Mc w mb g cap ⟨(m, f) :: r, fresh⟩ p) (hl : r.length ≤ 100000) (hb : b < 256) (hm : m = 0 ∨ m = 1 ∨ m = 2) (X : Ms) (hX : Hid (X = plainF ((m, f) :: r) fresh b p)) :
    Calls Tryz.prog 182 #[.pointer (some ⟨mb, 0, none⟩), .int .i64 m, .int .u8 b] w fun e w' => (∃ v, e = .returned v) ∧ McTo w mb g X p w' := by
  have hP : isProg m = true := by unfold isProg; simpa using hm
  have c1 : w.cell? ⟨mb, 1, none⟩ = some (.bool fresh) := hM.obj.cell 1
  have f1 := hM.obj.frozen 1
  have hX' : X = fin (mv m b fresh) ((m, f) :: r) p := hX.out
  clear hX
  by_cases hA : b = 35 ∧ fresh = true
  · obtain ⟨rfl, rfl⟩ := hA
    have e : X = ⟨(14, p) :: (m, f) :: r, true⟩ := by rw [hX']; unfold mv; rw [if_pos hP]; rfl
    clear hX'
    subst e
    go_enter Tryz.func182, Tryz.ntmps182
    go_wp2_with fail
    refine (open_any mb g cap p _ 14 _ true hM (by simp; omega)).mono ?_
    rintro e w1 ⟨⟨v, rfl⟩, hM1⟩
    go_wp2
    refine bodyPost_end (results_none rfl _ _ _) rfl ?_
    exact ⟨⟨_, rfl⟩, hM1⟩
  by_cases hB : cls b = 4
  · have h35 : b ≠ 35 := fun e => by subst e; exact absurd hB (by decide)
    have t1 : ((b : Int) == 35) = false := beq_eq_false_iff_ne.2 (by omega)
    rw [mv_quote hP fresh hB] at hX'
    have e : X = ⟨(openedN b, p) :: (m, f) :: r, fresh && decide (b = 92)⟩ := hX'
    clear hX' hA
    by_cases h92 : b = 92
    · subst h92
      have e' : X = ⟨(openedN 92, p) :: (m, f) :: r, fresh⟩ := by rw [e]; simp
      clear e
      subst e'
      cases fresh
      all_goals
        go_enter Tryz.func182, Tryz.ntmps182
        go_wp2_with fail
        refine (of_any _ _).mono ?_
        rintro e w1 ⟨rfl, rfl⟩
        go_wp2_with fail
        refine (opened_any 92 _).mono ?_
        rintro e w1 ⟨rfl, rfl⟩
        go_wp2_with fail
        refine (open_any mb g cap p _ (openedN 92) _ _ hM (by simp; omega)).mono ?_
        rintro e w1 ⟨⟨v, rfl⟩, hM1⟩
        have hMT := hM1
        obtain ⟨g1, cap1, hM1, hF, hg⟩ := hM1
        have d1 := hM1.obj.cell 1
        have df := hM1.obj.frozen 1
        simp at d1
        go_wp2
        refine bodyPost_end (results_none rfl _ _ _) rfl ?_
        exact ⟨⟨_, rfl⟩, hMT.fr _⟩
    · have t2 : ((b : Int) == 92) = false := beq_eq_false_iff_ne.2 (by omega)
      have e' : X = ⟨(openedN b, p) :: (m, f) :: r, false⟩ := by rw [e]; simp [h92]
      clear e h92
      subst e'
      cases fresh
      all_goals
        go_enter Tryz.func182, Tryz.ntmps182
        go_wp2_with fail
        refine (of_any _ _).mono ?_
        rintro e w1 ⟨rfl, rfl⟩
        go_wp2_with fail
        refine (opened_any b _).mono ?_
        rintro e w1 ⟨rfl, rfl⟩
        go_wp2_with fail
        refine (open_any mb g cap p _ (openedN b) _ _ hM (by simp; omega)).mono ?_
        rintro e w1 ⟨⟨v, rfl⟩, hM1⟩
        have hMT := hM1
        obtain ⟨g1, cap1, hM1, hF, hg⟩ := hM1
        have d1 := hM1.obj.cell 1
        have df := hM1.obj.frozen 1
        simp at d1
        go_wp2
        refine bodyPost_end (results_none rfl _ _ _) rfl ?_
        exact ⟨⟨_, rfl⟩, hMT.fr _⟩
  by_cases hC : b = 40
  · subst hC
    clear hA hB
    by_cases h0 : m = 0
    · subst h0
      have e : X = ⟨(0, f) :: r, true⟩ := hX'
      clear hX'
      subst e
      go_enter Tryz.func182, Tryz.ntmps182
      go_wp2_with fail
      refine (of_any _ _).mono ?_
      rintro e w1 ⟨rfl, rfl⟩
      go_wp2_with fail
      refine (ends_any _ _).mono ?_
      rintro e w1 ⟨rfl, rfl⟩
      go_wp2
      refine bodyPost_end (results_none rfl _ _ _) rfl ?_
      exact ⟨⟨_, rfl⟩, hM.to.fr _⟩
    · have t3 : ((m : Int) == 0) = false := beq_eq_false_iff_ne.2 (by omega)
      have e : X = ⟨(2, p) :: (m, f) :: r, true⟩ := by rw [hX']; unfold mv; rw [if_pos hP]; simp [h0, fin, Mv.run]
      clear hX'
      subst e
      go_enter Tryz.func182, Tryz.ntmps182
      go_wp2_with fail
      refine (of_any _ _).mono ?_
      rintro e w1 ⟨rfl, rfl⟩
      go_wp2_with fail
      refine (open_any mb g cap p _ 2 _ _ hM (by simp; omega)).mono ?_
      rintro e w1 ⟨⟨v, rfl⟩, hM1⟩
      have hMT := hM1
      obtain ⟨g1, cap1, hM1, hF, hg⟩ := hM1
      have d1 := hM1.obj.cell 1
      have df := hM1.obj.frozen 1
      simp at d1
      go_wp2
      refine bodyPost_end (results_none rfl _ _ _) rfl ?_
      exact ⟨⟨_, rfl⟩, hMT.fr _⟩
  by_cases hD : b = 41
  · subst hD
    clear hA hB hC
    by_cases h0 : m = 0
    · subst h0
      have e : X = ⟨(0, f) :: r, true⟩ := hX'
      clear hX'
      subst e
      go_enter Tryz.func182, Tryz.ntmps182
      go_wp2_with fail
      refine (of_any _ _).mono ?_
      rintro e w1 ⟨rfl, rfl⟩
      go_wp2_with fail
      refine (ends_any _ _).mono ?_
      rintro e w1 ⟨rfl, rfl⟩
      go_wp2
      refine bodyPost_end (results_none rfl _ _ _) rfl ?_
      exact ⟨⟨_, rfl⟩, hM.to.fr _⟩
    · have t3 : ((m : Int) == 0) = false := beq_eq_false_iff_ne.2 (by omega)
      have e : X = ⟨r, decide (m = 2)⟩ := by rw [hX']; unfold mv; rw [if_pos hP]; simp [h0, fin, Mv.run]
      have e2 : ((m : Int) == 2) = decide (m = 2) := by rw [Bool.eq_iff_iff, beq_iff_eq, decide_eq_true_iff]; omega
      obtain ⟨bb, hbb⟩ : ∃ bb, decide (m = 2) = bb := ⟨_, rfl⟩
      rw [hbb] at e e2
      clear hX' hbb
      subst e
      go_enter Tryz.func182, Tryz.ntmps182
      go_wp2_with fail
      refine (of_any _ _).mono ?_
      rintro e w1 ⟨rfl, rfl⟩
      go_wp2_with fail
      refine (shut_any mb g cap p _ (m, f) r _ hM (by omega)).mono ?_
      rintro e w1 ⟨⟨v, rfl⟩, hM1, hF⟩
      have d1 := hM1.obj.cell 1
      have df := hM1.obj.frozen 1
      simp at d1
      go_wp2
      refine bodyPost_end (results_none rfl _ _ _) rfl ?_
      exact ⟨⟨_, rfl⟩, _, _, hM1.fr _, hF.setCell 1 (.inl (.inl rfl)) _, .inl rfl⟩
  · have t4 : ((b : Int) == 40) = false := beq_eq_false_iff_ne.2 (by omega)
    have t5 : ((b : Int) == 41) = false := beq_eq_false_iff_ne.2 (by omega)
    have t6 : ((cls b : Int) == 4) = false := beq_eq_false_iff_ne.2 (by omega)
    have h35 : b = 35 → fresh = false := fun e => by
      rw [Bool.eq_false_iff]
      exact fun h => hA ⟨e, h⟩
    rw [mv_other hP fresh hB h35 hC hD] at hX'
    have e : X = ⟨(m, f) :: r, endsB b⟩ := hX'
    clear hX' hA hB
    subst e
    by_cases h : b = 35
    · obtain rfl := h35 h
      subst h
      go_enter Tryz.func182, Tryz.ntmps182
      go_wp2_with fail
      refine (of_any _ _).mono ?_
      rintro e w1 ⟨rfl, rfl⟩
      go_wp2_with fail
      refine (ends_any _ _).mono ?_
      rintro e w1 ⟨rfl, rfl⟩
      go_wp2
      refine bodyPost_end (results_none rfl _ _ _) rfl ?_
      exact ⟨⟨_, rfl⟩, hM.to.fr _⟩
    · have t1 : ((b : Int) == 35) = false := beq_eq_false_iff_ne.2 (by omega)
      clear h h35 hC hD
      go_enter Tryz.func182, Tryz.ntmps182
      go_wp2_with fail
      refine (of_any _ _).mono ?_
      rintro e w1 ⟨rfl, rfl⟩
      go_wp2_with fail
      refine (ends_any _ _).mono ?_
      rintro e w1 ⟨rfl, rfl⟩
      go_wp2
      refine bodyPost_end (results_none rfl _ _ _) rfl ?_
      exact ⟨⟨_, rfl⟩, hM.to.fr _⟩
end
end Go.Proofs.YtgfkbfojeohlkaaGreatDoor

/- What Feed of layer 6 (modes) leaves of a machine in memory: the byte has come. Condition: a byte; a machine of at most a hundred thousand frames; its stack is one that texts lead to. -/
import Derived.Test.YtholjhdjlhkocaaMdV
namespace Go.Proofs.Ytholjhdjlhkocaa
open Go.RowKit
set_option linter.unusedVariables false

theorem Mc.drn {w : World} {mb g cap : Nat} {x : Ms} {n : Nat} (h : Mc w mb g cap x n) (k : Nat) : Mc (w.drewN k) mb g cap x n := h.frm ((Frm.refl (fun _ => False) w).drewN k) (fun h => h) (fun h => h)
/-- A byte that a mode passes on: the stack that it comes to then. -/
def passOn (st : List Fr) : List Fr :=
  match st with
  | [] => []
  | (m, f) :: r => if m = 12 then r else if m = 3 then (1, f) :: r else (9, f) :: r
theorem pass_on {m f : Nat} {r : List Fr} {fresh : Bool} {b p : Nat} (hI : Inv ⟨(m, f) :: r, fresh⟩) (hn : ¬ takes m b) :
    ∃ m2 f2 r2, passOn ((m, f) :: r) = (m2, f2) :: r2 ∧ Inv ⟨(m2, f2) :: r2, fresh⟩ ∧ feed ⟨(m2, f2) :: r2, fresh⟩ b p = feed ⟨(m, f) :: r, fresh⟩ b p ∧ m2 ≠ 3 ∧ m2 ≠ 11 ∧ m2 ≠ 12 ∧ r2.length ≤ r.length := by
  have hm : m = 12 ∨ m = 3 ∨ m = 11 := by
    unfold takes at hn
    omega
  have hg := hI.good
  have hf := hI.fr
  have hnf : m = 12 ∨ m = 11 → fresh = false := by
    intro h
    rw [Bool.eq_false_iff]
    intro e
    have h2 := hf.2 e
    rcases h with rfl | rfl <;> simp [isProg, top] at h2
  rcases hm with rfl | rfl | rfl
  · have hb : b ≠ 40 ∧ b ≠ 123 ∧ b ≠ 36 := by unfold takes at hn; omega
    obtain rfl := hnf (.inl rfl)
    obtain ⟨m2, f2, r2, rfl, h1, h2⟩ := good_more hg (by omega)
    have hB := over_base h1
    unfold base at hB
    rw [decide_eq_true_iff] at hB
    refine ⟨m2, f2, r2, rfl, ⟨h2, ⟨fun e => ?_, fun e => by simp at e⟩⟩, ?_, hB.1, hB.2.2.1, hB.2.2.2.1, by simp⟩
    · have e' : m2 = 14 := e; omega
    · rw [feed_plain hB.1 hB.2.2.1 hB.2.2.2.1]
      unfold feed
      simp [hb]
  · have hb : b ≠ 40 := by unfold takes at hn; omega
    refine ⟨1, f, r, rfl, ⟨good_turn hg (by omega) 1 (by decide) f, ⟨fun e => by simp [top] at e, fun e => .inl rfl⟩⟩, ?_, by decide, by decide, by decide, Nat.le_refl _⟩
    unfold feed
    simp [hb]
  · have hb : b ≠ 41 := by unfold takes at hn; omega
    obtain rfl := hnf (.inr rfl)
    refine ⟨9, f, r, rfl, ⟨good_turn hg (by omega) 9 (by decide) f, ⟨fun e => by simp [top] at e, fun e => by simp at e⟩⟩, ?_, by decide, by decide, by decide, Nat.le_refl _⟩
    unfold feed
    simp [hb]

section
variable (mb g cap p : Nat) (w : World)
/-- At the loop's head: as the byte came, or as it was passed on. -/
def FdRel (b : Nat) (X : Ms) (k : Nat) (wr : World) : Prop :=
  ∃ g' cap' m f r fresh, Mc wr mb g' cap' ⟨(m, f) :: r, fresh⟩ p ∧ Frm (mfoot mb g) w wr ∧ (g' = g ∨ w.heap.size ≤ g') ∧ Inv ⟨(m, f) :: r, fresh⟩ ∧ r.length ≤ 100000 ∧ Hid (X = feed ⟨(m, f) :: r, fresh⟩ b p) ∧ (k = 0 → m ≠ 3 ∧ m ≠ 11 ∧ m ≠ 12)

theorem in_open (b : Nat) : inB b ⟨#[40, 123, 36]⟩ = decide (b = 40 ∨ b = 123 ∨ b = 36) := by
  rw [Bool.eq_iff_iff, decide_eq_true_iff]
  simp [inB]

set_option maxRecDepth 100000 in
set_option maxHeartbeats 4000000 in
theorem feed_any (b : Nat) (x : Ms) (hM : Mc w mb g cap x p) (hI : Inv x) (hl : x.st.length ≤ 100000) (hb : b < 256) (hp : p ≤ 1000000) (X : Ms) (hX : Hid (X = feed x b p)) :
    Calls Try.prog 46 #[.pointer (some ⟨mb, 0, none⟩), .int .u8 b] w fun e w' => (∃ v, e = .returned v) ∧ McTo w mb g X (p + 1) w' := by
  have HO := Lib.hid (in_open b)
  go_enter Try.func46, Try.ntmps46
  go_wp2
  go_step3
  go_wp2
  go_step3
  go_wp2
  go_loopg [4] 1 (fun k v wr => FdRel mb g p w b X k wr)
  case atStart =>
    obtain ⟨st, fresh⟩ := x
    cases st with
    | nil => exact absurd hI.good (by simp [good])
    | cons a r =>
      simp at hl
      exact ⟨g, cap, a.1, a.2, r, fresh, hM, Frm.refl _ _, .inl rfl, hI, by omega, hX, fun h => by omega⟩
  case round =>
    obtain ⟨g', cap', m, f, r, fresh, hMr, hF, hg, hIr, hlr, hXr, hk⟩ := hrel
    clear hM hI hl hX
    have HI := Lib.hid hIr
    clear hIr
    go_wp2_with fail
    refine (mode_any mb g' cap' p _ m f r fresh hMr (by omega)).mono ?_
    rintro e w1 ⟨rfl, q, rfl⟩
    by_cases ht : takes m b
    · clear hk
      by_cases h11 : m = 11
      · subst h11
        obtain rfl := ht.1 rfl
        go_wp2_with fail
        refine (take_any mb g' cap' p _ 11 41 f r fresh (hMr.drn q) HI.out hlr (by decide) ht X hXr).mono ?_
        rintro e w2 ⟨⟨v, rfl⟩, hT⟩
        have hTT := McTo.trans (x := X) (p := p) (hF.drewN q) hg hT
        obtain ⟨g2, cap2, hM2, hF2, hg2⟩ := hT
        have d2 := hM2.obj.cell 2
        have df := hM2.obj.frozen 2
        simp at d2
        have e1 : IntKind.i64.wrap ((p : Int) + 1) = ((p + 1 : Nat) : Int) := by rw [IntWalk.i64_in _ (by omega)]; omega
        go_wp2
        rw [Exit.noGoto_normal]
        refine bodyPost_end (results_none rfl _ _ _) rfl ?_
        exact ⟨⟨_, rfl⟩, hTT.at (p + 1)⟩
      by_cases h3 : m = 3
      · subst h3
        obtain rfl := ht.2.1 rfl
        go_wp2_with fail
        refine (take_any mb g' cap' p _ 3 40 f r fresh (hMr.drn q) HI.out hlr (by decide) ht X hXr).mono ?_
        rintro e w2 ⟨⟨v, rfl⟩, hT⟩
        have hTT := McTo.trans (x := X) (p := p) (hF.drewN q) hg hT
        obtain ⟨g2, cap2, hM2, hF2, hg2⟩ := hT
        have d2 := hM2.obj.cell 2
        have df := hM2.obj.frozen 2
        simp at d2
        have e1 : IntKind.i64.wrap ((p : Int) + 1) = ((p + 1 : Nat) : Int) := by rw [IntWalk.i64_in _ (by omega)]; omega
        go_wp2
        rw [Exit.noGoto_normal]
        refine bodyPost_end (results_none rfl _ _ _) rfl ?_
        exact ⟨⟨_, rfl⟩, hTT.at (p + 1)⟩
      by_cases h12 : m = 12
      · subst h12
        have hin : inB b ⟨#[40, 123, 36]⟩ = true := by rw [HO.out, decide_eq_true_iff]; exact ht.2.2 rfl
        have HT := Lib.hid ht
        clear ht
        go_wp2_with fail
        refine (index_inB _ _ hb _).mono ?_
        rintro e w1 ⟨⟨x, rfl, hx⟩, rfl⟩
        rw [hin] at hx
        have hx0 : ¬ x < 0 := by have := of_decide_eq_true hx; omega
        have hx1 : decide (x < 0) = false := decide_eq_false_iff_not.2 hx0
        clear hin
        go_wp2_with fail
        refine (take_any mb g' cap' p _ 12 b f r fresh (hMr.drn q) HI.out hlr hb HT.out X hXr).mono ?_
        rintro e w2 ⟨⟨v, rfl⟩, hT⟩
        have hTT := McTo.trans (x := X) (p := p) (hF.drewN q) hg hT
        obtain ⟨g2, cap2, hM2, hF2, hg2⟩ := hT
        have d2 := hM2.obj.cell 2
        have df := hM2.obj.frozen 2
        simp at d2
        have e1 : IntKind.i64.wrap ((p : Int) + 1) = ((p + 1 : Nat) : Int) := by rw [IntWalk.i64_in _ (by omega)]; omega
        go_wp2
        rw [Exit.noGoto_normal]
        refine bodyPost_end (results_none rfl _ _ _) rfl ?_
        exact ⟨⟨_, rfl⟩, hTT.at (p + 1)⟩
      have t11 : ((m : Int) == 11) = false := beq_eq_false_iff_ne.2 (by omega)
      have t3 : ((m : Int) == 3) = false := beq_eq_false_iff_ne.2 (by omega)
      have t12 : ((m : Int) == 12) = false := beq_eq_false_iff_ne.2 (by omega)
      have HT := Lib.hid ht
      clear ht h11 h3 h12
      go_wp2_with fail
      refine (take_any mb g' cap' p _ m b f r fresh (hMr.drn q) HI.out hlr hb HT.out X hXr).mono ?_
      rintro e w2 ⟨⟨v, rfl⟩, hT⟩
      have hTT := McTo.trans (x := X) (p := p) (hF.drewN q) hg hT
      obtain ⟨g2, cap2, hM2, hF2, hg2⟩ := hT
      have d2 := hM2.obj.cell 2
      have df := hM2.obj.frozen 2
      simp at d2
      have e1 : IntKind.i64.wrap ((p : Int) + 1) = ((p + 1 : Nat) : Int) := by rw [IntWalk.i64_in _ (by omega)]; omega
      go_wp2
      rw [Exit.noGoto_normal]
      refine bodyPost_end (results_none rfl _ _ _) rfl ?_
      exact ⟨⟨_, rfl⟩, hTT.at (p + 1)⟩
    · obtain ⟨m2, f2, r2, hpo, hI2, hfe, hn1, hn2, hn3, hr2⟩ := pass_on (p := p) HI.out ht
      have hk1 : gk ≠ 0 := fun e => by
        have := hk e
        unfold takes at ht
        omega
      have hm : (m = 12 ∧ b ≠ 40 ∧ b ≠ 123 ∧ b ≠ 36) ∨ (m = 3 ∧ b ≠ 40) ∨ (m = 11 ∧ b ≠ 41) := by
        unfold takes at ht
        omega
      have HK : Hid (X = feed ⟨(m2, f2) :: r2, fresh⟩ b p ∧ Inv ⟨(m2, f2) :: r2, fresh⟩ ∧ (m2 ≠ 3 ∧ m2 ≠ 11 ∧ m2 ≠ 12) ∧ r2.length ≤ 100000) := Lib.hid ⟨hXr.out.trans hfe.symm, hI2, ⟨hn1, hn2, hn3⟩, by omega⟩
      clear ht hk hI2 hfe hn1 hn2 hn3 hr2 hXr HI
      rcases hm with ⟨rfl, b1, b2, b3⟩ | ⟨rfl, b1⟩ | ⟨rfl, b1⟩
      · have e : r = (m2, f2) :: r2 := hpo
        clear hpo
        have hin : inB b ⟨#[40, 123, 36]⟩ = false := by rw [HO.out, decide_eq_false_iff_not]; omega
        go_wp2_with fail
        refine (index_inB _ _ hb _).mono ?_
        rintro e w1 ⟨⟨x, rfl, hx⟩, rfl⟩
        rw [hin] at hx
        have hx0 : x < 0 := by have := of_decide_eq_false hx; omega
        have hx1 : decide (x < 0) = true := decide_eq_true_iff.2 hx0
        clear hin
        subst e
        go_wp2_with fail
        refine (shut_any mb g' cap' p _ (12, f) ((m2, f2) :: r2) fresh (hMr.drn q) (by omega)).mono ?_
        rintro e w2 ⟨⟨v, rfl⟩, hM2, hF2⟩
        go_wp2
        go_roundg 0
        case measure => omega
        case rel => exact ⟨g', cap', m2, f2, r2, fresh, hM2, (hF.drewN q).trans hF2 (fun i hi hh => by
            rcases hh with hh | hh
            · exact .inl hh
            · rcases hg with hg | hg
              · exact .inr (hh.trans hg)
              · omega), hg, HK.out.2.1, HK.out.2.2.2, Lib.hid HK.out.1, fun _ => HK.out.2.2.1⟩
      · obtain ⟨⟨rfl, rfl⟩, rfl⟩ : (1 = m2 ∧ f = f2) ∧ r = r2 := by simpa [passOn] using hpo
        clear hpo
        go_wp2_with fail
        refine (turn_any mb g' cap' p _ 3 f 1 r fresh (hMr.drn q) (by omega)).mono ?_
        rintro e w2 ⟨⟨v, rfl⟩, hM2, hF2⟩
        go_wp2
        go_roundg 0
        case measure => omega
        case rel => exact ⟨g', cap', 1, f, r, fresh, hM2, (hF.drewN q).trans hF2 (fun i hi hh => by
            rcases hh with hh | hh
            · exact .inl hh
            · rcases hg with hg | hg
              · exact .inr (hh.trans hg)
              · omega), hg, HK.out.2.1, HK.out.2.2.2, Lib.hid HK.out.1, fun _ => HK.out.2.2.1⟩
      · obtain ⟨⟨rfl, rfl⟩, rfl⟩ : (9 = m2 ∧ f = f2) ∧ r = r2 := by simpa [passOn] using hpo
        clear hpo
        go_wp2_with fail
        refine (turn_any mb g' cap' p _ 11 f 9 r fresh (hMr.drn q) (by omega)).mono ?_
        rintro e w2 ⟨⟨v, rfl⟩, hM2, hF2⟩
        go_wp2
        go_roundg 0
        case measure => omega
        case rel => exact ⟨g', cap', 9, f, r, fresh, hM2, (hF.drewN q).trans hF2 (fun i hi hh => by
            rcases hh with hh | hh
            · exact .inl hh
            · rcases hg with hg | hg
              · exact .inr (hh.trans hg)
              · omega), hg, HK.out.2.1, HK.out.2.2.2, Lib.hid HK.out.1, fun _ => HK.out.2.2.1⟩
end
end Go.Proofs.Ytholjhdjlhkocaa

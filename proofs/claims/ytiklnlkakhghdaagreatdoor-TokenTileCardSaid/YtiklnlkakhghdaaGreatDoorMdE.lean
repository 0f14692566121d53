/- What ends and End of layer 6 (modes) return. Condition: texts of at most 80,000 bytes. -/
import Derived.Test.YtiklnlkakhghdaaGreatDoorMdFr
import Derived.Test.YtiklnlkakhghdaaGreatDoorMdQ
namespace Go.Proofs.YtiklnlkakhghdaaGreatDoor
open Go.RowKit
set_option linter.unusedVariables false

/-- Does a word end here? -/
def stops (x : Ms) (b : Nat) : Bool := endsB b && (decide (x.st.length = 1) || (decide (x.st.length = 2) && decide (top x.st = 12) && decide (b ≠ 40)))
section
variable (mb g cap p : Nat) (w : World)
set_option maxHeartbeats 2000000 in
theorem ends_m (b : Nat) (x : Ms) (hM : Mc w mb g cap x p) (h0 : 0 < x.st.length) (hl : x.st.length ≤ 100000) (bb : Bool) (hbb : Hid (stops x b = bb)) :
    Calls Tryz.prog 94 #[.pointer (some ⟨mb, 0, none⟩), .int .u8 b] w fun e w' => e = .returned (.bool bb) ∧ ∃ q, w' = w.drewN q := by
  obtain ⟨st, fresh⟩ := x
  cases st with
  | nil => simp at h0
  | cons a r =>
    obtain ⟨m, f⟩ := a
    obtain ⟨z, hz⟩ : ∃ z, z = r.length + 1 := ⟨_, rfl⟩
    have c0 : w.cell? ⟨mb, 0, none⟩ = some (.slice (some ⟨g, 0, none⟩) z cap) := by rw [hz]; exact hM.obj.cell 0
    simp only [List.length_cons] at hl
    obtain ⟨eb, heb⟩ : ∃ eb, endsB b = eb := ⟨_, rfl⟩
    have hst : stops ⟨(m, f) :: r, fresh⟩ b = (eb && (decide (z = 1) || (decide (z = 2) && decide (m = 12) && decide (b ≠ 40)))) := by
      unfold stops
      rw [heb, hz]
      rfl
    rw [hbb.out] at hst
    have HB := Lib.hid heb
    cases eb with
    | false =>
      have e : bb = false := by rw [hst]; simp
      clear hst hbb
      subst e
      clear hz
      go_enter Tryz.func94, Tryz.ntmps94
      go_wp2_with fail
      refine (ends_any _ _).mono ?_
      rw [heb]
      rintro e w1 ⟨rfl, rfl⟩
      go_wp2
      go_ret
      exact ⟨rfl, 0, rfl⟩
    | true =>
      by_cases h2 : z = 2
      · have u2 : ((z : Int) == 2) = true := beq_iff_eq.2 (by omega)
        by_cases h12 : m = 12
        · by_cases h40 : b = 40
          · have e : bb = false := by rw [hst]; simp [h2, h40]
            have v1 : ((m : Int) == 12) = true := beq_iff_eq.2 (by omega)
            have v2 : ((b : Int) == 40) = true := beq_iff_eq.2 (by omega)
            clear hst hbb
            subst e
            subst h12 h40
            have hb' : endsB 40 = true := heb
            clear hz h2
            go_enter Tryz.func94, Tryz.ntmps94
            go_wp2_with fail
            refine (ends_any _ _).mono ?_
            rw [hb']
            rintro e w1 ⟨rfl, rfl⟩
            go_wp2_with fail
            refine (mode_any mb g cap p _ 12 f r fresh hM (by omega)).mono ?_
            rintro e w1 ⟨rfl, q, rfl⟩
            go_wp2
            go_ret
            exact ⟨rfl, q, rfl⟩
          · have e : bb = true := by rw [hst]; simp [h2, h12, h40]
            have v2 : ((b : Int) == 40) = false := beq_eq_false_iff_ne.2 (by omega)
            have v3 : ((b : Int) != 40) = true := by rw [bne, v2]; rfl
            clear hst hbb
            subst e
            subst h12
            clear hz h2 h40
            go_enter Tryz.func94, Tryz.ntmps94
            go_wp2_with fail
            refine (ends_any _ _).mono ?_
            rw [heb]
            rintro e w1 ⟨rfl, rfl⟩
            go_wp2_with fail
            refine (mode_any mb g cap p _ 12 f r fresh hM (by omega)).mono ?_
            rintro e w1 ⟨rfl, q, rfl⟩
            go_wp2
            go_ret
            exact ⟨rfl, q, rfl⟩
        · have e : bb = false := by rw [hst]; simp [h2, h12]
          have v1 : ((m : Int) == 12) = false := beq_eq_false_iff_ne.2 (by omega)
          clear hst hbb
          subst e
          clear hz h2 h12
          go_enter Tryz.func94, Tryz.ntmps94
          go_wp2_with fail
          refine (ends_any _ _).mono ?_
          rw [heb]
          rintro e w1 ⟨rfl, rfl⟩
          go_wp2_with fail
          refine (mode_any mb g cap p _ m f r fresh hM (by omega)).mono ?_
          rintro e w1 ⟨rfl, q, rfl⟩
          go_wp2
          go_ret
          exact ⟨rfl, q, rfl⟩
      · have u2 : ((z : Int) == 2) = false := beq_eq_false_iff_ne.2 (by omega)
        have u1 : ((z : Int) == 1) = bb := by
          rw [hst, Bool.eq_iff_iff, beq_iff_eq]
          simp [h2]
          omega
        clear hst hbb hz h2
        go_enter Tryz.func94, Tryz.ntmps94
        go_wp2_with fail
        refine (ends_any _ _).mono ?_
        rw [heb]
        rintro e w1 ⟨rfl, rfl⟩
        go_wp2
        go_ret
        exact ⟨rfl, 0, rfl⟩
end

/-- A machine that began at a place, so many bytes on; the places are told from p on. -/
def fromK (s : ByteArray) (a p k : Nat) : Ms := runG Ms.start (fun i => by8 s (a + i)) p k
/-- That is where a word ends. -/
def IsEnd (s : ByteArray) (a p n : Nat) : Prop := a ≤ n ∧ n ≤ s.size ∧ (∀ i, a ≤ i → i < n → stops (fromK s a p (i - a)) (by8 s i) = false) ∧ (n < s.size → stops (fromK s a p (n - a)) (by8 s n) = true)
theorem fromK_succ (s : ByteArray) (a p k : Nat) : fromK s a p (k + 1) = feed (fromK s a p k) (by8 s (a + k)) (p + k) := rfl
theorem fromK_inv (s : ByteArray) (a p k : Nat) : Inv (fromK s a p k) := runG_inv Inv.start _ _ k
theorem fromK_len (s : ByteArray) (a p k : Nat) : (fromK s a p k).st.length ≤ k + 1 := by
  have := runG_len Ms.start (fun i => by8 s (a + i)) p k
  have e : Ms.start.st.length = 1 := rfl
  unfold fromK
  omega

set_option maxRecDepth 100000 in
set_option maxHeartbeats 4000000 in
theorem mend_any (w : World) (s : ByteArray) (a : Nat) (ha : a ≤ s.size) (hs : s.size ≤ 80000) :
    Calls Tryz.prog 71 #[.string s, .int .i64 (a : Int)] w fun e w' => (∃ n : Nat, e = .returned (.int .i64 (n : Int)) ∧ IsEnd s a 0 n) ∧ Below w.heap.size w w' := by
  have t1 : decide ((a : Int) < 0) = false := decide_eq_false_iff_not.2 (by omega)
  have t2 : decide ((s.size : Int) < (a : Int)) = false := decide_eq_false_iff_not.2 (by omega)
  have t3 : decide (s.size < a) = false := decide_eq_false_iff_not.2 (by omega)
  go_enter Tryz.func71, Tryz.ntmps71
  go_wp2_with fail
  refine (new_any w).mono ?_
  rintro e w1 ⟨rfl, hM1, hB1⟩
  clear t1 t2 t3
  go_wp2
  go_loopw [1, 4] (fun v1 v4 wr => ∃ k g cap, a + k ≤ s.size ∧ v1 = .int .i64 ((a + k : Nat) : Int) ∧ Mc wr (w.heap.size + 1) g cap (fromK s a 0 k) k ∧ w.heap.size ≤ g ∧ Below w.heap.size w wr ∧ Hid (∀ i, a ≤ i → i < a + k → stops (fromK s a 0 (i - a)) (by8 s i) = false)) (fun v _ _ => s.size - (intOf v).toNat)
  case atStart => exact ⟨0, _, _, by omega, rfl, hM1, Nat.le_refl _, hB1, Lib.hid fun i h1 h2 => by omega⟩
  case round =>
    obtain ⟨k, g, cap, hk, rfl, hM, hg, hB, HNO⟩ := hrel
    clear hM1 hB1
    have hI := fromK_inv s a 0 k
    have hlen := fromK_len s a 0 k
    have hne := hI.ne
    have hsucc := fromK_succ s a 0 k
    rw [Nat.zero_add] at hsucc
    obtain ⟨x, hx⟩ : ∃ x, fromK s a 0 k = x := ⟨_, rfl⟩
    rw [hx] at hM hI hlen hne hsucc
    have HX := Lib.hid hx
    clear hx
    obtain ⟨j, hj⟩ : ∃ j, a + k = j := ⟨_, rfl⟩
    have hkj : k ≤ j := by omega
    rw [hj] at hk hsucc ⊢
    by_cases hlt : j < s.size
    · have hlt2 : (j : Int) < s.size := by omega
      have hq0 : (0 : Int) ≤ (j : Int) := by omega
      have hby : (s[j].toNat : Int) = (by8 s j : Nat) := by unfold by8; rw [bt_eq hlt]
      have hb8 := by8_lt s j
      obtain ⟨b, hb⟩ : ∃ b, by8 s j = b := ⟨_, rfl⟩
      rw [hb] at hby hb8 hsucc
      have HB := Lib.hid hb
      have HS := Lib.hid hsucc
      have HI := Lib.hid hI
      have HJ := Lib.hid hj
      clear hb hsucc hI hj
      obtain ⟨bb, hbb⟩ : ∃ bb, stops x b = bb := ⟨_, rfl⟩
      have HBB := Lib.hid hbb
      clear hbb
      have hends := ends_m (w.heap.size + 1) g cap k wr b x hM hne (by omega) bb HBB
      cases bb with
      | true =>
        go_wp2_with fail
        refine hends.mono ?_
        rintro e w2 ⟨rfl, q, rfl⟩
        go_wp2
        go_ret
        refine ⟨⟨j, rfl, by have := HJ.out; omega, by omega, fun i h1 h2 => HNO.out i h1 (by have := HJ.out; omega), fun _ => ?_⟩, ⟨hB.os, hB.tape, hB.output, hB.size, hB.block⟩⟩
        rw [HB.out, show j - a = k by have := HJ.out; omega, HX.out]
        exact HBB.out
      | false =>
        go_wp2_with fail
        refine hends.mono ?_
        rintro e w2 ⟨rfl, q, rfl⟩
        go_wp2_with fail
        refine (feed_any (w.heap.size + 1) g cap k _ b x (hM.drn q) HI.out (by omega) hb8 (by omega) _ HS).mono ?_
        rintro e w3 ⟨⟨v, rfl⟩, hT⟩
        have hBq : Below w.heap.size w (wr.drewN q) := ⟨hB.os, hB.tape, hB.output, hB.size, hB.block⟩
        obtain ⟨g2, cap2, hM2, hg2, hB2⟩ := hT.below hBq hBq.size (by omega) hg
        go_wp2
        go_roundw
        case rel =>
          refine ⟨k + 1, g2, cap2, by have := HJ.out; omega, ?_, hM2, hg2, hB2, Lib.hid fun i h1 h2 => ?_⟩
          · have := HJ.out
            rw [show a + (k + 1) = j + 1 by omega]
            go_num
          · by_cases h3 : i = j
            · rw [h3, HB.out, show j - a = k by have := HJ.out; omega, HX.out]
              exact HBB.out
            · exact HNO.out i h1 (by have := HJ.out; omega)
        case measure => simp [intOf]; omega
    · obtain rfl : j = s.size := by omega
      have HJ := Lib.hid hj
      clear hsucc hj
      go_wp2
      go_ret
      exact ⟨⟨s.size, rfl, by have := HJ.out; omega, Nat.le_refl _, fun i h1 h2 => HNO.out i h1 (by have := HJ.out; omega), fun h => by omega⟩, hB⟩
theorem end_bad (w : World) (s : ByteArray) (a : Int) (ha : a < 0 ∨ (s.size : Int) < a) :
    Calls Tryz.prog 71 #[.string s, .int .i64 a] w fun e w' => e = .returned (.int .i64 (-1)) ∧ w' = w := by
  rcases Classical.em (a < 0) with h | h
  · have t1 : decide (a < 0) = true := decide_eq_true_iff.2 h
    clear ha
    go_enter Tryz.func71, Tryz.ntmps71
    go_wp2
    go_ret
    exact ⟨rfl, rfl⟩
  · have t1 : decide (a < 0) = false := decide_eq_false_iff_not.2 h
    have t2 : decide ((s.size : Int) < a) = true := decide_eq_true_iff.2 (by omega)
    clear ha
    go_enter Tryz.func71, Tryz.ntmps71
    go_wp2
    go_ret
    exact ⟨rfl, rfl⟩
end Go.Proofs.YtiklnlkakhghdaaGreatDoor

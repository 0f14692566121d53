/- What the document's own At returns: the longest operator at a place. Condition: texts of at most a million bytes; a place within, or the text's end. -/
import Derived.Test.YtlfmpjneopeadaaDoorOpC
namespace Go.Proofs.YtlfmpjneopeadaaDoor
open Go.RowKit
set_option linter.unusedVariables false

theorem reftext_eq (o : Nat) (t : ByteArray) (h : txt o = t) (w : World) :
    Calls Tryd.prog 11 #[.int .i64 o] w fun e w' => e = .returned (.string t) ∧ w' = w := by
  have := reftext_any o w
  rw [Int.toNat_natCast, h] at this
  exact this
/-- The longest so far. -/
def Best (s : ByteArray) (k o b : Nat) : Prop :=
  (b = 0 ∧ ∀ i ∈ ops, i < o → ¬ fits s k (txt i)) ∨ (b ∈ ops ∧ fits s k (txt b) ∧ ∀ i ∈ ops, i < o → fits s k (txt i) → (txt i).size ≤ (txt b).size)
theorem Best.keep {s : ByteArray} {k o b : Nat} (h : Best s k o b) (hn : fits s k (txt o) → (txt o).size ≤ (txt b).size) (ho : o ∈ ops) : Best s k (o + 1) b := by
  rcases h with ⟨h1, h2⟩ | ⟨h1, h2, h3⟩
  · refine .inl ⟨h1, fun i hi hlt hf => ?_⟩
    by_cases g : i = o
    · subst g
      have := hn hf
      rw [h1] at this
      have h0 : (txt 0).size = 0 := rfl
      have := txt_size_in ho
      omega
    · exact h2 i hi (by omega) hf
  · refine .inr ⟨h1, h2, fun i hi hlt hf => ?_⟩
    by_cases g : i = o
    · rw [g] at hf ⊢; exact hn hf
    · exact h3 i hi (by omega) hf
theorem Best.take {s : ByteArray} {k o b : Nat} (h : Best s k o b) (hf : fits s k (txt o)) (hlt : (txt b).size < (txt o).size) (ho : o ∈ ops) : Best s k (o + 1) o := by
  refine .inr ⟨ho, hf, fun i hi hi2 hfi => ?_⟩
  by_cases g : i = o
  · rw [g]; exact Nat.le_refl _
  · rcases h with ⟨h1, h2⟩ | ⟨h1, h2, h3⟩
    · exact absurd hfi (h2 i hi (by omega))
    · exact Nat.le_trans (h3 i hi (by omega) hfi) (Nat.le_of_lt hlt)
theorem Best.done {s : ByteArray} {k b : Nat} (h : Best s k 18 b) : opN s k = b := by
  refine opN_eq ?_
  rcases h with ⟨h1, h2⟩ | ⟨h1, h2, h3⟩
  · exact .inl ⟨h1, fun i hi => h2 i hi (by have := (mem_ops.1 hi).2; omega)⟩
  · exact .inr ⟨h1, h2, fun i hi => h3 i hi (by have := (mem_ops.1 hi).2; omega)⟩
theorem Best.le {s : ByteArray} {k o b : Nat} (h : Best s k o b) : b ≤ 17 := by
  rcases h with ⟨h1, _⟩ | ⟨h1, _⟩
  · omega
  · exact (mem_ops.1 h1).2

def RaRel (s : ByteArray) (k : Nat) (w : World) (v5 v6 : Value) (wr : World) : Prop :=
  ∃ b o : Nat, v5 = .int .i64 b ∧ v6 = .int .i64 o ∧ 1 ≤ o ∧ o ≤ 18 ∧ Best s k o b ∧ wr = w

set_option maxRecDepth 100000 in
set_option maxHeartbeats 2000000 in
theorem refat_any (s : ByteArray) (k : Nat) (w : World) (hs : s.size ≤ 1000000) (hk : k ≤ s.size) :
    Calls Tryd.prog 10 #[.string s, .int .i64 k] w fun e w' => e = .returned (.int .i64 (opN s k : Nat)) ∧ w' = w := by
  obtain ⟨r, hr⟩ : ∃ r, r = s.size - k := ⟨_, rfl⟩
  have e1 : IntKind.i64.wrap ((s.size : Int) - k) = (r : Int) := by rw [IntWalk.i64_in _ (by omega)]; omega
  have HR := Lib.hid hr
  clear hr
  go_enter Tryd.func10, Tryd.ntmps10
  go_wp2
  go_loopw [5, 6] (fun v5 v6 wr => RaRel s k w v5 v6 wr) (fun _ v6 _ => 18 - (intOf v6).toNat)
  case atStart => exact ⟨0, 1, rfl, rfl, by omega, by omega, .inl ⟨rfl, fun i hi h => absurd (mem_ops.1 hi).1 (by omega)⟩, rfl⟩
  case round =>
    obtain ⟨b, o, rfl, rfl, ho1, ho2, hb, rfl⟩ := hrel
    by_cases hlt : o = 18
    · subst hlt
      have hB := hb.done
      clear hb
      go_wp2
      go_ret
      exact ⟨ret_int (by rw [hB]), rfl⟩
    · have ho17 : (o : Int) ≤ 17 := by omega
      have ho17' : o ≤ 17 := by omega
      have hom : o ∈ ops := mem_ops.2 ⟨ho1, ho17'⟩
      have hb17 := hb.le
      obtain ⟨t, ht⟩ : ∃ t, txt o = t := ⟨_, rfl⟩
      obtain ⟨t2, ht2⟩ : ∃ t2, txt b = t2 := ⟨_, rfl⟩
      have hz := txt_le o
      have hz2 := txt_le b
      rw [ht] at hz
      rw [ht2] at hz2
      have HB := Lib.hid hb
      have HT := Lib.hid ht
      have HT2 := Lib.hid ht2
      have HOM := Lib.hid hom
      obtain ⟨q, hq⟩ : ∃ q, q = k + t.size := ⟨_, rfl⟩
      have e2 : IntKind.i64.wrap ((k : Int) + t.size) = (q : Int) := by rw [IntWalk.i64_in _ (by omega)]; omega
      have HQ := Lib.hid hq
      clear hb ht ht2 hom hlt hq
      by_cases c1 : t.size ≤ r
      · have d1 : decide ((t.size : Int) ≤ r) = true := decide_eq_true_iff.2 (by omega)
        have d1' : decide (t.size ≤ r) = true := decide_eq_true_iff.2 c1
        have i1 : (q : Int) ≤ s.size := by have := HR.out; have := HQ.out; omega
        have i2 : (k : Int) ≤ q := by have := HQ.out; omega
        have hfits : fits s k t ↔ s.extract k q = t := by
          rw [HQ.out]
          exact ⟨fun h => h.2, fun h => ⟨by have := HR.out; omega, h⟩⟩
        have HF := Lib.hid hfits
        clear hfits
        by_cases e : s.extract k q = t
        · have t1 : ((s.extract k q).toList == t.toList) = true := by rw [bs_eqb]; exact decide_eq_true_iff.2 e
          have hf : fits s k (txt o) := by rw [HT.out]; exact HF.out.2 e
          have HFF := Lib.hid hf
          clear e hf
          by_cases c2 : t2.size < t.size
          · have d2 : decide ((t2.size : Int) < t.size) = true := decide_eq_true_iff.2 (by omega)
            have d2' : decide (t2.size < t.size) = true := decide_eq_true_iff.2 c2
            have hnew := HB.out.take HFF.out (by rw [HT.out, HT2.out]; exact c2) HOM.out
            have HN := Lib.hid hnew
            clear hnew
            go_wp2_with fail
            refine (reftext_eq o t HT.out _).mono ?_
            rintro e w' ⟨rfl, rfl⟩
            go_wp2_with fail
            refine (reftext_eq b t2 HT2.out _).mono ?_
            rintro e w' ⟨rfl, rfl⟩
            go_wp2
            go_roundw
            case rel => exact ⟨o, o + 1, rfl, by go_num, by omega, by omega, HN.out, rfl⟩
            case measure => simp [intOf]; omega
          · have d2 : decide ((t2.size : Int) < t.size) = false := decide_eq_false_iff_not.2 (by omega)
            have d2' : decide (t2.size < t.size) = false := decide_eq_false_iff_not.2 c2
            have hnew := HB.out.keep (fun _ => by rw [HT.out, HT2.out]; omega) HOM.out
            have HN := Lib.hid hnew
            clear hnew
            go_wp2_with fail
            refine (reftext_eq o t HT.out _).mono ?_
            rintro e w' ⟨rfl, rfl⟩
            go_wp2_with fail
            refine (reftext_eq b t2 HT2.out _).mono ?_
            rintro e w' ⟨rfl, rfl⟩
            go_wp2
            go_roundw
            case rel => exact ⟨b, o + 1, rfl, by go_num, by omega, by omega, HN.out, rfl⟩
            case measure => simp [intOf]; omega
        · have t1 : ((s.extract k q).toList == t.toList) = false := by rw [bs_eqb]; exact decide_eq_false_iff_not.2 e
          have hnew := HB.out.keep (fun h => absurd (HF.out.1 (by rw [HT.out] at h; exact h)) e) HOM.out
          have HN := Lib.hid hnew
          clear hnew e
          go_wp2_with fail
          refine (reftext_eq o t HT.out _).mono ?_
          rintro e w' ⟨rfl, rfl⟩
          go_wp2
          go_roundw
          case rel => exact ⟨b, o + 1, rfl, by go_num, by omega, by omega, HN.out, rfl⟩
          case measure => simp [intOf]; omega
      · have d1 : decide ((t.size : Int) ≤ r) = false := decide_eq_false_iff_not.2 (by omega)
        have d1' : decide (t.size ≤ r) = false := decide_eq_false_iff_not.2 c1
        have hnew := HB.out.keep (fun h => by
          have := h.1
          rw [HT.out] at this
          have := HR.out
          omega) HOM.out
        have HN := Lib.hid hnew
        clear hnew
        go_wp2_with fail
        refine (reftext_eq o t HT.out _).mono ?_
        rintro e w' ⟨rfl, rfl⟩
        go_wp2
        go_roundw
        case rel => exact ⟨b, o + 1, rfl, by go_num, by omega, by omega, HN.out, rfl⟩
        case measure => simp [intOf]; omega
end Go.Proofs.YtlfmpjneopeadaaDoor

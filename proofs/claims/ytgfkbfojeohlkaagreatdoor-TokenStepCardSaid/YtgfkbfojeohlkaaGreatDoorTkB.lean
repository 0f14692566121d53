/- What the document's own Text and At of layer 5 return, in a seat of token's. Condition: texts of at most a million bytes; a place within, or the text's end. -/
import Derived.Test.YtgfkbfojeohlkaaGreatDoorTkA
namespace Go.Proofs.YtgfkbfojeohlkaaGreatDoor
open Go.RowKit
set_option linter.unusedVariables false

def allT : ByteArray := ⟨#[38, 38, 32, 124, 124, 32, 59, 59, 32, 60, 60, 32, 60, 60, 45, 62, 62, 32, 60, 38, 32, 62, 38, 32, 60, 62, 32, 62, 124, 32, 60, 32, 32, 62, 32, 32, 38, 32, 32, 59, 32, 32, 124, 32, 32, 40, 32, 32, 41, 32, 32]⟩
def allB3 (k m : Nat) : Bool := (List.range 3).all fun i => decide (m ≤ i → (bt allT (3 * k + i)).toNat = 32)
theorem allT_txt {k m : Nat} (hk : k < 17) (hm : m ≤ 3) (h : allB3 k m = true) (h0 : m = 0 ∨ (bt allT (3 * k + (m - 1))).toNat ≠ 32) : allT.extract (3 * k) (3 * k + m) = txt (k + 1) := by
  have : ∀ k, k < 17 → ∀ m, m < 4 → allB3 k m = true → (m = 0 ∨ (bt allT (3 * k + (m - 1))).toNat ≠ 32) → allT.extract (3 * k) (3 * k + m) = txt (k + 1) := by decide +kernel
  exact this k hk m (by omega) h h0
theorem allB3_step {k m : Nat} (h : allB3 k (m + 1) = true) (e : (bt allT (3 * k + m)).toNat = 32) : allB3 k m = true := by
  unfold allB3 at h ⊢
  rw [List.all_eq_true] at h ⊢
  intro i hi
  have := h i hi
  rw [decide_eq_true_iff] at this ⊢
  intro hm
  by_cases g : i = m
  · rw [g]; exact e
  · exact this (by omega)
theorem ret_str {a b : ByteArray} (h : a = b) : Ending.returned (.string a) = .returned (.string b) := by rw [h]
def strLen (v : Value) : Nat := match v with
  | .string s => s.size
  | _ => 0
theorem byT_yes {s : ByteArray} {k : Nat} {c : Nat} (h : k < s.size) (e : (bt s k).toNat = c) : ((s[k].toNat : Int) == (c : Int)) = true := by
  rw [bt_eq h] at e; rw [e]; simp
theorem byT_no {s : ByteArray} {k : Nat} {c : Nat} (h : k < s.size) (e : (bt s k).toNat ≠ c) : ((s[k].toNat : Int) == (c : Int)) = false := by
  rw [bt_eq h] at e
  rw [beq_eq_false_iff_ne]
  intro g
  exact e (by omega)
set_option maxHeartbeats 1000000 in
theorem reftext_in (k o : Nat) (hk : k < 17) (ho : Hid (o = k + 1)) (w : World) :
    Calls Tryz.prog 54 #[.int .i64 o] w fun e w' => e = .returned (.string (txt o)) ∧ w' = w := by
  have h1 : decide ((o : Int) < 1) = false := decide_eq_false_iff_not.2 (by have := ho.out; omega)
  have h2 : decide (17 < (o : Int)) = false := decide_eq_false_iff_not.2 (by have := ho.out; omega)
  have h1' : decide (o < 1) = false := decide_eq_false_iff_not.2 (by have := ho.out; omega)
  have h2' : decide (17 < o) = false := decide_eq_false_iff_not.2 (by have := ho.out; omega)
  have e1 : IntKind.i64.wrap ((o : Int) - 1) = (k : Int) := by have := ho.out; rw [IntWalk.i64_in _ (by omega)]; omega
  have e2 : IntKind.i64.wrap (3 * (k : Int)) = ((3 * k : Nat) : Int) := by rw [IntWalk.i64_in _ (by omega)]; omega
  obtain ⟨z, hz⟩ : ∃ z, z = 3 * k + 3 := ⟨_, rfl⟩
  have hz2 : z ≤ 51 := by omega
  have hz3 : 3 * k ≤ z := by omega
  have e3 : IntKind.i64.wrap (3 * (o : Int)) = (z : Int) := by have := ho.out; rw [IntWalk.i64_in _ (by omega)]; omega
  have HZ := Lib.hid hz
  clear hz
  go_enter Tryz.func54, Tryz.ntmps54
  go_wp2
  go_loopw [3] (fun v wr => ∃ m x, m ≤ 3 ∧ v = .string x ∧ x = allT.extract (3 * k) (3 * k + m) ∧ allB3 k m = true ∧ wr = w) (fun v _ => strLen v)
  case atStart =>
    refine ⟨3, _, Nat.le_refl _, rfl, by rw [← HZ.out]; rfl, ?_, rfl⟩
    unfold allB3
    rw [List.all_eq_true]
    intro i hi
    rw [decide_eq_true_iff]
    intro hm
    simp at hi
    omega
  case round =>
    obtain ⟨m, x, hm, rfl, hx, hall, rfl⟩ := hrel
    have hA : allT.size = 51 := rfl
    have hsz : x.size = m := by rw [hx, ByteArray.size_extract, hA]; omega
    have HX := Lib.hid hx
    have HALL := Lib.hid hall
    clear hx hall hA
    rcases Nat.eq_zero_or_pos m with rfl | hpos
    · go_wp2
      go_ret
      exact ⟨ret_str (HX.out.trans ((allT_txt hk (Nat.zero_le _) HALL.out (.inl rfl)).trans (congrArg txt ho.out.symm))), rfl⟩
    · obtain ⟨j, rfl⟩ : ∃ j, m = j + 1 := ⟨m - 1, by omega⟩
      have hj : j < x.size := by omega
      have hj2 : (j : Int) < x.size := by omega
      have hp : decide ((0 : Int) < x.size) = true := decide_eq_true_iff.2 (by omega)
      have hp2 : decide (0 < x.size) = true := decide_eq_true_iff.2 (by omega)
      have hj3 : (j : Int) ≤ x.size := by omega
      have hA : allT.size = 51 := rfl
      have eb : bt x j = bt allT (3 * k + j) := by rw [HX.out]; exact bt_extract _ _ _ _ (by rw [hA]; omega) (by omega)
      have e4 : IntKind.i64.wrap ((x.size : Int) - 1) = (j : Int) := by rw [IntWalk.i64_in _ (by omega)]; omega
      have EB := Lib.hid eb
      have HS := Lib.hid hsz
      clear hsz eb hA
      by_cases e : (bt x j).toNat = 32
      · have t1 := byT_yes hj e
        have HE := Lib.hid e
        clear e
        go_wp2
        go_roundw
        case rel =>
          refine ⟨j, _, by omega, rfl, ?_, allB3_step HALL.out (by rw [← EB.out]; exact HE.out), by first | rfl | trivial⟩
          rw [HX.out, ByteArray.extract_extract]
          congr 1
          omega
        case measure => simp [strLen]; have := HS.out; omega
      · have t1 := byT_no hj e
        have HE := Lib.hid e
        clear e
        go_wp2
        go_ret
        exact ⟨ret_str (HX.out.trans ((allT_txt hk hm HALL.out (.inr (by rw [Nat.add_sub_cancel, ← EB.out]; exact HE.out))).trans (congrArg txt ho.out.symm))), rfl⟩
theorem reftext_any (op : Int) (w : World) :
    Calls Tryz.prog 54 #[.int .i64 op] w fun e w' => e = .returned (.string (txt op.toNat)) ∧ w' = w := by
  by_cases h : 1 ≤ op ∧ op ≤ 17
  · obtain ⟨o, rfl⟩ := Int.eq_ofNat_of_zero_le (a := op) (by omega)
    rw [Int.toNat_natCast]
    exact reftext_in (o - 1) o (by omega) (Lib.hid (by omega)) w
  · have ht : txt op.toNat = ⟨#[]⟩ := txt_out (by omega)
    rw [ht]
    clear ht
    by_cases g : op < 1
    · have hd : decide (op < 1) = true := by simpa using g
      clear h
      go_enter Tryz.func54, Tryz.ntmps54
      go_wp2
      go_ret
      exact ⟨rfl, rfl⟩
    · have h2 : 17 < op := by omega
      have hd : decide (op < 1) = false := by simpa using g
      have hd2 : decide (17 < op) = true := by simpa using h2
      clear h
      go_enter Tryz.func54, Tryz.ntmps54
      go_wp2
      go_ret
      exact ⟨rfl, rfl⟩
theorem reftext_eq (o : Nat) (t : ByteArray) (h : txt o = t) (w : World) :
    Calls Tryz.prog 54 #[.int .i64 o] w fun e w' => e = .returned (.string t) ∧ w' = w := by
  have := reftext_any o w
  rw [Int.toNat_natCast, h] at this
  exact this
def Best (s : ByteArray) (k o b : Nat) : Prop :=
  (b = 0 ∧ ∀ i ∈ ops, i < o → ¬ fits s k (txt i)) ∨ (b ∈ ops ∧ fits s k (txt b) ∧ ∀ i ∈ ops, i < o → fits s k (txt i) → (txt i).size ≤ (txt b).size)
theorem Best.keep {s : ByteArray} {k o b : Nat} (h : Best s k o b) (hn : fits s k (txt o) → (txt o).size ≤ (txt b).size) (ho : o ∈ ops) : Best s k (o + 1) b := by
  rcases h with ⟨h1, h2⟩ | ⟨h1, h2, h3⟩
  · refine .inl ⟨h1, fun i hi hlt hf => ?_⟩
    by_cases g : i = o
    · subst g
      have := hn hf
      rw [h1] at this
      have h0 : (txt 0).size = 0 := rfl
      have := txt_size_in ho
      omega
    · exact h2 i hi (by omega) hf
  · refine .inr ⟨h1, h2, fun i hi hlt hf => ?_⟩
    by_cases g : i = o
    · rw [g] at hf ⊢; exact hn hf
    · exact h3 i hi (by omega) hf
theorem Best.take {s : ByteArray} {k o b : Nat} (h : Best s k o b) (hf : fits s k (txt o)) (hlt : (txt b).size < (txt o).size) (ho : o ∈ ops) : Best s k (o + 1) o := by
  refine .inr ⟨ho, hf, fun i hi hi2 hfi => ?_⟩
  by_cases g : i = o
  · rw [g]; exact Nat.le_refl _
  · rcases h with ⟨h1, h2⟩ | ⟨h1, h2, h3⟩
    · exact absurd hfi (h2 i hi (by omega))
    · exact Nat.le_trans (h3 i hi (by omega) hfi) (Nat.le_of_lt hlt)
theorem Best.done {s : ByteArray} {k b : Nat} (h : Best s k 18 b) : opN s k = b := by
  refine opN_eq ?_
  rcases h with ⟨h1, h2⟩ | ⟨h1, h2, h3⟩
  · exact .inl ⟨h1, fun i hi => h2 i hi (by have := (mem_ops.1 hi).2; omega)⟩
  · exact .inr ⟨h1, h2, fun i hi => h3 i hi (by have := (mem_ops.1 hi).2; omega)⟩
theorem Best.le {s : ByteArray} {k o b : Nat} (h : Best s k o b) : b ≤ 17 := by
  rcases h with ⟨h1, _⟩ | ⟨h1, _⟩
  · omega
  · exact (mem_ops.1 h1).2

def RaRel (s : ByteArray) (k : Nat) (w : World) (v5 v6 : Value) (wr : World) : Prop :=
  ∃ b o : Nat, v5 = .int .i64 b ∧ v6 = .int .i64 o ∧ 1 ≤ o ∧ o ≤ 18 ∧ Best s k o b ∧ wr = w

set_option maxRecDepth 100000 in
set_option maxHeartbeats 2000000 in
theorem refat_any (s : ByteArray) (k : Nat) (w : World) (hs : s.size ≤ 1000000) (hk : k ≤ s.size) :
    Calls Tryz.prog 53 #[.string s, .int .i64 k] w fun e w' => e = .returned (.int .i64 (opN s k : Nat)) ∧ w' = w := by
  obtain ⟨r, hr⟩ : ∃ r, r = s.size - k := ⟨_, rfl⟩
  have e1 : IntKind.i64.wrap ((s.size : Int) - k) = (r : Int) := by rw [IntWalk.i64_in _ (by omega)]; omega
  have HR := Lib.hid hr
  clear hr
  go_enter Tryz.func53, Tryz.ntmps53
  go_wp2
  go_loopw [5, 6] (fun v5 v6 wr => RaRel s k w v5 v6 wr) (fun _ v6 _ => 18 - (intOf v6).toNat)
  case atStart => exact ⟨0, 1, rfl, rfl, by omega, by omega, .inl ⟨rfl, fun i hi h => absurd (mem_ops.1 hi).1 (by omega)⟩, rfl⟩
  case round =>
    obtain ⟨b, o, rfl, rfl, ho1, ho2, hb, rfl⟩ := hrel
    by_cases hlt : o = 18
    · subst hlt
      have hB := hb.done
      clear hb
      go_wp2
      go_ret
      exact ⟨ret_int (by rw [hB]), rfl⟩
    · have ho17 : (o : Int) ≤ 17 := by omega
      have ho17' : o ≤ 17 := by omega
      have hom : o ∈ ops := mem_ops.2 ⟨ho1, ho17'⟩
      have hb17 := hb.le
      obtain ⟨t, ht⟩ : ∃ t, txt o = t := ⟨_, rfl⟩
      obtain ⟨t2, ht2⟩ : ∃ t2, txt b = t2 := ⟨_, rfl⟩
      have hz := txt_le o
      have hz2 := txt_le b
      rw [ht] at hz
      rw [ht2] at hz2
      have HB := Lib.hid hb
      have HT := Lib.hid ht
      have HT2 := Lib.hid ht2
      have HOM := Lib.hid hom
      obtain ⟨q, hq⟩ : ∃ q, q = k + t.size := ⟨_, rfl⟩
      have e2 : IntKind.i64.wrap ((k : Int) + t.size) = (q : Int) := by rw [IntWalk.i64_in _ (by omega)]; omega
      have HQ := Lib.hid hq
      clear hb ht ht2 hom hlt hq
      by_cases c1 : t.size ≤ r
      · have d1 : decide ((t.size : Int) ≤ r) = true := decide_eq_true_iff.2 (by omega)
        have d1' : decide (t.size ≤ r) = true := decide_eq_true_iff.2 c1
        have i1 : (q : Int) ≤ s.size := by have := HR.out; have := HQ.out; omega
        have i2 : (k : Int) ≤ q := by have := HQ.out; omega
        have hfits : fits s k t ↔ s.extract k q = t := by
          rw [HQ.out]
          exact ⟨fun h => h.2, fun h => ⟨by have := HR.out; omega, h⟩⟩
        have HF := Lib.hid hfits
        clear hfits
        by_cases e : s.extract k q = t
        · have t1 : ((s.extract k q).toList == t.toList) = true := by rw [bs_eqb]; exact decide_eq_true_iff.2 e
          have hf : fits s k (txt o) := by rw [HT.out]; exact HF.out.2 e
          have HFF := Lib.hid hf
          clear e hf
          by_cases c2 : t2.size < t.size
          · have d2 : decide ((t2.size : Int) < t.size) = true := decide_eq_true_iff.2 (by omega)
            have d2' : decide (t2.size < t.size) = true := decide_eq_true_iff.2 c2
            have hnew := HB.out.take HFF.out (by rw [HT.out, HT2.out]; exact c2) HOM.out
            have HN := Lib.hid hnew
            clear hnew
            go_wp2_with fail
            refine (reftext_eq o t HT.out _).mono ?_
            rintro e w' ⟨rfl, rfl⟩
            go_wp2_with fail
            refine (reftext_eq b t2 HT2.out _).mono ?_
            rintro e w' ⟨rfl, rfl⟩
            go_wp2
            go_roundw
            case rel => exact ⟨o, o + 1, rfl, by go_num, by omega, by omega, HN.out, rfl⟩
            case measure => simp [intOf]; omega
          · have d2 : decide ((t2.size : Int) < t.size) = false := decide_eq_false_iff_not.2 (by omega)
            have d2' : decide (t2.size < t.size) = false := decide_eq_false_iff_not.2 c2
            have hnew := HB.out.keep (fun _ => by rw [HT.out, HT2.out]; omega) HOM.out
            have HN := Lib.hid hnew
            clear hnew
            go_wp2_with fail
            refine (reftext_eq o t HT.out _).mono ?_
            rintro e w' ⟨rfl, rfl⟩
            go_wp2_with fail
            refine (reftext_eq b t2 HT2.out _).mono ?_
            rintro e w' ⟨rfl, rfl⟩
            go_wp2
            go_roundw
            case rel => exact ⟨b, o + 1, rfl, by go_num, by omega, by omega, HN.out, rfl⟩
            case measure => simp [intOf]; omega
        · have t1 : ((s.extract k q).toList == t.toList) = false := by rw [bs_eqb]; exact decide_eq_false_iff_not.2 e
          have hnew := HB.out.keep (fun h => absurd (HF.out.1 (by rw [HT.out] at h; exact h)) e) HOM.out
          have HN := Lib.hid hnew
          clear hnew e
          go_wp2_with fail
          refine (reftext_eq o t HT.out _).mono ?_
          rintro e w' ⟨rfl, rfl⟩
          go_wp2
          go_roundw
          case rel => exact ⟨b, o + 1, rfl, by go_num, by omega, by omega, HN.out, rfl⟩
          case measure => simp [intOf]; omega
      · have d1 : decide ((t.size : Int) ≤ r) = false := decide_eq_false_iff_not.2 (by omega)
        have d1' : decide (t.size ≤ r) = false := decide_eq_false_iff_not.2 c1
        have hnew := HB.out.keep (fun h => by
          have := h.1
          rw [HT.out] at this
          have := HR.out
          omega) HOM.out
        have HN := Lib.hid hnew
        clear hnew
        go_wp2_with fail
        refine (reftext_eq o t HT.out _).mono ?_
        rintro e w' ⟨rfl, rfl⟩
        go_wp2
        go_roundw
        case rel => exact ⟨b, o + 1, rfl, by go_num, by omega, by omega, HN.out, rfl⟩
        case measure => simp [intOf]; omega
end Go.Proofs.YtgfkbfojeohlkaaGreatDoor

/- What Assign of layer 4 (class) and the document's own Assign return. Condition: texts of at most a million bytes. -/
import Derived.Test.YtnpkmbppfeahkaaClE
import Derived.Test.YtnpkmbppfeahkaaShelf
import Derived.Deep.QuietTactic
import Derived.BigQuiet
import Derived.Deep.RegionWith
namespace Go.Proofs.Ytnpkmbppfeahkaa
open Go.RowKit
set_option linter.unusedVariables false

set_option maxHeartbeats 400000 in
theorem clone_any (s : ByteArray) (w : World) (hlim : s.size ≤ 281474976710656) :
    Calls Try.prog 38 #[.string s] w fun e w' => e = .returned (.string s) ∧ Below w.heap.size w w' := by
  go_enter Try.func38, Try.ntmps38
  go_wp2_with (go_at_call 43; refine (Try.stringslite_Clone s _ hlim).mono ?_; rintro e w1 ⟨rfl, hb⟩)
  go_ret
  exact ⟨rfl, hb⟩

set_option maxHeartbeats 400000 in
theorem shp_any (s t : ByteArray) (w : World) (hs : s.size ≤ 281474976710656) (ht : t.size ≤ 281474976710656) :
    Calls Try.prog 42 #[.string s, .string t] w fun e w' => e = .returned (.bool (hpB s t)) ∧ w' = w := by
  by_cases h : t.size ≤ s.size
  · have hd : decide (t.size ≤ s.size) = true := by simpa using h
    have hi : (t.size : Int) ≤ s.size := by omega
    go_enter Try.func42, Try.ntmps42
    go_wp2
    go_ret
    refine ⟨?_, rfl⟩
    show Ending.returned (Value.bool ((s.extract 0 t.size).toList == t.toList)) = _
    rw [bs_eqb]
    unfold hpB
    simp [h]
  · have hd : decide (t.size ≤ s.size) = false := by simpa using h
    have hi : ¬ (t.size : Int) ≤ s.size := by omega
    go_enter Try.func42, Try.ntmps42
    go_wp2
    go_ret
    refine ⟨?_, rfl⟩
    show Ending.returned (Value.bool false) = _
    unfold hpB
    simp [h]
theorem hp_any (s t : ByteArray) (w : World) (hs : s.size ≤ 281474976710656) (ht : t.size ≤ 281474976710656) :
    Calls Try.prog 37 #[.string s, .string t] w fun e w' => e = .returned (.bool (hpB s t)) ∧ w' = w := by
  go_enter Try.func37, Try.ntmps37
  go_wp2_with (go_at_call 42; refine (shp_any _ _ _ hs ht).mono ?_; rintro e w1 ⟨rfl, rfl⟩)
  go_ret
  exact ⟨rfl, rfl⟩
theorem hp_61 (s : ByteArray) (n : Nat) (hn : n ≤ s.size) : hpB (s.extract n s.size) ⟨#[61]⟩ = decide (n < s.size ∧ (bt s n).toNat = 61) := by
  rw [fits_hp s _ n hn]
  congr 1
  apply propext
  have e1 : (ByteArray.mk #[61]).size = 1 := rfl
  unfold fits
  rw [e1]
  constructor
  · rintro ⟨h1, h2⟩
    refine ⟨by omega, ?_⟩
    have h3 := bt_extract s n (n + 1) 0 (by omega) (by omega)
    rw [h2] at h3
    rw [show n + 0 = n from rfl] at h3
    rw [← h3]; rfl
  · rintro ⟨h1, h2⟩
    refine ⟨by omega, ?_⟩
    apply ByteArray.ext
    apply Array.ext
    · simp; omega
    · intro i hi1 hi2
      obtain rfl : i = 0 := by simp at hi2; omega
      simp only [ByteArray.data_extract, Array.getElem_extract, bt_getElem]
      apply UInt8.toNat_inj.1
      simpa using h2

/-- What Assign answers. -/
def assignV (s : ByteArray) : Value :=
  if assignN s = 0 then .tuple #[.string ⟨#[]⟩, .string ⟨#[]⟩, .bool false] else .tuple #[.string (s.extract 0 (assignN s)), .string (s.extract (assignN s + 1) s.size), .bool true]

theorem name0 (s : ByteArray) (w : World) (hs : s.size ≤ 1000000) : Calls Try.prog 16 #[.string s, .int .i64 0] w fun e w' => e = .returned (.int .i64 (nameN s 0 : Nat)) ∧ w' = w := by
  have := name_any s 0 w hs
  have e : atV s 0 (nameN s) = (nameN s 0 : Nat) := by
    unfold atV
    split
    · rfl
    · have := nameN_le s 0
      omega
  rwa [e] at this

theorem below_two {w w2 w3 : World} (h : Below w.drew.heap.size w.drew w2) (k : Below w2.heap.size w2 w3) : Below w.heap.size w w3 :=
  Below.trans (⟨h.os, h.tape, h.output, h.size, h.block⟩ : Below w.heap.size w w2) (k.mono h.size)
set_option maxHeartbeats 2000000 in
theorem assign_any (s : ByteArray) (w : World) (hs : s.size ≤ 1000000) :
    Calls Try.prog 24 #[.string s] w fun e w' => e = .returned (assignV s) ∧ Below w.heap.size w w' := by
  have hn := fun w => name0 s w hs
  obtain ⟨m, hm⟩ : ∃ m, nameN s 0 = m := ⟨_, rfl⟩
  have hml : m ≤ s.size := by have := nameN_le s 0; omega
  have hml2 : (m : Int) ≤ s.size := by omega
  have hhp := hp_61 s m hml
  rw [hm] at hn
  have hN : assignN s = if m ≠ 0 ∧ m < s.size ∧ (bt s m).toNat = 61 then m else 0 := by unfold assignN; rw [hm]
  have HN := Lib.hid hn
  have HM := Lib.hid hm
  have HP := Lib.hid hhp
  have HA := Lib.hid hN
  clear hn hm hhp hN
  have hz : (s.extract m s.size).size ≤ 281474976710656 := by simp; omega
  obtain ⟨V, hV⟩ : ∃ V, assignV s = V := ⟨_, rfl⟩
  rw [hV]
  have HV := Lib.hid hV
  clear hV
  by_cases h0 : m = 0
  · subst h0
    go_enter Try.func24, Try.ntmps24
    go_wp2_with fail
    refine (HN.out _).mono ?_
    rintro e w1 ⟨rfl, rfl⟩
    go_wp2
    go_ret3
    refine ⟨?_, Below.refl _ _⟩
    have ha : assignN s = 0 := by rw [HA.out, if_neg (fun g => g.1 rfl)]
    rw [← HV.out]
    unfold assignV
    rw [ha, if_pos rfl]
    rfl
  · have g0 : ((m : Int) == 0) = false := beq_eq_false_iff_ne.2 (by omega)
    by_cases hx : m < s.size ∧ (bt s m).toNat = 61
    · have ht : hpB (s.extract m s.size) ⟨#[61]⟩ = true := by rw [HP.out]; simpa using hx
      have hx1 : (m : Int) + 1 ≤ s.size := by omega
      have z1 : (s.extract 0 m).size ≤ 281474976710656 := by simp; omega
      have z2 : (s.extract (m + 1) s.size).size ≤ 281474976710656 := by simp; omega
      have hw1 : IntKind.i64.wrap ((m : Int) + 1) = (m : Int) + 1 := IntWalk.i64_in _ (by omega)
      have ea : V = .tuple #[.string (s.extract 0 m), .string (s.extract (m + 1) s.size), .bool true] := by
        have ha : assignN s = m := by rw [HA.out, if_pos ⟨h0, hx⟩]
        rw [← HV.out]
        unfold assignV
        rw [ha, if_neg h0]
      subst ea
      have ET := Lib.hid ht
      clear h0 hx ht HV HA HP
      go_enter Try.func24, Try.ntmps24
      go_wp2_with fail
      refine (HN.out _).mono ?_
      rintro e w1 ⟨rfl, rfl⟩
      go_wp2_with fail
      refine (hp_any _ _ _ hz (by decide)).mono ?_
      rintro e w1 ⟨rfl, rfl⟩
      rw [ET.out]
      go_wp2
      go_region_with ((go_at_call 38; refine (clone_any _ _ (by first | exact z1 | exact z2)).mono ?_; rintro e w2 ⟨rfl, hb⟩))
      all_goals
        go_wp2
        go_ret3
        refine ⟨rfl, below_two ?_ hb⟩
        assumption
    · have ht : hpB (s.extract m s.size) ⟨#[61]⟩ = false := by rw [HP.out]; simpa using hx
      have ET := Lib.hid ht
      clear ht
      go_enter Try.func24, Try.ntmps24
      go_wp2_with fail
      refine (HN.out _).mono ?_
      rintro e w1 ⟨rfl, rfl⟩
      go_wp2_with fail
      refine (hp_any _ _ _ hz (by decide)).mono ?_
      rintro e w1 ⟨rfl, rfl⟩
      rw [ET.out]
      go_wp2
      go_ret3
      refine ⟨?_, Below.refl _ _⟩
      have ha : assignN s = 0 := by rw [HA.out, if_neg (fun g => hx g.2)]
      rw [← HV.out]
      unfold assignV
      rw [ha, if_pos rfl]
      rfl

def RaRel (s : ByteArray) (w : World) (v : Value) (wr : World) : Prop := ∃ k : Nat, 1 ≤ k ∧ (k ≤ s.size ∨ k = 1) ∧ v = .int .i64 k ∧ (∀ i, 0 < i → i < k → i < s.size → (bt s i).toNat = 61 → isNm (s.extract 0 i) = false) ∧ wr = w
set_option maxHeartbeats 1000000 in
theorem refassign_any (s : ByteArray) (w : World) (hs : s.size ≤ 1000000) :
    Calls Try.prog 23 #[.string s] w fun e w' => e = .returned (.int .i64 (assignN s : Nat)) ∧ w' = w := by
  go_enter Try.func23, Try.ntmps23
  go_wp2
  go_loopw [3] (fun v wr => RaRel s w v wr) (fun v _ => s.size + 1 - (intOf v).toNat)
  case atStart => exact ⟨1, Nat.le_refl _, .inr rfl, rfl, fun i h1 h2 => by omega, rfl⟩
  case round =>
    obtain ⟨k, hk1, hk, rfl, hn, rfl⟩ := hrel
    have hk3 : k ≤ 1000001 := by omega
    have HN := Lib.hid hn
    have HK := Lib.hid hk
    clear hn hk
    by_cases hlt : (k : Int) < s.size
    · have hlt' : k < s.size := by omega
      have hle : (k : Int) ≤ s.size := by omega
      have hz : (s.extract 0 k).size ≤ 1000000 := by simp; omega
      by_cases e : (bt s k).toNat = 61
      · have t1 : ((s[k].toNat : Int) == 61) = true := by_yes hlt' e
        have HE := Lib.hid e
        clear e
        obtain ⟨b, hb⟩ : ∃ b, isNm (s.extract 0 k) = b := ⟨_, rfl⟩
        have HB := Lib.hid hb
        clear hb
        cases b
        · go_wp2_with fail
          refine (refisname_eq _ _ hz _ HB.out).mono ?_
          rintro e w2 ⟨rfl, rfl⟩
          go_wp2
          go_roundw
          case rel =>
            refine ⟨k + 1, by omega, .inl (by omega), by go_num, fun i h1 h2 h3 h4 => ?_, rfl⟩
            by_cases g : i = k
            · rw [g]; exact HB.out
            · exact HN.out i h1 (by omega) h3 h4
          case measure => simp [intOf]; omega
        · go_wp2_with fail
          refine (refisname_eq _ _ hz _ HB.out).mono ?_
          rintro e w2 ⟨rfl, rfl⟩
          go_wp2
          go_ret
          exact ⟨ret_int (by rw [assign_at hk1 hlt' HE.out HB.out]), rfl⟩
      · have t1 : ((s[k].toNat : Int) == 61) = false := by_no hlt' e
        have HE := Lib.hid e
        clear e
        go_wp2
        go_roundw
        case rel =>
          refine ⟨k + 1, by omega, .inl (by omega), by go_num, fun i h1 h2 h3 h4 => ?_, rfl⟩
          by_cases g : i = k
          · rw [g] at h4; exact absurd h4 HE.out
          · exact HN.out i h1 (by omega) h3 h4
        case measure => simp [intOf]; omega
    · go_wp2
      go_ret
      exact ⟨ret_int (by rw [assign_none (fun i h1 h2 h3 => HN.out i h1 (by omega) h2 h3)]; rfl), rfl⟩
end Go.Proofs.Ytnpkmbppfeahkaa

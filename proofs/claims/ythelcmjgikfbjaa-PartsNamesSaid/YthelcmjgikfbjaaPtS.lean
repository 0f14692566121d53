/- What braced, named and Names of layer 7 (parts), and the document's own Name, return: the names of a text's parameters. Condition: texts of at most 60,000 bytes. -/
import Derived.Test.YthelcmjgikfbjaaPtLa
import Derived.Test.YthelcmjgikfbjaaShelf
import Derived.Deep.RegionWith
namespace Go.Proofs.Ythelcmjgikfbjaa
open Go.RowKit
set_option linter.unusedVariables false

set_option maxHeartbeats 400000 in
theorem clone_any (s : ByteArray) (w : World) (hlim : s.size ≤ 281474976710656) :
    Calls Try.prog 41 #[.string s] w fun e w' => e = .returned (.string s) ∧ Below w.heap.size w w' := by
  go_enter Try.func41, Try.ntmps41
  go_wp2_with (go_at_call 63; refine (Try.stringslite_Clone s _ hlim).mono ?_; rintro e w1 ⟨rfl, hb⟩)
  go_ret
  exact ⟨rfl, hb⟩

set_option maxHeartbeats 400000 in
theorem shp_any (s t : ByteArray) (w : World) (hs : s.size ≤ 281474976710656) (ht : t.size ≤ 281474976710656) :
    Calls Try.prog 85 #[.string s, .string t] w fun e w' => e = .returned (.bool (hpB s t)) ∧ w' = w := by
  by_cases h : t.size ≤ s.size
  · have hd : decide (t.size ≤ s.size) = true := by simpa using h
    have hi : (t.size : Int) ≤ s.size := by omega
    go_enter Try.func85, Try.ntmps85
    go_wp2
    go_ret
    refine ⟨?_, rfl⟩
    show Ending.returned (Value.bool ((s.extract 0 t.size).toList == t.toList)) = _
    rw [bs_eqb]
    unfold hpB
    simp [h]
  · have hd : decide (t.size ≤ s.size) = false := by simpa using h
    have hi : ¬ (t.size : Int) ≤ s.size := by omega
    go_enter Try.func85, Try.ntmps85
    go_wp2
    go_ret
    refine ⟨?_, rfl⟩
    show Ending.returned (Value.bool false) = _
    unfold hpB
    simp [h]
theorem hp_any (s t : ByteArray) (w : World) (hs : s.size ≤ 281474976710656) (ht : t.size ≤ 281474976710656) :
    Calls Try.prog 76 #[.string s, .string t] w fun e w' => e = .returned (.bool (hpB s t)) ∧ w' = w := by
  go_enter Try.func76, Try.ntmps76
  go_wp2_with (go_at_call 85; refine (shp_any _ _ _ hs ht).mono ?_; rintro e w1 ⟨rfl, rfl⟩)
  go_ret
  exact ⟨rfl, rfl⟩
theorem hp_35 (s : ByteArray) (n : Nat) (hn : n ≤ s.size) : hpB (s.extract n s.size) ⟨#[35]⟩ = decide (n < s.size ∧ (bt s n).toNat = 35) := by
  rw [fits_hp s _ n hn]
  congr 1
  apply propext
  have e1 : (ByteArray.mk #[35]).size = 1 := rfl
  unfold fits
  rw [e1]
  constructor
  · rintro ⟨h1, h2⟩
    refine ⟨by omega, ?_⟩
    have h3 := bt_extract s n (n + 1) 0 (by omega) (by omega)
    rw [h2] at h3
    rw [show n + 0 = n from rfl] at h3
    rw [← h3]; rfl
  · rintro ⟨h1, h2⟩
    refine ⟨by omega, ?_⟩
    apply ByteArray.ext
    apply Array.ext
    · simp; omega
    · intro i hi1 hi2
      obtain rfl : i = 0 := by simp at hi2; omega
      simp only [ByteArray.data_extract, Array.getElem_extract, bt_getElem]
      apply UInt8.toNat_inj.1
      simpa using h2


theorem le_yes {x : ByteArray} (h : x.size = 0) : x.toList = [] := by
  rw [Go.ByteArray.toList_eq]
  have : x.data.size = 0 := h
  rw [Array.eq_empty_of_size_eq_zero this]
theorem le_no {x : ByteArray} (h : x.size ≠ 0) : ¬ x.toList = [] := by
  rw [Go.ByteArray.toList_eq]
  intro g
  refine h ?_
  show x.data.size = 0
  rw [← Array.length_toList, g]
  rfl
theorem le_iyes {x : ByteArray} (h : x.size = 0) : x.toList.isEmpty = true := by rw [le_yes h]; rfl
theorem le_ino {x : ByteArray} (h : x.size ≠ 0) : x.toList.isEmpty = false := by
  rw [Bool.eq_false_iff]
  intro g
  exact le_no h (List.isEmpty_iff.1 g)
/-- Where the parameter behind ${ begins. -/
def brK (s : ByteArray) (k : Nat) : Nat := if k < s.size ∧ (bt s k).toNat = 35 ∧ 0 < paramN s (k + 1) then k + 1 else k
/-- The name of the parameter behind ${. -/
def brN (s : ByteArray) (k : Nat) : ByteArray := s.extract (brK s k) (brK s k + paramN s (brK s k))
theorem brK_le {s : ByteArray} {k : Nat} (h : k ≤ s.size) : brK s k ≤ s.size := by unfold brK; split <;> omega
/-- The name of a part's parameter; empty: it has none. -/
def nameP (s : ByteArray) (p : Prt) : ByteArray := if p.mode = 12 then s.extract (p.frm + 1) p.to else if p.mode = 7 ∨ p.mode = 8 then brN s (p.frm + 2) else ⟨#[]⟩
theorem nameP_size {s : ByteArray} {p : Prt} (h : p.to ≤ s.size) : (nameP s p).size ≤ s.size := by
  unfold nameP brN
  repeat' split
  all_goals first
    | (simp; omega)
    | (show 0 ≤ _; omega)
/-- The part lies as one of a text's does. -/
structure PtOk (s : ByteArray) (p : Prt) : Prop where
  frm : p.frm < s.size
  tle : p.to ≤ s.size
  dol : p.mode = 12 → p.frm + 1 ≤ p.to
  brc : p.mode = 7 ∨ p.mode = 8 → p.frm + 2 ≤ s.size
/-- A frame that opens has a mode that opens. -/
theorem born_mode {s : ByteArray} {f : Nat} (hb : born s f = true) : opensM (md s (f + 1) f) := by
  obtain ⟨j, T, hj, hS, hN⟩ := nt_tr s f
  rcases hN with hN | ⟨n, hN, ho, _⟩
  · rw [not_born hS hN] at hb; cases hb
  · rw [md_at (A := []) hN]; exact ho
theorem PL_ok {s : ByteArray} {i : Nat} {p : Prt} (h : (PL s)[i]? = some p) : PtOk s p := by
  obtain ⟨f, _, rfl, hf, hb, hpf, hpt, _⟩ := PL_get h
  have he := eK_born hb hf
  have hel := eK_le s (Nat.le_of_lt hf)
  refine ⟨by omega, hpt, fun hm => ?_, fun hm => ?_⟩
  · rw [hpf]
    rw [prt_eq hb hf] at hm ⊢
    by_cases e : cnt (md s (eK s f s.size) f) = 12
    · rw [if_pos e]; show f + 1 ≤ f + 1 + _; omega
    · rw [if_neg e] at hm; exact absurd hm e
  · rw [hpf]
    rw [prt_eq hb hf] at hm
    by_cases e : cnt (md s (eK s f s.size) f) = 12
    · rw [if_pos e] at hm
      have hm' : (12 : Nat) = 7 ∨ (12 : Nat) = 8 := hm
      omega
    · rw [if_neg e] at hm
      have hm' : cnt (md s (eK s f s.size) f) = 7 ∨ cnt (md s (eK s f s.size) f) = 8 := hm
      have ho := born_mode hb
      apply Classical.byContradiction
      intro g
      have e2 : eK s f s.size = f + 1 := by omega
      rw [e2, cnt_opens ho] at hm'
      unfold opensM at ho
      omega

section
variable (w : World)
set_option maxHeartbeats 2000000 in
theorem braceN_any (s : ByteArray) (k : Nat) (T : ByteArray) (hT : Hid (brN s k = T)) (hs : s.size ≤ 60000) (hk : k ≤ s.size) :
    Calls Try.prog 62 #[.string s, .int .i64 (k : Int)] w fun e w' => e = .returned (.string T) ∧ w' = w := by
  have hk2 : (k : Int) ≤ s.size := by omega
  have hhp := hp_35 s k hk
  have hz : (s.extract k s.size).size ≤ 281474976710656 := by simp; omega
  have e1 : IntKind.i64.wrap ((k : Int) + 1) = ((k + 1 : Nat) : Int) := by rw [IntWalk.i64_in _ (by omega)]; omega
  have hp0 := fun W => param_at s k (k : Int) rfl _ (Lib.hid rfl) W (by omega)
  have hp1 := fun W => param_at s (k + 1) ((k + 1 : Nat) : Int) rfl _ (Lib.hid rfl) W (by omega)
  have hl0 := paramN_le s k hk
  have hT0 := hT.out
  unfold brN brK at hT0
  obtain ⟨N0, hN0⟩ : ∃ N0, paramN s k = N0 := ⟨_, rfl⟩
  obtain ⟨k1, hk1⟩ : ∃ k1, k + 1 = k1 := ⟨_, rfl⟩
  rw [hk1] at e1 hp1 hT0
  obtain ⟨N1, hN1⟩ : ∃ N1, paramN s k1 = N1 := ⟨_, rfl⟩
  rw [hN0] at hp0 hl0
  rw [hN1] at hp1 hT0
  have hn1 : k < s.size → k1 + N1 ≤ s.size := fun h => by rw [← hN1]; exact paramN_le s k1 (by omega)
  have a0 : IntKind.i64.wrap ((k : Int) + (N0 : Int)) = ((k + N0 : Nat) : Int) := by rw [IntWalk.i64_in _ (by omega)]; omega
  have HP0 := Lib.hid hp0
  have HP1 := Lib.hid hp1
  have r1 : (k : Int) + (N0 : Int) ≤ s.size := by omega
  by_cases hx : k < s.size ∧ (bt s k).toNat = 35
  · have ht : hpB (s.extract k s.size) ⟨#[35]⟩ = true := by rw [hhp]; simpa using hx
    have ET := Lib.hid ht
    have hn1' := hn1 hx.1
    have a1 : IntKind.i64.wrap ((k1 : Int) + (N1 : Int)) = ((k1 + N1 : Nat) : Int) := by rw [IntWalk.i64_in _ (by omega)]; omega
    by_cases h0 : 0 < N1
    · rw [if_pos ⟨hx.1, hx.2, h0⟩, hN1] at hT0
      subst hT0
      have h0' : (0 : Int) < (N1 : Int) := by omega
      have r2 : ((k1 + N1 : Nat) : Int) ≤ s.size := by omega
      have r3 : (k1 : Int) ≤ ((k1 + N1 : Nat) : Int) := by omega
      have r4 : (0 : Int) ≤ (k1 : Int) := by omega
      obtain ⟨t1, ht1⟩ : ∃ t1, k1 + N1 = t1 := ⟨_, rfl⟩
      rw [ht1] at a1 r2 r3 ⊢
      clear hx hhp ht hT hN0 hN1 hk1 hp0 hp1 hl0 hn1 ht1 hn1'
      go_enter Try.func62, Try.ntmps62
      go_wp2_with fail
      refine (hp_any _ _ _ hz (by decide)).mono ?_
      rintro e w1 ⟨rfl, rfl⟩
      rw [ET.out]
      go_wp2_with fail
      refine (HP1.out _).mono ?_
      rintro e w1 ⟨rfl, rfl⟩
      go_wp2
      go_ret
      exact ⟨rfl, rfl⟩
    · rw [if_neg (fun h => h0 h.2.2), hN0] at hT0
      subst hT0
      obtain rfl : N1 = 0 := by omega
      obtain ⟨t0, ht0⟩ : ∃ t0, k + N0 = t0 := ⟨_, rfl⟩
      have r2 : (t0 : Int) ≤ s.size := by omega
      have r3 : (k : Int) ≤ (t0 : Int) := by omega
      have r4 : (0 : Int) ≤ (k : Int) := by omega
      rw [ht0] at a0 ⊢
      clear hx hhp ht hT hN0 hN1 hk1 hp0 hp1 hl0 hn1 ht0 hn1' r1 h0
      go_enter Try.func62, Try.ntmps62
      go_wp2_with fail
      refine (hp_any _ _ _ hz (by decide)).mono ?_
      rintro e w1 ⟨rfl, rfl⟩
      rw [ET.out]
      go_wp2_with fail
      refine (HP1.out _).mono ?_
      rintro e w1 ⟨rfl, rfl⟩
      go_wp2_with fail
      refine (HP0.out _).mono ?_
      rintro e w1 ⟨rfl, rfl⟩
      go_wp2
      go_ret
      exact ⟨rfl, rfl⟩
  · have ht : hpB (s.extract k s.size) ⟨#[35]⟩ = false := by rw [hhp]; simpa using hx
    have ET := Lib.hid ht
    rw [if_neg (fun h => hx ⟨h.1, h.2.1⟩), hN0] at hT0
    subst hT0
    obtain ⟨t0, ht0⟩ : ∃ t0, k + N0 = t0 := ⟨_, rfl⟩
    have r2 : (t0 : Int) ≤ s.size := by omega
    have r3 : (k : Int) ≤ (t0 : Int) := by omega
    have r4 : (0 : Int) ≤ (k : Int) := by omega
    rw [ht0] at a0 ⊢
    clear hx hhp ht hT hN0 hN1 hk1 hp0 hp1 hl0 hn1 ht0 r1
    go_enter Try.func62, Try.ntmps62
    go_wp2_with fail
    refine (hp_any _ _ _ hz (by decide)).mono ?_
    rintro e w1 ⟨rfl, rfl⟩
    rw [ET.out]
    go_wp2_with fail
    refine (HP0.out _).mono ?_
    rintro e w1 ⟨rfl, rfl⟩
    go_wp2
    go_ret
    exact ⟨rfl, rfl⟩
set_option maxHeartbeats 2000000 in
theorem named_any (s : ByteArray) (m f t : Nat) (up : Int) (op : Bool) (T : ByteArray) (hT : Hid (nameP s ⟨m, f, t, up, op⟩ = T)) (hs : s.size ≤ 60000) (hok : PtOk s ⟨m, f, t, up, op⟩) :
    Calls Try.prog 40 #[.string s, .agg #[.int .i64 (m : Int), .int .i64 (f : Int), .int .i64 (t : Int), .int .i64 up, .bool op]] w fun e w' => e = .returned (.string T) ∧ Below w.heap.size w w' := by
  have hT0 := hT.out
  unfold nameP at hT0
  simp only at hT0
  have h1 : f < s.size := hok.frm
  have h2 : t ≤ s.size := hok.tle
  have h3 : m = 12 → f + 1 ≤ t := hok.dol
  have h4 : m = 7 ∨ m = 8 → f + 2 ≤ s.size := hok.brc
  clear hT hok
  by_cases e12 : m = 12
  · rw [if_pos e12] at hT0
    subst e12 hT0
    have h5 := h3 rfl
    have e1 : IntKind.i64.wrap ((f : Int) + 1) = ((f + 1 : Nat) : Int) := by rw [IntWalk.i64_in _ (by omega)]; omega
    obtain ⟨f1, hf1⟩ : ∃ f1, f + 1 = f1 := ⟨_, rfl⟩
    rw [hf1] at e1 h5 ⊢
    have r1 : (f1 : Int) ≤ (t : Int) := by omega
    have r2 : (t : Int) ≤ s.size := by omega
    clear hf1 h3 h4
    go_enter Try.func40, Try.ntmps40
    go_wp2
    go_ret
    exact ⟨rfl, (Below.refl _ _).alloc (Nat.le_refl _) _⟩
  · rw [if_neg e12] at hT0
    have t12 : ((m : Int) == 12) = false := beq_eq_false_iff_ne.2 (by omega)
    by_cases e7 : m = 7
    · rw [if_pos (.inl e7)] at hT0
      have h5 := h4 (.inl e7)
      subst e7
      have e1 : IntKind.i64.wrap ((f : Int) + 2) = ((f + 2 : Nat) : Int) := by rw [IntWalk.i64_in _ (by omega)]; omega
      have HB := Lib.hid (fun W => braceN_any W s (f + 2) T (Lib.hid hT0) hs h5)
      obtain ⟨f2, hf2⟩ : ∃ f2, f + 2 = f2 := ⟨_, rfl⟩
      rw [hf2] at e1 HB
      clear hT0 hf2 h3 h4 h5
      go_enter Try.func40, Try.ntmps40
      go_wp2_with fail
      refine (HB.out _).mono ?_
      rintro e w1 ⟨rfl, rfl⟩
      go_wp2
      go_ret
      exact ⟨rfl, (Below.refl _ _).alloc (Nat.le_refl _) _⟩
    by_cases e8 : m = 8
    · rw [if_pos (.inr e8)] at hT0
      have h5 := h4 (.inr e8)
      subst e8
      have e1 : IntKind.i64.wrap ((f : Int) + 2) = ((f + 2 : Nat) : Int) := by rw [IntWalk.i64_in _ (by omega)]; omega
      have HB := Lib.hid (fun W => braceN_any W s (f + 2) T (Lib.hid hT0) hs h5)
      obtain ⟨f2, hf2⟩ : ∃ f2, f + 2 = f2 := ⟨_, rfl⟩
      rw [hf2] at e1 HB
      clear hT0 hf2 h3 h4 h5
      go_enter Try.func40, Try.ntmps40
      go_wp2_with fail
      refine (HB.out _).mono ?_
      rintro e w1 ⟨rfl, rfl⟩
      go_wp2
      go_ret
      exact ⟨rfl, (Below.refl _ _).alloc (Nat.le_refl _) _⟩
    rw [if_neg (by omega)] at hT0
    subst hT0
    have t7 : ((m : Int) == 7) = false := beq_eq_false_iff_ne.2 (by omega)
    have t8 : ((m : Int) == 8) = false := beq_eq_false_iff_ne.2 (by omega)
    clear h3 h4
    go_enter Try.func40, Try.ntmps40
    go_wp2
    go_ret
    exact ⟨rfl, (Below.refl _ _).alloc (Nat.le_refl _) _⟩
end
end Go.Proofs.Ythelcmjgikfbjaa

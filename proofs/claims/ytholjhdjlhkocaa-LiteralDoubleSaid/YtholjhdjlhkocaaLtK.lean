/- What layer 8's statement LiteralSingle does: a text between quotes. No condition but that a text's length fits an int. -/
import Derived.Test.YtholjhdjlhkocaaLtJ
namespace Go.Proofs.Ytholjhdjlhkocaa
open Go.RowKit
set_option linter.unusedVariables false

theorem by8_append (a b : ByteArray) (i : Nat) (hi : i < a.size + b.size) : by8 (a ++ b) i = if i < a.size then by8 a i else by8 b (i - a.size) := by
  have h0 : i < (a ++ b).size := by simp; omega
  unfold by8
  rw [bt_eq h0]
  have e : (a ++ b).data = a.data ++ b.data := by simp
  have sa : a.size = a.data.size := rfl
  have sb : b.size = b.data.size := rfl
  by_cases h : i < a.size
  · rw [if_pos h, bt_eq h]
    show ((a ++ b).data[i]).toNat = (a.data[i]).toNat
    simp only [e]
    exact congrArg UInt8.toNat (Array.getElem_append_left (by omega))
  · rw [if_neg h, bt_eq (by omega)]
    have h' : i - a.size < b.data.size := by omega
    show ((a ++ b).data[i]).toNat = (b.data[i - a.size]).toNat
    simp only [e]
    exact congrArg UInt8.toNat (Array.getElem_append_right (by omega))
theorem by8_one (b : UInt8) : by8 ⟨#[b]⟩ 0 = b.toNat := rfl
theorem runK_zero (s : ByteArray) : runK s 0 = ⟨[(0, 0)], true⟩ := rfl
theorem fl_empty (dbl : Bool) : fl dbl ByteArray.empty false = [] := rfl
theorem born_of {s : ByteArray} {a m : Nat} {R : List Fr} (h : nt s (a + 1) = (m, a) :: R) : born s a = true ∧ blw s a = R ∧ md s (a + 1) a = m := by
  refine ⟨pres_at (A := []) h, ?_, md_at (A := []) h⟩
  unfold blw
  rw [h]; rfl
theorem born_no {s : ByteArray} {a : Nat} {R : List Fr} (h : nt s (a + 1) = R) (hR : ∀ x ∈ R, x.2 < a) : born s a = false := by
  cases hb : born s a with
  | false => rfl
  | true =>
    obtain ⟨m, hm⟩ := pres_iff.1 (show pres s (a + 1) a = true from hb)
    rw [h] at hm
    have := hR _ hm
    simp at this
section
variable {t : ByteArray}
/-- A text between quotes. -/
def sgl (t : ByteArray) : ByteArray := (⟨#[39]⟩ ++ t) ++ ⟨#[39]⟩
theorem sgl_size (t : ByteArray) : (sgl t).size = t.size + 2 := by
  unfold sgl
  rw [ByteArray.size_append, ByteArray.size_append]
  show 1 + t.size + 1 = _
  omega
theorem sgl_first (t : ByteArray) : by8 (sgl t) 0 = 39 := by
  unfold sgl
  rw [by8_append _ _ _ (by rw [ByteArray.size_append]; show 0 < 1 + t.size + 1; omega), if_pos (by rw [ByteArray.size_append]; show 0 < 1 + t.size; omega), by8_append _ _ _ (by show 0 < 1 + t.size; omega)]
  rfl
theorem sgl_mid (t : ByteArray) {i : Nat} (h : i < t.size) : by8 (sgl t) (i + 1) = by8 t i := by
  unfold sgl
  rw [by8_append _ _ _ (by rw [ByteArray.size_append]; show i + 1 < 1 + t.size + 1; omega), if_pos (by rw [ByteArray.size_append]; show i + 1 < 1 + t.size; omega), by8_append _ _ _ (by show i + 1 < 1 + t.size; omega), if_neg (by show ¬ i + 1 < 1; omega)]
  rfl
theorem sgl_last (t : ByteArray) : by8 (sgl t) (t.size + 1) = 39 := by
  unfold sgl
  have e : ((⟨#[39]⟩ : ByteArray) ++ t).size = t.size + 1 := by rw [ByteArray.size_append]; show 1 + t.size = _; omega
  rw [by8_append _ _ _ (by rw [e]; show t.size + 1 < t.size + 1 + 1; omega), if_neg (by rw [e]; omega), e, Nat.sub_self]
  rfl
theorem sgl_in (t : ByteArray) : (sgl t).extract 1 (t.size + 1) = t := by
  unfold sgl
  have e : ((⟨#[39]⟩ : ByteArray) ++ t).size = t.size + 1 := by rw [ByteArray.size_append]; show 1 + t.size = _; omega
  apply ByteArray.ext
  simp [Array.extract_append]
theorem mv4 (b : Nat) (fr : Bool) : mv 4 b fr = if b = 39 then (.pop, fr) else (.keep, fr) := by
  unfold mv
  rw [if_neg (by decide), if_neg (by decide), if_pos rfl]
theorem sgl_run (hq : ∀ i, i < t.size → by8 t i ≠ 39) : ∀ k, 1 ≤ k → k ≤ t.size + 1 → runK (sgl t) k = ⟨[(4, 0), (0, 0)], false⟩
  | 0, h, _ => by omega
  | 1, _, _ => by
    rw [runK_succ, runK_zero, sgl_first]
    rfl
  | k + 2, _, hk => by
    rw [runK_succ, sgl_run hq (k + 1) (by omega) (by omega), sgl_mid t (by omega)]
    have := hq k (by omega)
    show plainF [(4, 0), (0, 0)] false (by8 t k) (k + 1) = _
    unfold plainF fin
    simp only
    rw [mv4, if_neg this]
    rfl
theorem sgl_end (hq : ∀ i, i < t.size → by8 t i ≠ 39) : runK (sgl t) (t.size + 2) = ⟨[(0, 0)], false⟩ := by
  rw [runK_succ, sgl_run hq (t.size + 1) (by omega) (by omega), sgl_last]
  rfl
theorem sgl_nt (hq : ∀ i, i < t.size → by8 t i ≠ 39) {k : Nat} (h1 : 1 ≤ k) (h2 : k ≤ t.size + 1) : nt (sgl t) k = [(4, 0)] := nt_of (st := [(4, 0)]) (sgl_run hq k h1 h2)
theorem sgl_nt2 (hq : ∀ i, i < t.size → by8 t i ≠ 39) : nt (sgl t) (t.size + 2) = [] := nt_of (st := []) (sgl_end hq)
theorem sgl_born (hq : ∀ i, i < t.size → by8 t i ≠ 39) : born (sgl t) 0 = true ∧ ∀ k, 1 ≤ k → k < t.size + 2 → born (sgl t) k = false := by
  refine ⟨(born_of (sgl_nt hq (Nat.le_refl 1) (by omega))).1, fun k h1 h2 => ?_⟩
  rcases Nat.eq_or_lt_of_le (Nat.le_of_lt_succ h2) with e | e
  · subst e
    exact born_no (sgl_nt2 hq) (fun _ h => by cases h)
  · exact born_no (sgl_nt hq (by omega) (by omega)) (fun x hx => by
      have : x = (4, 0) := by simpa using hx
      subst this
      show 0 < k
      omega)
theorem sgl_prt (hq : ∀ i, i < t.size → by8 t i ≠ 39) : prt (sgl t) 0 = ⟨4, 0, t.size + 2, -1, false⟩ := by
  have hz := sgl_size t
  have hpr : ∀ j, 1 ≤ j → j ≤ t.size + 1 → pres (sgl t) j 0 = true := fun j h1 h2 => pres_at (A := []) (sgl_nt hq h1 h2)
  have hE : eK (sgl t) 0 (sgl t).size = t.size + 1 := eK_eq (Nat.zero_le _) (by omega) (fun j h1 h2 => hpr j h1 h2) (fun _ => by
    unfold pres
    rw [sgl_nt2 hq]; rfl)
  have hm : md (sgl t) (t.size + 1) 0 = 4 := md_at (A := []) (sgl_nt hq (by omega) (Nat.le_refl _))
  have hb := born_of (sgl_nt hq (Nat.le_refl 1) (by omega))
  rw [prt_eq hb.1 (by omega), hE, hm]
  rw [if_neg (by decide), if_neg (by omega)]
  have hu : upI (sgl t) 0 = -1 := by unfold upI; rw [hb.2.1]
  rw [hu, decide_eq_false (by omega)]
  rfl
theorem sgl_pcs (hq : ∀ i, i < t.size → by8 t i ≠ 39) : PCs (sgl t) = [⟨false, true, t⟩] := by
  have hz := sgl_size t
  have hp := sgl_prt hq
  unfold PCs
  rw [Rm_sub (Nat.le_refl _) (by omega) (sgl_born hq).1 (by rw [hp]; rfl), fl_empty, hp]
  rw [Rm_end (by rw [hz]; show ¬ t.size + 2 < t.size + 2; omega), fl_empty]
  have hs : subT (sgl t) 0 = [⟨false, true, t⟩] := by
    unfold subT
    rw [hp]
    dsimp only
    rw [if_neg (by decide), if_pos (by decide)]
    have hi : insT ⟨4, 0, t.size + 2, -1, false⟩ = t.size + 1 := by
      unfold insT
      simp only
      have e1 : headM 4 = 1 := rfl
      have e2 : tailM 4 = 1 := rfl
      rw [e1, e2, if_neg (by omega), if_neg (by decide), if_pos (by omega)]
      omega
    rw [hi, sgl_in]
  rw [hs]
  rfl
theorem sgl_pl (hq : ∀ i, i < t.size → by8 t i ≠ 39) : PL (sgl t) = [⟨4, 0, t.size + 2, -1, false⟩] := by
  unfold PL
  have : bornL (sgl t) (sgl t).size = [0] := by
    rw [sgl_size]
    obtain ⟨h0, h1⟩ := sgl_born hq
    have : ∀ k, k ≤ t.size + 2 → 1 ≤ k → bornL (sgl t) k = [0] := by
      intro k
      induction k with
      | zero => intro _ h; omega
      | succ k ih =>
        intro h2 _
        rw [bornL_succ]
        rcases Nat.eq_zero_or_pos k with e | e
        · subst e
          rw [if_pos h0]; rfl
        · rw [ih (by omega) e, h1 k e (by omega)]
          rfl
    exact this _ (Nat.le_refl _) (by omega)
  rw [this]
  show [prt (sgl t) 0] = _
  rw [sgl_prt hq]
end
section
variable (w : World)
set_option maxRecDepth 100000 in
set_option maxHeartbeats 4000000 in
theorem literalSingle_law (t : ByteArray) (hmax : t.size ≤ 9223372036854775807) :
    Calls Try.prog 7 #[.string t] w fun e w' => e = .returned (.bool true) ∧ Below w.heap.size w w' := by
  by_cases hs : t.size ≤ 100
  · have hz : ¬ (100 : Int) < (t.size : Int) := by omega
    have hin := fun W => in_any 39 t W (by omega)
    obtain ⟨y, hy⟩ : ∃ y, inB 39 t = y := ⟨_, rfl⟩
    rw [hy] at hin
    have HIN := Lib.hid hin
    clear hin
    cases y with
    | true =>
      clear hy
      go_enter Try.func7, Try.ntmps7
      go_wp2_with fail
      refine (awake8_any _).mono ?_
      rintro e w0 ⟨rfl, hB0⟩
      go_wp2_with (go_at_call 24; refine (HIN.out _).mono ?_; rintro e w3 ⟨rfl, rfl⟩)
      go_ret
      exact ⟨rfl, hB0⟩
    | false =>
      have hq : ∀ i, i < t.size → by8 t i ≠ 39 := fun i h e => by
        have := (inB_split 39 t).2 ⟨i, h, e⟩
        rw [hy] at this
        cases this
      have hz2 := sgl_size t
      have hV := fun W => value_any W (sgl t) (by omega)
      have hP := fun W => pattern_any W (sgl t) (by omega)
      have hQ := fun W => quotesS_any W (sgl t) (by omega)
      unfold MeR at hV hP
      rw [sgl_pcs hq] at hV hP
      rw [sgl_pl hq] at hQ
      have hv1 : catW (fun x => x.t) [⟨false, true, t⟩] = t := by show t ++ ByteArray.empty = t; rw [ByteArray.append_empty]
      obtain ⟨P, hP1⟩ : ∃ P, catW shP [⟨false, true, t⟩] = P := ⟨_, rfl⟩
      have hPs : P.size = 2 * t.size := by
        rw [← hP1]
        show (shP ⟨false, true, t⟩ ++ ByteArray.empty).size = _
        rw [ByteArray.append_empty]
        show ((shT t.data.toList).toArray).size = _
        have h1 := shT_len t.data.toList
        unfold Lib.byteCells at h1
        rw [List.length_map] at h1
        rw [List.size_toArray, h1]
        simp
      have hV2 : ∀ W, Calls Try.prog 18 #[.string (sgl t)] W fun e w' => e = .returned (.tuple #[.string t, .bool true]) ∧ Below W.heap.size W w' := fun W => (hV W).mono (fun e w' h => ⟨by have := h.1; rw [hv1] at this; exact this, h.2⟩)
      have hP2 : ∀ W, Calls Try.prog 19 #[.string (sgl t)] W fun e w' => e = .returned (.tuple #[.string P, .bool true]) ∧ Below W.heap.size W w' := fun W => (hP W).mono (fun e w' h => ⟨by have := h.1; rw [hP1] at this; exact this, h.2⟩)
      have hQ2 : ∀ W, Calls Try.prog 26 #[.string (sgl t)] W fun e w' => e = .returned (.bool true) ∧ Below W.heap.size W w' := fun W => (hQ W).mono (fun e w' h => ⟨h.1, h.2⟩)
      have HV := Lib.hid hV2
      have HP := Lib.hid hP2
      have HQ := Lib.hid hQ2
      obtain ⟨A, hA⟩ : ∃ A, (⟨#[39]⟩ : ByteArray) ++ t = A := ⟨_, rfl⟩
      have hAz : A.size = t.size + 1 := by rw [← hA, ByteArray.size_append]; show 1 + t.size = _; omega
      obtain ⟨S, hS⟩ : ∃ S, A ++ (⟨#[39]⟩ : ByteArray) = S := ⟨_, rfl⟩
      have hSS : sgl t = S := by unfold sgl; rw [hA, hS]
      rw [hSS] at HV HP HQ
      have HPS := Lib.hid hPs
      have e1 : IntKind.i64.wrap (2 * (t.size : Int)) = (P.size : Int) := by rw [IntWalk.i64_in _ (by omega)]; omega
      clear hV hP hQ hV2 hP2 hQ2 hv1 hP1 hPs hz2 hy hq hSS
      go_enter Try.func7, Try.ntmps7
      go_wp2_with fail
      refine (awake8_any _).mono ?_
      rintro e w0 ⟨rfl, hB0⟩
      go_wp2_with (go_at_call 24; refine (HIN.out _).mono ?_; rintro e w3 ⟨rfl, rfl⟩)
      refine (HV.out _).mono ?_
      rintro e w3 ⟨rfl, hB3⟩
      go_wp2_with fail
      refine (HP.out _).mono ?_
      rintro e w4 ⟨rfl, hB4⟩
      go_wp2_with fail
      refine (HQ.out _).mono ?_
      rintro e w5 ⟨rfl, hB5⟩
      have hB7 : Below w.heap.size w w5 := by
        have h1 := hB0.trans (hB3.mono hB0.size)
        have h2 := h1.trans (hB4.mono h1.size)
        exact h2.trans (hB5.mono h2.size)
      go_wp2
      go_ret
      exact ⟨rfl, hB7⟩
  · have hz : (100 : Int) < (t.size : Int) := by omega
    go_enter Try.func7, Try.ntmps7
    go_wp2_with fail
    refine (awake8_any _).mono ?_
    rintro e w0 ⟨rfl, hB0⟩
    go_wp2
    go_ret
    exact ⟨rfl, hB0⟩
end
end Go.Proofs.Ytholjhdjlhkocaa

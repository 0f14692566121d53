/- What the document's own Safe returns, the statements' own awake of layer 8, and what layer 8's statement LiteralSafe does. No condition but that a text's length fits an int. -/
import Derived.Test.YtholjhdjlhkocaaLtI
namespace Go.Proofs.Ytholjhdjlhkocaa
open Go.RowKit
set_option linter.unusedVariables false

set_option maxHeartbeats 1000000 in
theorem refsafe_any (c : Nat) (hc : c < 256) (w : World) :
    Calls Try.prog 27 #[.int .u8 c] w fun e w' => e = .returned (.bool (safeB c)) ∧ w' = w := by
  have H1 := Lib.hid (inB_safe c)
  go_enter Try.func27, Try.ntmps27
  go_wp2_with (first
    | (go_at_call 50; refine (class_any _ _).mono ?_; rintro e w' ⟨rfl, rfl⟩)
    | (go_at_call 24; refine (in_any _ _ _ (by decide)).mono ?_; rintro e w' ⟨rfl, rfl⟩))
  all_goals
    go_ret
    refine ⟨ret_bool ?_, rfl⟩
    have h1 := H1.out
    clear H1
    unfold safeB
    try simp only [h1]
    clear h1
    symm
    rw [Bool.eq_iff_iff, decide_eq_true_iff]
    simp
    try omega

theorem safe_not : ∀ b, b < 256 → safeB b = true → b ≠ 92 ∧ b ≠ 39 ∧ b ≠ 34 ∧ b ≠ 96 ∧ b ≠ 36 ∧ b ≠ 35 ∧ b ≠ 40 ∧ b ≠ 41 := by decide +kernel
theorem mv_safe {b : Nat} (hb : b < 256) (hs : safeB b = true) (fr : Bool) : mv 0 b fr = (.keep, endsB b) := by
  obtain ⟨h1, h2, h3, h4, h5, h6, h7, h8⟩ := safe_not b hb hs
  unfold mv
  rw [if_pos (by decide), if_neg h1, if_neg h2, if_neg h3, if_neg (by omega), if_neg (by omega), if_neg h7, if_neg h8]
theorem nt_of {s : ByteArray} {k : Nat} {st : List Fr} {fr : Bool} (h : runK s k = ⟨st ++ [(0, 0)], fr⟩) : nt s k = st := by
  have := nt_st s k
  rw [h] at this
  exact (List.append_cancel_right this).symm
theorem safe_run {s : ByteArray} (hs : ∀ i, i < s.size → safeB (by8 s i) = true) : ∀ k, k ≤ s.size → ∃ fr, runK s k = ⟨[(0, 0)], fr⟩
  | 0, _ => ⟨true, rfl⟩
  | k + 1, hk => by
    obtain ⟨fr, h⟩ := safe_run hs k (by omega)
    refine ⟨endsB (by8 s k), ?_⟩
    rw [runK_succ, h]
    show plainF [(0, 0)] fr (by8 s k) k = _
    unfold plainF fin
    simp only
    rw [mv_safe (by8_lt s k) (hs k (by omega))]
    rfl
/-- A scan in which nothing begins. -/
theorem Rm_all {s : ByteArray} {dbl : Bool} {sub : Nat → List Pc} {e : Nat} (he : e ≤ s.size) : ∀ (n a : Nat) (h : ByteArray) (w : Bool), (∀ x, a ≤ x → x < e → born s x = false) → e - a = n → a ≤ e → Rm s dbl sub e a h w = fl dbl (h ++ s.extract a e) w
  | 0, a, h, w, hb, hn, ha => by
    obtain rfl : a = e := by omega
    rw [Rm_end (by omega)]
    have : s.extract a a = ByteArray.empty := by
      have h1 : (s.extract a a).size = 0 := by simp
      exact ByteArray.ext (Array.eq_empty_of_size_eq_zero h1)
    rw [this, ByteArray.append_empty]
  | n + 1, a, h, w, hb, hn, ha => by
    rw [Rm_plain he (by omega) (hb a (Nat.le_refl _) (by omega)), Rm_all he n (a + 1) _ w (fun x h1 h2 => hb x (by omega) h2) (by omega) (by omega), ByteArray.append_assoc, ByteArray.extract_append_extract]
    rw [Nat.min_eq_left (by omega), Nat.max_eq_right (by omega)]
theorem safe_born {s : ByteArray} (hs : ∀ i, i < s.size → safeB (by8 s i) = true) (a : Nat) (ha : a < s.size) : born s a = false := by
  obtain ⟨fr, h⟩ := safe_run hs (a + 1) (by omega)
  have := nt_of (st := []) h
  unfold born pres
  rw [this]
  rfl
theorem safe_pcs {s : ByteArray} (hs : ∀ i, i < s.size → safeB (by8 s i) = true) : PCs s = fl false s false := by
  unfold PCs
  rw [Rm_all (Nat.le_refl _) s.size 0 _ _ (fun x _ h => safe_born hs x h) (by omega) (Nat.zero_le _), ByteArray.empty_append, ByteArray.extract_zero_size]
theorem safe_pl {s : ByteArray} (hs : ∀ i, i < s.size → safeB (by8 s i) = true) : PL s = [] := by
  unfold PL
  have : bornL s s.size = [] := by
    unfold bornL
    rw [List.filter_eq_nil_iff]
    intro a ha
    rw [safe_born hs a (List.mem_range.1 ha)]
    decide
  rw [this]; rfl
theorem fl_catW (f : Pc → ByteArray) (dbl : Bool) (h : ByteArray) (hf : f ⟨false, dbl, h⟩ = h) : catW f (fl dbl h false) = h ∧ (fl dbl h false).any (fun x => x.ex) = false := by
  unfold fl
  by_cases h0 : h.size = 0 ∧ false = false
  · rw [if_pos h0]
    refine ⟨?_, rfl⟩
    exact (ByteArray.ext (Array.eq_empty_of_size_eq_zero h0.1)).symm
  · rw [if_neg h0]
    refine ⟨?_, rfl⟩
    show f ⟨false, dbl, h⟩ ++ ByteArray.empty = h
    rw [hf, ByteArray.append_empty]
theorem eg_val : PCs ⟨#[97, 39, 98, 32, 99, 39, 34, 100, 92, 34, 101, 34, 92, 102]⟩ = [⟨false, false, ⟨#[97]⟩⟩, ⟨false, true, ⟨#[98, 32, 99]⟩⟩, ⟨false, true, ⟨#[100, 34, 101]⟩⟩, ⟨false, true, ⟨#[102]⟩⟩] := by kernel_rfl

section
variable (w : World)
set_option maxHeartbeats 1000000 in
theorem awake8_any : Calls Try.prog 15 #[] w fun e w' => e = .returned (.bool true) ∧ Below w.heap.size w w' := by
  have hv := value_any w ⟨#[97, 39, 98, 32, 99, 39, 34, 100, 92, 34, 101, 34, 92, 102]⟩ (by decide)
  have HV := Lib.hid hv
  clear hv
  go_enter Try.func15, Try.ntmps15
  go_wp2_with fail
  refine (HV.out).mono ?_
  rintro e w1 ⟨hr, hB⟩
  unfold MeR at hr
  rw [eg_val] at hr
  have hr2 : e = .returned (.tuple #[.string ⟨#[97, 98, 32, 99, 100, 34, 101, 102]⟩, .bool true]) := hr
  subst hr2
  clear hr
  go_wp2
  go_ret
  exact ⟨rfl, hB⟩
def SaR8 (t : ByteArray) (w : World) (v : Value) (wr : World) : Prop := ∃ i : Nat, i ≤ t.size ∧ v = .int .i64 (i : Int) ∧ (∀ j, j < i → safeB (by8 t j) = true) ∧ wr = w
set_option maxRecDepth 100000 in
set_option maxHeartbeats 4000000 in
theorem literalSafe_law (t : ByteArray) (hmax : t.size ≤ 9223372036854775807) :
    Calls Try.prog 9 #[.string t] w fun e w' => e = .returned (.bool true) ∧ Below w.heap.size w w' := by
  by_cases hs : t.size ≤ 100
  · have hz : ¬ (100 : Int) < (t.size : Int) := by omega
    go_enter Try.func9, Try.ntmps9
    go_wp2_with fail
    refine (awake8_any _).mono ?_
    rintro e w0 ⟨rfl, hB0⟩
    go_wp2
    go_loopw [3] (fun v wr => SaR8 t w0 v wr) (fun v _ => t.size - (intOf v).toNat)
    case atStart => exact ⟨0, Nat.zero_le _, rfl, fun j h => by omega, rfl⟩
    case round =>
      obtain ⟨i, hi, rfl, hj, rfl⟩ := hrel
      by_cases hlt : (i : Int) < (t.size : Int)
      · have hlt' : i < t.size := by omega
        have q0 : (0 : Int) ≤ (i : Int) := by omega
        obtain ⟨bb, hbb⟩ : ∃ bb, by8 t i = bb := ⟨_, rfl⟩
        have hix : ∀ hh : i < t.size, (t[i]'hh).toNat = bb := fun hh => by rw [← hbb]; unfold by8; rw [bt_eq hh]
        have hbl : bb < 256 := hbb ▸ by8_lt t i
        obtain ⟨y, hy⟩ : ∃ y, safeB bb = y := ⟨_, rfl⟩
        have hsf := fun W => refsafe_any bb hbl W
        rw [hy] at hsf
        have HSF := Lib.hid hsf
        have HJ := Lib.hid hj
        have HBB := Lib.hid hbb
        have HYY := Lib.hid hy
        clear hsf hj hbb hy
        cases y with
        | true =>
          go_wp2_with fail
          refine (HSF.out _).mono ?_
          rintro e w3 ⟨rfl, rfl⟩
          go_wp2
          go_roundw
          case rel =>
            refine ⟨i + 1, by omega, by go_num, fun j h => ?_, rfl⟩
            rcases Nat.eq_or_lt_of_le (Nat.le_of_lt_succ h) with e | e
            · rw [e, HBB.out]; exact HYY.out
            · exact HJ.out j e
          case measure => simp [intOf]; omega
        | false =>
          go_wp2_with fail
          refine (HSF.out _).mono ?_
          rintro e w3 ⟨rfl, rfl⟩
          go_wp2
          go_ret
          exact ⟨rfl, hB0⟩
      · obtain rfl : i = t.size := by omega
        have hpc := safe_pcs hj
        have hpl := safe_pl hj
        have hc1 := fl_catW (fun x => x.t) false t rfl
        have hc2 := fl_catW shP false t rfl
        have HV := Lib.hid (fun W => value_any W t (by omega))
        have HP := Lib.hid (fun W => pattern_any W t (by omega))
        have hq := fun W => quotesS_any W t (by omega)
        rw [hpl] at hq
        have HQ := Lib.hid hq
        have HPC := Lib.hid hpc
        have HC1 := Lib.hid hc1
        have HC2 := Lib.hid hc2
        clear hpc hpl hc1 hc2 hq hj
        go_wp2_with fail
        refine (HV.out _).mono ?_
        rintro e w3 ⟨hr, hB3⟩
        unfold MeR at hr
        rw [HPC.out, HC1.out.1, HC1.out.2] at hr
        have hr2 : e = .returned (.tuple #[.string t, .bool true]) := hr
        subst hr2
        clear hr
        go_wp2_with fail
        refine (HP.out _).mono ?_
        rintro e w4 ⟨hr, hB4⟩
        unfold MeR at hr
        rw [HPC.out, HC2.out.1, HC2.out.2] at hr
        have hr2 : e = .returned (.tuple #[.string t, .bool true]) := hr
        subst hr2
        clear hr
        go_wp2_with fail
        refine (HQ.out _).mono ?_
        rintro e w5 ⟨rfl, hB5⟩
        have hB7 : Below w.heap.size w w5 := by
          have h1 := hB0.trans (hB3.mono hB0.size)
          have h2 := h1.trans (hB4.mono h1.size)
          exact h2.trans (hB5.mono h2.size)
        go_wp2
        go_ret
        exact ⟨rfl, hB7⟩
  · have hz : (100 : Int) < (t.size : Int) := by omega
    go_enter Try.func9, Try.ntmps9
    go_wp2_with fail
    refine (awake8_any _).mono ?_
    rintro e w0 ⟨rfl, hB0⟩
    go_wp2
    go_ret
    exact ⟨rfl, hB0⟩
end
end Go.Proofs.Ytholjhdjlhkocaa

/- What layer 8's statement LiteralEscaped does: a text with a backslash ahead of each byte. No condition but that a text's length fits an int. -/
import Derived.Test.YtholjhdjlhkocaaLtK
namespace Go.Proofs.Ytholjhdjlhkocaa
open Go.RowKit
set_option linter.unusedVariables false

theorem ext_one {a b : ByteArray} (ha : a.size = 1) (hb : b.size = 1) (h : by8 a 0 = by8 b 0) : a = b := by
  apply ByteArray.ext
  apply Array.ext
  · exact ha.trans hb.symm
  · intro i h1 h2
    have ha' : a.data.size = 1 := ha
    obtain rfl : i = 0 := by omega
    apply UInt8.toNat_inj.1
    unfold by8 at h
    rw [bt_eq (by omega : 0 < a.size), bt_eq (by omega : 0 < b.size)] at h
    exact h
theorem by8_ext {s : ByteArray} {a b i : Nat} (hb : b ≤ s.size) (hi : i < b - a) : by8 (s.extract a b) i = by8 s (a + i) := by
  unfold by8
  rw [bt_extract s a b i hb hi]
theorem ext_size {s : ByteArray} {a b : Nat} (hb : b ≤ s.size) : (s.extract a b).size = b - a := by
  rw [ByteArray.size_extract]; omega
/-- A backslash ahead of each of the first bytes of a text. -/
def sE (t : ByteArray) : Nat → ByteArray
  | 0 => ByteArray.empty
  | k + 1 => (sE t k ++ ⟨#[92]⟩) ++ t.extract k (k + 1)
/-- The first bytes of a text but for its newlines. -/
def wE (t : ByteArray) : Nat → ByteArray
  | 0 => ByteArray.empty
  | k + 1 => if by8 t k = 10 then wE t k else wE t k ++ t.extract k (k + 1)
section
variable {t : ByteArray}
theorem sE_size : ∀ {k : Nat}, k ≤ t.size → (sE t k).size = 2 * k
  | 0, _ => rfl
  | k + 1, h => by
    show ((sE t k ++ ⟨#[92]⟩) ++ t.extract k (k + 1)).size = _
    rw [ByteArray.size_append, ByteArray.size_append, sE_size (by omega), ext_size h]
    show 2 * k + 1 + _ = _
    omega
theorem wE_size : ∀ {k : Nat}, k ≤ t.size → (wE t k).size ≤ k
  | 0, _ => Nat.le_refl _
  | k + 1, h => by
    have := wE_size (k := k) (by omega)
    unfold wE
    split
    · omega
    · rw [ByteArray.size_append, ext_size h]; omega
theorem sE_even : ∀ {k i : Nat}, k ≤ t.size → i < k → by8 (sE t k) (2 * i) = 92
  | 0, i, _, h => by omega
  | k + 1, i, h, hi => by
    have hz := sE_size (t := t) (k := k) (by omega)
    have hz1 : (sE t k ++ ⟨#[92]⟩).size = 2 * k + 1 := by rw [ByteArray.size_append, hz]; rfl
    have hx := ext_size (a := k) h
    show by8 ((sE t k ++ ⟨#[92]⟩) ++ t.extract k (k + 1)) _ = _
    rw [by8_append _ _ _ (by omega), if_pos (by omega), by8_append _ _ _ (by rw [hz]; show _ < 2 * k + 1; omega)]
    by_cases e : i = k
    · subst e
      rw [if_neg (by omega), hz, Nat.sub_self]
      rfl
    · rw [if_pos (by omega)]
      exact sE_even (by omega) (by omega)
theorem sE_odd : ∀ {k i : Nat}, k ≤ t.size → i < k → by8 (sE t k) (2 * i + 1) = by8 t i
  | 0, i, _, h => by omega
  | k + 1, i, h, hi => by
    have hz := sE_size (t := t) (k := k) (by omega)
    have hz1 : (sE t k ++ ⟨#[92]⟩).size = 2 * k + 1 := by rw [ByteArray.size_append, hz]; rfl
    have hx := ext_size (a := k) h
    show by8 ((sE t k ++ ⟨#[92]⟩) ++ t.extract k (k + 1)) _ = _
    rw [by8_append _ _ _ (by omega)]
    by_cases e : i = k
    · subst e
      rw [if_neg (by omega), hz1, Nat.sub_self, by8_ext h (by omega)]
      rfl
    · rw [if_pos (by omega), by8_append _ _ _ (by rw [hz]; show _ < 2 * k + 1; omega), if_pos (by omega)]
      exact sE_odd (by omega) (by omega)
theorem mv0_92 (fr : Bool) : mv 0 92 fr = (.push 13, fr) := by unfold mv; rw [if_pos (show isProg 0 = true from rfl), if_pos (show (92 : Nat) = 92 from rfl)]
theorem mv13 (b : Nat) (fr : Bool) : mv 13 b fr = (.pop, if b = 10 then fr else false) := by unfold mv; rw [if_neg (by decide), if_pos rfl]
theorem es_run {n : Nat} (hn : n ≤ t.size) : ∀ {i : Nat}, i ≤ n → ∃ fr, runK (sE t n) (2 * i) = ⟨[(0, 0)], fr⟩
  | 0, _ => ⟨true, rfl⟩
  | i + 1, h => by
    obtain ⟨fr, hr⟩ := es_run hn (i := i) (by omega)
    rw [show 2 * (i + 1) = 2 * i + 1 + 1 by omega, runK_succ, runK_succ, hr, sE_even hn (by omega), sE_odd hn (by omega)]
    have h1 : feed ⟨[(0, 0)], fr⟩ 92 (2 * i) = ⟨[(13, 2 * i), (0, 0)], fr⟩ := by
      show plainF [(0, 0)] fr 92 (2 * i) = _
      unfold plainF fin
      simp only
      rw [mv0_92]
      rfl
    rw [h1]
    refine ⟨if by8 t i = 10 then fr else false, ?_⟩
    show plainF [(13, 2 * i), (0, 0)] fr (by8 t i) (2 * i + 1) = _
    unfold plainF fin
    simp only
    rw [mv13]
    rfl
theorem es_run1 {n : Nat} (hn : n ≤ t.size) {i : Nat} (h : i < n) : ∃ fr, runK (sE t n) (2 * i + 1) = ⟨[(13, 2 * i), (0, 0)], fr⟩ := by
  obtain ⟨fr, hr⟩ := es_run hn (i := i) (by omega)
  rw [runK_succ, hr, sE_even hn h]
  refine ⟨fr, ?_⟩
  show plainF [(0, 0)] fr 92 (2 * i) = _
  unfold plainF fin
  simp only
  rw [mv0_92]
  rfl
theorem es_nt {n : Nat} (hn : n ≤ t.size) {i : Nat} (h : i ≤ n) : nt (sE t n) (2 * i) = [] := by
  obtain ⟨fr, hr⟩ := es_run hn h
  exact nt_of (st := []) hr
theorem es_nt1 {n : Nat} (hn : n ≤ t.size) {i : Nat} (h : i < n) : nt (sE t n) (2 * i + 1) = [(13, 2 * i)] := by
  obtain ⟨fr, hr⟩ := es_run1 hn h
  exact nt_of (st := [(13, 2 * i)]) hr
theorem es_born {n : Nat} (hn : n ≤ t.size) {i : Nat} (h : i < n) : born (sE t n) (2 * i) = true := (born_of (es_nt1 hn h)).1
theorem es_prt {n : Nat} (hn : n ≤ t.size) {i : Nat} (h : i < n) : prt (sE t n) (2 * i) = ⟨13, 2 * i, 2 * i + 2, -1, false⟩ := by
  have hz := sE_size hn
  have hE : eK (sE t n) (2 * i) (sE t n).size = 2 * i + 1 := eK_eq (by omega) (by omega) (fun j h1 h2 => by
    obtain rfl : j = 2 * i + 1 := by omega
    exact pres_at (A := []) (es_nt1 hn h)) (fun _ => by
    unfold pres
    rw [show 2 * i + 1 + 1 = 2 * (i + 1) by omega, es_nt hn (by omega)]; rfl)
  have hb := born_of (es_nt1 hn h)
  rw [prt_eq hb.1 (by omega), hE, hb.2.2]
  rw [if_neg (by decide), if_neg (by omega)]
  have hu : upI (sE t n) (2 * i) = -1 := by unfold upI; rw [hb.2.1]
  rw [hu, decide_eq_false (by omega)]
  rfl
theorem es_rm {n : Nat} (hn : n ≤ t.size) : ∀ (d i : Nat), n - i = d → i ≤ n →
    wE t i ++ catW (fun x => x.t) (Rm (sE t n) false (subT (sE t n)) (sE t n).size (2 * i) ByteArray.empty false) = wE t n ∧ (Rm (sE t n) false (subT (sE t n)) (sE t n).size (2 * i) ByteArray.empty false).any (fun x => x.ex) = false
  | 0, i, hd, hi => by
    obtain rfl : i = n := by omega
    have hz := sE_size hn
    rw [Rm_end (by omega), fl_empty]
    exact ⟨ByteArray.append_empty, rfl⟩
  | d + 1, i, hd, hi => by
    have hz := sE_size hn
    have hb := es_born hn (i := i) (by omega)
    have hp := es_prt hn (i := i) (by omega)
    have hod := sE_odd hn (i := i) (by omega)
    have ih := es_rm hn d (i + 1) (by omega) (by omega)
    have hto : (prt (sE t n) (2 * i)).to = 2 * (i + 1) := by rw [hp]; show 2 * i + 2 = _; omega
    by_cases h10 : by8 t i = 10
    · rw [Rm_self (t := ByteArray.empty) (Nat.le_refl _) (by omega) hb (by
        rw [hp]
        unfold itself
        simp only
        rw [if_neg (by decide), if_neg (by decide), if_pos trivial, if_pos (.inr (by rw [hod]; exact h10))]), hto, ByteArray.append_empty]
      have hw : wE t (i + 1) = wE t i := if_pos h10
      rw [hw] at ih
      exact ih
    · rw [Rm_sub (Nat.le_refl _) (by omega) hb (by
        rw [hp]
        unfold itself
        simp only
        rw [if_neg (by decide), if_neg (by decide), if_pos trivial, if_neg (by rw [hod]; omega), if_pos trivial]), hto, fl_empty]
      have hs : subT (sE t n) (2 * i) = [⟨false, true, t.extract i (i + 1)⟩] := by
        unfold subT
        rw [hp]
        dsimp only
        rw [if_neg (by decide), if_pos (by decide)]
        have hi2 : insT ⟨13, 2 * i, 2 * i + 2, -1, false⟩ = 2 * i + 2 := by
          unfold insT
          simp only
          have e1 : headM 13 = 1 := rfl
          have e2 : tailM 13 = 0 := rfl
          rw [e1, e2, if_neg (by omega), if_neg (by decide), if_pos (by omega)]
          omega
        rw [hi2]
        have : (sE t n).extract (2 * i + 1) (2 * i + 2) = t.extract i (i + 1) := by
          refine ext_one ?_ ?_ ?_
          · rw [ext_size (by omega)]; omega
          · rw [ext_size (by omega)]; omega
          · rw [by8_ext (by omega) (by omega), by8_ext (by omega) (by omega)]
            exact hod
        rw [this]
      rw [hs]
      have hw : wE t (i + 1) = wE t i ++ t.extract i (i + 1) := if_neg h10
      rw [hw, ByteArray.append_assoc] at ih
      exact ⟨ih.1, ih.2⟩
theorem es_pcs {n : Nat} (hn : n ≤ t.size) : catW (fun x => x.t) (PCs (sE t n)) = wE t n ∧ (PCs (sE t n)).any (fun x => x.ex) = false := by
  have h := es_rm hn n 0 rfl (Nat.zero_le _)
  rw [show wE t 0 = ByteArray.empty from rfl, ByteArray.empty_append] at h
  exact h
theorem es_pl {n : Nat} (hn : n ≤ t.size) : (PL (sE t n)).any quB = decide (0 < n) := by
  rcases Nat.eq_zero_or_pos n with e | e
  · subst e
    rfl
  · rw [decide_eq_true e]
    have hz := sE_size hn
    rw [List.any_eq_true]
    refine ⟨prt (sE t n) 0, ?_, ?_⟩
    · unfold PL
      refine List.mem_map.2 ⟨0, bornL_mem.2 ⟨by omega, es_born hn e⟩, rfl⟩
    · have hp := es_prt hn e
      rw [show 2 * 0 = 0 from rfl] at hp
      rw [hp]
      rfl
end
def EsR (t : ByteArray) (w : World) (v3 v4 v5 : Value) (wr : World) : Prop := ∃ i : Nat, i ≤ t.size ∧ v3 = .string (sE t i) ∧ v4 = .string (wE t i) ∧ v5 = .int .i64 (i : Int) ∧ Below w.heap.size w wr
section
variable (w : World)
set_option maxRecDepth 100000 in
set_option maxHeartbeats 4000000 in
theorem literalEscaped_law (t : ByteArray) (hmax : t.size ≤ 9223372036854775807) :
    Calls Try.prog 10 #[.string t] w fun e w' => e = .returned (.bool true) ∧ Below w.heap.size w w' := by
  by_cases hs : t.size ≤ 100
  · have hz : ¬ (100 : Int) < (t.size : Int) := by omega
    go_enter Try.func10, Try.ntmps10
    go_wp2_with fail
    refine (awake8_any _).mono ?_
    rintro e w0 ⟨rfl, hB0⟩
    go_wp2
    go_loopw [3, 4, 5] (fun v3 v4 v5 wr => EsR t w v3 v4 v5 wr) (fun _ _ v5 _ => t.size - (intOf v5).toNat)
    case atStart => exact ⟨0, Nat.zero_le _, rfl, rfl, rfl, hB0⟩
    case round =>
      obtain ⟨i, hi, rfl, rfl, rfl, hBr⟩ := hrel
      by_cases hlt : (i : Int) < (t.size : Int)
      · have hlt' : i < t.size := by omega
        have q0 : (0 : Int) ≤ (i : Int) := by omega
        have q1 : (i : Int) + 1 ≤ (t.size : Int) := by omega
        have q2 : IntKind.i64.wrap ((i : Int) + 1) = (i : Int) + 1 := IntWalk.i64_in _ (by omega)
        have q3 : (i : Int) ≤ (i : Int) + 1 := by omega
        obtain ⟨bb, hbb⟩ : ∃ bb, by8 t i = bb := ⟨_, rfl⟩
        have hix : ∀ hh : i < t.size, (t[i]'hh).toNat = bb := fun hh => by rw [← hbb]; unfold by8; rw [bt_eq hh]
        have hse : sE t (i + 1) = (sE t i ++ ⟨#[92]⟩) ++ t.extract i (i + 1) := rfl
        have hwe : wE t (i + 1) = if bb = 10 then wE t i else wE t i ++ t.extract i (i + 1) := by rw [← hbb]; rfl
        obtain ⟨S, hS⟩ : ∃ S, sE t i = S := ⟨_, rfl⟩
        obtain ⟨W, hW⟩ : ∃ W, wE t i = W := ⟨_, rfl⟩
        have hSz : S.size = 2 * i := by rw [← hS]; exact sE_size hi
        have hWz : W.size ≤ i := by rw [← hW]; exact wE_size hi
        have hTz := ext_size (s := t) (a := i) (b := i + 1) (by omega)
        obtain ⟨T, hT⟩ : ∃ T, t.extract i (i + 1) = T := ⟨_, rfl⟩
        obtain ⟨A, hA⟩ : ∃ A, S ++ (⟨#[92]⟩ : ByteArray) = A := ⟨_, rfl⟩
        rw [hT] at hTz
        have hTz : T.size = 1 := by omega
        have hAz : A.size = 2 * i + 1 := by rw [← hA, ByteArray.size_append, hSz]; rfl
        rw [hS] at hse ⊢
        rw [hW] at hwe ⊢
        rw [hA, hT] at hse
        rw [hT] at hwe
        have HSE := Lib.hid hse
        have HWE := Lib.hid hwe
        have HBB := Lib.hid hbb
        clear hse hwe hbb hS hW
        by_cases h10 : bb = 10
        · subst h10
          go_wp2
          go_roundw
          case rel =>
            refine ⟨i + 1, by omega, ?_, ?_, by go_num, hBr⟩
            · rw [HSE.out]
            · rw [HWE.out, if_pos rfl]
          case measure => simp [intOf]; omega
        · have h10' : ¬ (bb : Int) = 10 := by omega
          go_wp2
          go_roundw
          case rel =>
            refine ⟨i + 1, by omega, ?_, ?_, by go_num, hBr⟩
            · rw [HSE.out]
            · rw [HWE.out, if_neg h10]
          case measure => simp [intOf]; omega
      · obtain rfl : i = t.size := by omega
        have hpc := es_pcs (Nat.le_refl t.size)
        have hpl := es_pl (Nat.le_refl t.size)
        have hz2 := sE_size (Nat.le_refl t.size)
        have hv := fun W => value_any W (sE t t.size) (by omega)
        have hq := fun W => quotesS_any W (sE t t.size) (by omega)
        unfold MeR at hv
        rw [hpc.1, hpc.2] at hv
        rw [hpl] at hq
        obtain ⟨S, hS⟩ : ∃ S, sE t t.size = S := ⟨_, rfl⟩
        obtain ⟨X, hX⟩ : ∃ X, wE t t.size = X := ⟨_, rfl⟩
        obtain ⟨y, hy⟩ : ∃ y, decide (0 < t.size) = y := ⟨_, rfl⟩
        have hy2 : decide ((0 : Int) < (t.size : Int)) = y := by rw [← hy]; exact decide_eq_decide.2 (by omega)
        rw [hS] at hv hq ⊢
        rw [hX] at hv ⊢
        rw [hy] at hq
        have hv2 : ∀ W, Calls Try.prog 18 #[.string S] W fun e w' => e = .returned (.tuple #[.string X, .bool true]) ∧ Below W.heap.size W w' := fun W => (hv W).mono (fun e w' h => ⟨h.1, h.2⟩)
        have HV := Lib.hid hv2
        have HQ := Lib.hid hq
        clear hv hv2 hq hpc hpl hz2 hS hX
        have hyy : (y == decide (0 < t.size)) = true := by rw [hy]; cases y <;> rfl
        clear hy
        go_wp2_with fail
        refine (HV.out _).mono ?_
        rintro e w3 ⟨rfl, hB3⟩
        go_wp2_with fail
        refine (HQ.out _).mono ?_
        rintro e w5 ⟨rfl, hB5⟩
        have hB7 : Below w.heap.size w w5 := by
          have h2 := hBr.trans (hB3.mono hBr.size)
          exact h2.trans (hB5.mono h2.size)
        have HYY := Lib.hid hyy
        clear hyy
        go_wp2
        go_ret
        refine ⟨?_, hB7⟩
        show Ending.returned (.bool (y == decide (0 < t.size))) = _
        rw [HYY.out]
  · have hz : (100 : Int) < (t.size : Int) := by omega
    go_enter Try.func10, Try.ntmps10
    go_wp2_with fail
    refine (awake8_any _).mono ?_
    rintro e w0 ⟨rfl, hB0⟩
    go_wp2
    go_ret
    exact ⟨rfl, hB0⟩
end
end Go.Proofs.Ytholjhdjlhkocaa

/- What layer 8's statement LiteralDouble does: a text between double quotes. No condition but that a text's length fits an int. -/
import Derived.Test.YtholjhdjlhkocaaLtEs
namespace Go.Proofs.Ytholjhdjlhkocaa
open Go.RowKit
set_option linter.unusedVariables false

/-- The bytes that mean something within double quotes. -/
def spB (b : Nat) : Bool := inB b ⟨#[36, 96, 34, 92]⟩
theorem spB_eq (n : Nat) : spB n = decide (n = 36 ∨ n = 96 ∨ n = 34 ∨ n = 92) := by
  rw [Bool.eq_iff_iff, decide_eq_true_iff]; simp [spB, inB]
/-- A double quote, and a text's first bytes, escaped. -/
def dE (t : ByteArray) : Nat → ByteArray
  | 0 => ⟨#[34]⟩
  | k + 1 => (if spB (by8 t k) = true then dE t k ++ ⟨#[92]⟩ else dE t k) ++ t.extract k (k + 1)
/-- Where a byte's escape begins. -/
def ps (t : ByteArray) : Nat → Nat
  | 0 => 1
  | k + 1 => ps t k + if spB (by8 t k) = true then 2 else 1
section
variable {t : ByteArray}
theorem ps_lt (k : Nat) : ps t k < ps t (k + 1) := by
  show _ < _ + _
  split <;> omega
theorem ps_mono {k m : Nat} (h : k ≤ m) : ps t k ≤ ps t m := by
  induction m with
  | zero => obtain rfl : k = 0 := by omega
            exact Nat.le_refl _
  | succ m ih =>
    rcases Nat.eq_or_lt_of_le h with e | e
    · subst e; exact Nat.le_refl _
    · exact Nat.le_trans (ih (by omega)) (Nat.le_of_lt (ps_lt m))
theorem ps_pos (k : Nat) : 1 ≤ ps t k := ps_mono (t := t) (Nat.zero_le k)
theorem ps_le : ∀ k, ps t k ≤ 2 * k + 1
  | 0 => Nat.le_refl _
  | k + 1 => by
    have := ps_le k
    show _ + _ ≤ _
    split <;> omega
theorem dE_size : ∀ {k : Nat}, k ≤ t.size → (dE t k).size = ps t k
  | 0, _ => rfl
  | k + 1, h => by
    have ih := dE_size (k := k) (by omega)
    have hx := ext_size (a := k) h
    unfold dE ps
    split
    · rw [ByteArray.size_append, ByteArray.size_append, ih, hx]
      show ps t k + 1 + _ = _
      omega
    · rw [ByteArray.size_append, ih, hx]
      omega
/-- A text that begins so. -/
def Beg (s t : ByteArray) (n : Nat) : Prop := ps t n ≤ s.size ∧ ∀ j, j < ps t n → by8 s j = by8 (dE t n) j
theorem Beg.less {s : ByteArray} {n : Nat} (h : Beg s t (n + 1)) (hn : n + 1 ≤ t.size) : Beg s t n := by
  have hl := ps_lt (t := t) n
  have hz := dE_size (t := t) (k := n) (by omega)
  have hz1 := dE_size (t := t) hn
  refine ⟨Nat.le_trans (Nat.le_of_lt hl) h.1, fun j hj => ?_⟩
  rw [h.2 j (by omega)]
  have hx := ext_size (a := n) hn
  rw [show dE t (n + 1) = (if spB (by8 t n) = true then dE t n ++ ⟨#[92]⟩ else dE t n) ++ t.extract n (n + 1) from rfl]
  split
  · rw [by8_append _ _ _ (by rw [ByteArray.size_append]; show j < _ + 1 + _; omega), if_pos (by rw [ByteArray.size_append]; show j < _ + 1; omega), by8_append _ _ _ (by show j < _ + 1; omega), if_pos (by omega)]
  · rw [by8_append _ _ _ (by omega), if_pos (by omega)]
theorem Beg.at {s : ByteArray} {n : Nat} (h : Beg s t (n + 1)) (hn : n + 1 ≤ t.size) : if spB (by8 t n) = true then by8 s (ps t n) = 92 ∧ by8 s (ps t n + 1) = by8 t n else by8 s (ps t n) = by8 t n := by
  have hl := ps_lt (t := t) n
  have hz := dE_size (t := t) (k := n) (by omega)
  have hx := ext_size (a := n) hn
  have e : ps t (n + 1) = ps t n + if spB (by8 t n) = true then 2 else 1 := rfl
  have e2 : dE t (n + 1) = (if spB (by8 t n) = true then dE t n ++ ⟨#[92]⟩ else dE t n) ++ t.extract n (n + 1) := rfl
  have h2 := h.2
  rw [e, e2] at h2
  by_cases hs : spB (by8 t n) = true
  · rw [if_pos hs] at h2 ⊢
    rw [if_pos hs] at h2
    have hz1 : (dE t n ++ ⟨#[92]⟩).size = ps t n + 1 := by rw [ByteArray.size_append, hz]; rfl
    constructor
    · rw [h2 _ (by omega), by8_append _ _ _ (by omega), if_pos (by omega), by8_append _ _ _ (by rw [hz]; show _ < ps t n + 1; omega), if_neg (by omega), hz, Nat.sub_self]
      rfl
    · rw [h2 _ (by omega), by8_append _ _ _ (by omega), if_neg (by omega), hz1, Nat.sub_self, by8_ext hn (by omega)]
      rfl
  · rw [if_neg hs] at h2 ⊢
    rw [if_neg hs] at h2
    rw [h2 _ (by omega), by8_append _ _ _ (by omega), if_neg (by omega), hz, Nat.sub_self, by8_ext hn (by omega)]
    rfl
theorem Beg.down {s : ByteArray} {n : Nat} (h : Beg s t n) (hn : n ≤ t.size) : ∀ {k : Nat}, k ≤ n → Beg s t k := by
  induction n with
  | zero => intro k hk; obtain rfl : k = 0 := by omega
            exact h
  | succ n ih =>
    intro k hk
    rcases Nat.eq_or_lt_of_le hk with e | e
    · subst e; exact h
    · exact ih (h.less hn) (by omega) (by omega)
theorem mv5 (b : Nat) (fr : Bool) : mv 5 b fr = if opn b ≠ 15 then (.push (opn b), fr) else if b = 34 then (.pop, fr) else (.keep, fr) := by
  unfold mv
  rw [if_neg (by decide), if_neg (by decide), if_neg (by decide), if_neg (by decide), if_neg (by decide)]
  by_cases h : opn b ≠ 15
  · rw [if_pos h, if_pos h]
  · rw [if_neg h, if_neg h, if_neg (by decide), if_pos (show (5 : Nat) = 5 from rfl)]
theorem db_step92 (p : Nat) : feed ⟨[(5, 0), (0, 0)], false⟩ 92 p = ⟨[(13, p), (5, 0), (0, 0)], false⟩ := by
  show plainF [(5, 0), (0, 0)] false 92 p = _
  unfold plainF fin
  simp only
  rw [mv5, if_pos (by decide)]
  rfl
theorem db_step13 (p q b : Nat) : feed ⟨[(13, p), (5, 0), (0, 0)], false⟩ b q = ⟨[(5, 0), (0, 0)], false⟩ := by
  show plainF [(13, p), (5, 0), (0, 0)] false b q = _
  unfold plainF fin
  simp only
  rw [mv13]
  have : (if b = 10 then false else false) = false := by split <;> rfl
  rw [this]
  rfl
theorem db_keep {b : Nat} (h : ¬ spB b = true) (p : Nat) : feed ⟨[(5, 0), (0, 0)], false⟩ b p = ⟨[(5, 0), (0, 0)], false⟩ := by
  rw [spB_eq, decide_eq_true_iff] at h
  show plainF [(5, 0), (0, 0)] false b p = _
  unfold plainF fin
  simp only
  have ho : opn b = 15 := by unfold opn; rw [if_neg (by omega), if_neg (by omega), if_neg (by omega)]
  rw [mv5, if_neg (by rw [ho]; decide), if_neg (by omega)]
  rfl
theorem db_run {s : ByteArray} {n : Nat} (h : Beg s t n) (hn : n ≤ t.size) : runK s (ps t n) = ⟨[(5, 0), (0, 0)], false⟩ := by
  induction n with
  | zero =>
    show runK s (0 + 1) = _
    have h0 : by8 s 0 = 34 := h.2 0 (by show 0 < 1; omega)
    rw [runK_succ, runK_zero, h0]
    rfl
  | succ n ih =>
    have h1 := h.at hn
    have ih := ih (h.less hn) (by omega)
    have e : ps t (n + 1) = ps t n + if spB (by8 t n) = true then 2 else 1 := rfl
    by_cases hs : spB (by8 t n) = true
    · rw [if_pos hs] at h1 e
      rw [e, show ps t n + 2 = ps t n + 1 + 1 by omega, runK_succ, runK_succ, ih, h1.1, db_step92, h1.2, db_step13]
    · rw [if_neg hs] at h1 e
      rw [e, runK_succ, ih, h1, db_keep hs]
theorem db_nt {s : ByteArray} {n : Nat} (h : Beg s t n) (hn : n ≤ t.size) : nt s (ps t n) = [(5, 0)] := nt_of (st := [(5, 0)]) (db_run h hn)
theorem db_esc {s : ByteArray} {n : Nat} (h : Beg s t (n + 1)) (hn : n + 1 ≤ t.size) (hs : spB (by8 t n) = true) : born s (ps t n) = true ∧ ∃ u, prt s (ps t n) = ⟨13, ps t n, ps t n + 2, u, false⟩ := by
  have h1 := h.at hn
  rw [if_pos hs] at h1
  have e : ps t (n + 1) = ps t n + 2 := by show _ + _ = _; rw [if_pos hs]
  have hsz := h.1
  have hr : runK s (ps t n + 1) = ⟨[(13, ps t n), (5, 0), (0, 0)], false⟩ := by
    rw [runK_succ, db_run (h.less hn) (by omega), h1.1, db_step92]
  have hnt := nt_of (st := [(13, ps t n), (5, 0)]) hr
  have hb := born_of hnt
  refine ⟨hb.1, upI s (ps t n), ?_⟩
  have hE : eK s (ps t n) s.size = ps t n + 1 := eK_eq (by omega) (by omega) (fun j h1 h2 => by
    obtain rfl : j = ps t n + 1 := by omega
    exact pres_at (A := []) hnt) (fun _ => by
    have := db_nt h hn
    rw [e] at this
    have hp := ps_pos (t := t) n
    have hne : ¬ 0 = ps t n := by omega
    unfold pres
    rw [show ps t n + 1 + 1 = ps t n + 2 by omega, this]
    simp
    omega)
  rw [prt_eq hb.1 (by omega), hE, hb.2.2]
  rw [if_neg (by decide), if_neg (by omega), decide_eq_false (by omega)]
  rfl
theorem db_no {s : ByteArray} {n : Nat} (h : Beg s t (n + 1)) (hn : n + 1 ≤ t.size) (hs : ¬ spB (by8 t n) = true) : born s (ps t n) = false := by
  have e : ps t (n + 1) = ps t n + 1 := by show _ + _ = _; rw [if_neg hs]
  have hnt := db_nt h hn
  rw [e] at hnt
  have hp := ps_pos (t := t) n
  exact born_no hnt (fun x hx => by
    have : x = (5, 0) := by simpa using hx
    subst this
    show 0 < _
    omega)
theorem t_step {k : Nat} (h : k + 1 ≤ t.size) : t.extract 0 k ++ t.extract k (k + 1) = t.extract 0 (k + 1) := by
  rw [ByteArray.extract_append_extract, Nat.min_eq_left (by omega), Nat.max_eq_right (by omega)]
theorem db_rm {s : ByteArray} {n : Nat} (h : Beg s t n) (hn : n ≤ t.size) : ∀ (d k : Nat), n - k = d → k ≤ n →
    Rm s true (subD s) (ps t n) (ps t k) (t.extract 0 k) true = [⟨false, true, t.extract 0 n⟩]
  | 0, k, hd, hk => by
    obtain rfl : k = n := by omega
    rw [Rm_end (by omega)]
    unfold fl
    rw [if_neg (by simp)]
  | d + 1, k, hd, hk => by
    have ih := db_rm h hn d (k + 1) (by omega) (by omega)
    have hB := h.down hn (k := k + 1) (by omega)
    have hk1 : k + 1 ≤ t.size := by omega
    have h1 := hB.at hk1
    have hlt := ps_lt (t := t) k
    have hle := ps_mono (t := t) (show k + 1 ≤ n by omega)
    have hB1 := hB.1
    by_cases hs : spB (by8 t k) = true
    · obtain ⟨hb, u, hp⟩ := db_esc hB hk1 hs
      rw [if_pos hs] at h1
      have e : ps t (k + 1) = ps t k + 2 := by show _ + _ = _; rw [if_pos hs]
      have h4 := hs
      rw [spB_eq, decide_eq_true_iff] at h4
      have hx : s.extract (ps t k + 1) (ps t k + 2) = t.extract k (k + 1) := by
        refine ext_one ?_ ?_ ?_
        · rw [ext_size (by omega)]; omega
        · rw [ext_size (by omega)]; omega
        · rw [by8_ext (by omega) (by omega), by8_ext (by omega) (by omega)]
          exact h1.2
      rw [Rm_self (t := t.extract k (k + 1)) h.1 (by omega) hb (by
        rw [hp]
        unfold itself
        dsimp only
        rw [if_neg (by decide), if_neg (by decide), if_pos (by decide), if_neg (by rw [h1.2]; omega), if_neg (by decide), if_pos (by rw [h1.2]; exact h4), hx]), t_step hk1, hp]
      show Rm s true (subD s) (ps t n) (ps t k + 2) _ true = _
      rw [← e]
      exact ih
    · have hb := db_no hB hk1 hs
      rw [if_neg hs] at h1
      have e : ps t (k + 1) = ps t k + 1 := by show _ + _ = _; rw [if_neg hs]
      have hx : s.extract (ps t k) (ps t k + 1) = t.extract k (k + 1) := by
        refine ext_one ?_ ?_ ?_
        · rw [ext_size (by omega)]; omega
        · rw [ext_size (by omega)]; omega
        · rw [by8_ext (by omega) (by omega), by8_ext (by omega) (by omega)]
          exact h1
      rw [Rm_plain h.1 (by omega) hb, hx, t_step hk1, ← e]
      exact ih
theorem db_DB {s : ByteArray} (h : Beg s t t.size) : DB s 1 (ps t t.size) = [⟨false, true, t⟩] := by
  have := db_rm h (Nat.le_refl _) t.size 0 rfl (Nat.zero_le _)
  rw [ByteArray.extract_zero_size] at this
  have e0 : t.extract 0 0 = ByteArray.empty := by
    have h1 : (t.extract 0 0).size = 0 := by simp
    exact ByteArray.ext (Array.eq_empty_of_size_eq_zero h1)
  rw [e0] at this
  exact this
theorem db_pcs {s : ByteArray} (h : Beg s t t.size) (hb0 : born s 0 = true) (hp : prt s 0 = ⟨5, 0, s.size, -1, decide (s.size = ps t t.size)⟩) (hz : s.size = ps t t.size ∨ s.size = ps t t.size + 1) : PCs s = [⟨false, true, t⟩] := by
  have h1 := ps_pos (t := t) t.size
  unfold PCs
  rw [Rm_sub (Nat.le_refl _) (by omega) hb0 (by rw [hp]; rfl), fl_empty, hp]
  rw [Rm_end (by show ¬ s.size < s.size; omega), fl_empty]
  have hs : subT s 0 = [⟨false, true, t⟩] := by
    unfold subT
    rw [hp]
    dsimp only
    rw [if_pos (by decide)]
    have hi : insT ⟨5, 0, s.size, -1, decide (s.size = ps t t.size)⟩ = ps t t.size := by
      unfold insT
      dsimp only
      have e1 : headM 5 = 1 := rfl
      have e2 : tailM 5 = 1 := rfl
      rw [e1, e2]
      rcases hz with e | e
      · by_cases hl : s.size ≤ 0 + 1
        · rw [if_pos hl]; omega
        · rw [if_neg hl, if_pos (decide_eq_true e)]; exact e
      · rw [if_neg (by omega), if_neg (by rw [decide_eq_true_iff]; omega), if_pos (by omega)]; omega
    rw [hi]
    exact db_DB h
  rw [hs]
  rfl
theorem db_open {s : ByteArray} (h : Beg s t t.size) (hz : s.size = ps t t.size) : PCs s = [⟨false, true, t⟩] := by
  have h1 := ps_pos (t := t) t.size
  have hn := db_nt h (Nat.le_refl _)
  have hpr := pres_at (A := []) hn
  have hb0 := born_of (db_nt (h.down (Nat.le_refl _) (Nat.zero_le _)) (Nat.zero_le _) : nt s (0 + 1) = [(5, 0)])
  have hE : eK s 0 s.size = s.size := eK_full (by rw [hz]; exact hpr)
  have hm : md s s.size 0 = 5 := by rw [hz]; exact md_at (A := []) hn
  refine db_pcs h hb0.1 ?_ (.inl hz)
  rw [prt_eq hb0.1 (by omega), hE, hm, if_neg (by decide), if_pos rfl]
  have hu : upI s 0 = -1 := by unfold upI; rw [hb0.2.1]
  rw [hu, decide_eq_true rfl, decide_eq_true hz]
  rfl
theorem db_shut {s : ByteArray} (h : Beg s t t.size) (hz : s.size = ps t t.size + 1) (hl : by8 s (ps t t.size) = 34) : PCs s = [⟨false, true, t⟩] := by
  have h1 := ps_pos (t := t) t.size
  have hn := db_nt h (Nat.le_refl _)
  have hpr := pres_at (A := []) hn
  have hb0 := born_of (db_nt (h.down (Nat.le_refl _) (Nat.zero_le _)) (Nat.zero_le _) : nt s (0 + 1) = [(5, 0)])
  have hr : runK s (ps t t.size + 1) = ⟨[(0, 0)], false⟩ := by
    rw [runK_succ, db_run h (Nat.le_refl _), hl]
    rfl
  have hn2 := nt_of (st := []) hr
  have hE : eK s 0 s.size = ps t t.size := eK_eq (Nat.zero_le _) (by omega) (fun j h1 h2 => (pres_all hpr).2 j h1 h2) (fun _ => by
    unfold pres
    rw [hn2]; rfl)
  have hm : md s (ps t t.size) 0 = 5 := md_at (A := []) hn
  refine db_pcs h hb0.1 ?_ (.inr hz)
  rw [prt_eq hb0.1 (by omega), hE, hm, if_neg (by decide), if_neg (by omega)]
  have hu : upI s 0 = -1 := by unfold upI; rw [hb0.2.1]
  rw [hu, decide_eq_false (by omega), decide_eq_false (by omega), hz]
  rfl
theorem beg_self : Beg (dE t t.size) t t.size := ⟨by rw [dE_size (Nat.le_refl _)]; exact Nat.le_refl _, fun j _ => rfl⟩
theorem beg_shut : Beg (dE t t.size ++ ⟨#[34]⟩) t t.size := by
  have hz := dE_size (Nat.le_refl t.size)
  refine ⟨by rw [ByteArray.size_append, hz]; omega, fun j hj => ?_⟩
  rw [by8_append _ _ _ (by rw [hz]; show j < _ + 1; omega), if_pos (by omega)]
theorem db_pcs1 : PCs (dE t t.size) = [⟨false, true, t⟩] := db_open beg_self (dE_size (Nat.le_refl _))
theorem db_pcs2 : PCs (dE t t.size ++ ⟨#[34]⟩) = [⟨false, true, t⟩] := by
  have hz := dE_size (Nat.le_refl t.size)
  refine db_shut beg_shut (by rw [ByteArray.size_append, hz]; rfl) ?_
  rw [by8_append _ _ _ (by rw [hz]; show _ < _ + 1; omega), if_neg (by omega), hz, Nat.sub_self]
  rfl
end
def DbR (t : ByteArray) (w : World) (v3 v4 : Value) (wr : World) : Prop := ∃ i : Nat, i ≤ t.size ∧ v3 = .string (dE t i) ∧ v4 = .int .i64 (i : Int) ∧ Below w.heap.size w wr
section
variable (w : World)
set_option maxRecDepth 100000 in
set_option maxHeartbeats 4000000 in
theorem literalDouble_law (t : ByteArray) (hmax : t.size ≤ 9223372036854775807) :
    Calls Try.prog 8 #[.string t] w fun e w' => e = .returned (.bool true) ∧ Below w.heap.size w w' := by
  by_cases hs : t.size ≤ 100
  · have hz : ¬ (100 : Int) < (t.size : Int) := by omega
    go_enter Try.func8, Try.ntmps8
    go_wp2_with fail
    refine (awake8_any _).mono ?_
    rintro e w0 ⟨rfl, hB0⟩
    go_wp2
    go_loopw [3, 4] (fun v3 v4 wr => DbR t w v3 v4 wr) (fun _ v4 _ => t.size - (intOf v4).toNat)
    case atStart => exact ⟨0, Nat.zero_le _, rfl, rfl, hB0⟩
    case round =>
      obtain ⟨i, hi, rfl, rfl, hBr⟩ := hrel
      by_cases hlt : (i : Int) < (t.size : Int)
      · have hlt' : i < t.size := by omega
        have q0 : (0 : Int) ≤ (i : Int) := by omega
        have q1 : (i : Int) + 1 ≤ (t.size : Int) := by omega
        have q2 : IntKind.i64.wrap ((i : Int) + 1) = (i : Int) + 1 := IntWalk.i64_in _ (by omega)
        have q3 : (i : Int) ≤ (i : Int) + 1 := by omega
        obtain ⟨bb, hbb⟩ : ∃ bb, by8 t i = bb := ⟨_, rfl⟩
        have hix : ∀ hh : i < t.size, (t[i]'hh).toNat = bb := fun hh => by rw [← hbb]; unfold by8; rw [bt_eq hh]
        have hin := fun W => in_any bb ⟨#[36, 96, 34, 92]⟩ W (by decide)
        have hse : dE t (i + 1) = (if spB bb = true then dE t i ++ ⟨#[92]⟩ else dE t i) ++ t.extract i (i + 1) := by rw [← hbb]; rfl
        obtain ⟨y, hy⟩ : ∃ y, spB bb = y := ⟨_, rfl⟩
        rw [hy] at hse
        have hy2 : inB bb ⟨#[36, 96, 34, 92]⟩ = y := hy
        rw [hy2] at hin
        obtain ⟨S, hS⟩ : ∃ S, dE t i = S := ⟨_, rfl⟩
        have hSz : S.size ≤ 2 * i + 1 := by rw [← hS, dE_size hi]; exact ps_le i
        have hTz := ext_size (s := t) (a := i) (b := i + 1) (by omega)
        obtain ⟨T, hT⟩ : ∃ T, t.extract i (i + 1) = T := ⟨_, rfl⟩
        obtain ⟨A, hA⟩ : ∃ A, S ++ (⟨#[92]⟩ : ByteArray) = A := ⟨_, rfl⟩
        rw [hT] at hTz
        have hTz : T.size = 1 := by omega
        have hAz : A.size ≤ 2 * i + 2 := by
          rw [← hA, ByteArray.size_append]
          show S.size + 1 ≤ _
          omega
        rw [hS] at hse ⊢
        rw [hA, hT] at hse
        have HSE := Lib.hid hse
        have HBB := Lib.hid hbb
        have HIN := Lib.hid hin
        clear hse hbb hS hy hy2 hin
        cases y with
        | true =>
          go_wp2_with fail
          refine (HIN.out _).mono ?_
          rintro e w3 ⟨rfl, rfl⟩
          go_wp2
          go_roundw
          case rel =>
            refine ⟨i + 1, by omega, ?_, by go_num, hBr⟩
            rw [HSE.out, if_pos trivial]
          case measure => simp [intOf]; omega
        | false =>
          go_wp2_with fail
          refine (HIN.out _).mono ?_
          rintro e w3 ⟨rfl, rfl⟩
          go_wp2
          go_roundw
          case rel =>
            refine ⟨i + 1, by omega, ?_, by go_num, hBr⟩
            rw [HSE.out, if_neg (by decide)]
          case measure => simp [intOf]; omega
      · obtain rfl : i = t.size := by omega
        have hpc1 := db_pcs1 (t := t)
        have hpc2 := db_pcs2 (t := t)
        have hz2 := dE_size (Nat.le_refl t.size)
        have hz3 := ps_le (t := t) t.size
        obtain ⟨S, hS⟩ : ∃ S, dE t t.size = S := ⟨_, rfl⟩
        rw [hS] at hpc1 hpc2 hz2 ⊢
        obtain ⟨A, hA⟩ : ∃ A, S ++ (⟨#[34]⟩ : ByteArray) = A := ⟨_, rfl⟩
        have hSz : S.size ≤ 201 := by omega
        have hAz : A.size ≤ 202 := by
          rw [← hA, ByteArray.size_append]
          show S.size + 1 ≤ _
          omega
        rw [hA] at hpc2
        have hv := fun W => value_any W A (by omega)
        have hw := fun W => value_any W S (by omega)
        unfold MeR at hv hw
        rw [hpc2] at hv
        rw [hpc1] at hw
        have hv1 : catW (fun x => x.t) [⟨false, true, t⟩] = t := by show t ++ ByteArray.empty = t; rw [ByteArray.append_empty]
        have hv2 : ∀ W, Calls Try.prog 18 #[.string A] W fun e w' => e = .returned (.tuple #[.string t, .bool true]) ∧ Below W.heap.size W w' := fun W => (hv W).mono (fun e w' h => ⟨by have := h.1; rw [hv1] at this; exact this, h.2⟩)
        have hw2 : ∀ W, Calls Try.prog 18 #[.string S] W fun e w' => e = .returned (.tuple #[.string t, .bool true]) ∧ Below W.heap.size W w' := fun W => (hw W).mono (fun e w' h => ⟨by have := h.1; rw [hv1] at this; exact this, h.2⟩)
        have HV := Lib.hid hv2
        have HW := Lib.hid hw2
        clear hv hv2 hw hw2 hpc1 hpc2 hz2 hz3 hS hv1
        go_wp2_with fail
        refine (HV.out _).mono ?_
        rintro e w3 ⟨rfl, hB3⟩
        go_wp2_with fail
        refine (HW.out _).mono ?_
        rintro e w5 ⟨rfl, hB5⟩
        have hB7 : Below w.heap.size w w5 := by
          have h2 := hBr.trans (hB3.mono hBr.size)
          exact h2.trans (hB5.mono h2.size)
        go_wp2
        go_ret
        exact ⟨rfl, hB7⟩
  · have hz : (100 : Int) < (t.size : Int) := by omega
    go_enter Try.func8, Try.ntmps8
    go_wp2_with fail
    refine (awake8_any _).mono ?_
    rintro e w0 ⟨rfl, hB0⟩
    go_wp2
    go_ret
    exact ⟨rfl, hB0⟩
end
end Go.Proofs.Ytholjhdjlhkocaa

/- The plain fact behind OperBack: operators that are written are read again. No condition: nothing here speaks of the program. -/
import Derived.Test.YtlfmpjneopeadaaDoorOpP
namespace Go.Proofs.YtlfmpjneopeadaaDoor
open Go.RowKit
set_option linter.unusedVariables false

theorem txt_no32 {k i : Nat} (hk : k ∈ ops) (hi : i < (txt k).size) : (bt (txt k) i).toNat ≠ 32 := by
  have : ∀ k ∈ ops, ∀ i, i < 3 → i < (txt k).size → (bt (txt k) i).toNat ≠ 32 := by decide +kernel
  exact this k hk i (by have := txt_le k; omega) hi
theorem txt_three {x y k : Nat} (hx : x ∈ ops) (hy : y ∈ ops) (hk : k ∈ ops) (h : (txt x).size + (txt y).size < (txt k).size) (ht : tightN x y = true) (h0 : bt (txt k) 0 = bt (txt x) 0) (h1 : bt (txt k) 1 = bt (txt y) 0) : False := by
  have : ∀ k ∈ ops, ∀ x ∈ ops, ∀ y ∈ ops, (txt x).size + (txt y).size < (txt k).size → bt (txt k) 0 = bt (txt x) 0 → bt (txt k) 1 = bt (txt y) 0 → tightN x y = false := by decide +kernel
  rw [this k hk x hx y hy h h0 h1] at ht
  cases ht
theorem size_one : (⟨#[32]⟩ : ByteArray).size = 1 := rfl
theorem size_none : (⟨#[]⟩ : ByteArray).size = 0 := rfl
theorem app_none (s : ByteArray) : s ++ (⟨#[]⟩ : ByteArray) = s := ByteArray.append_empty
theorem none_app (s : ByteArray) : (⟨#[]⟩ : ByteArray) ++ s = s := ByteArray.empty_append

/-- The operator that is written at a place is the longest that stands there. -/
theorem opN_wr {q : ByteArray} {x : Nat} {r : List Nat} (hx : x ∈ ops) (hr : ∀ y ∈ r, y ∈ ops) : opN (q ++ (txt x ++ wrF (some x) r)) q.size = x := by
  refine opN_eq (.inr ⟨hx, fits_of_bt (by simp) fun i hi => ?_, fun k hk hf => ?_⟩)
  · rw [bt_ar (by omega) (by simp; omega), Nat.add_sub_cancel_left, bt_al hi]
  · refine Nat.le_of_not_lt fun g => ?_
    have hb : ∀ i, i < (txt k).size → bt (txt x ++ wrF (some x) r) i = bt (txt k) i := fun i hi => by
      have hz := hf.1
      have e := fits_bt hf i hi
      rw [bt_ar (by omega) (by rw [ByteArray.size_append] at hz; omega), Nat.add_sub_cancel_left] at e
      exact e
    have hz : (txt k).size ≤ (txt x ++ wrF (some x) r).size := by have := hf.1; simp at this ⊢; omega
    cases r with
    | nil =>
      unfold wrF at hz
      rw [app_none] at hz
      omega
    | cons y r =>
      have hy := hr y (by simp)
      have hy1 := txt_size_in hy
      have hx1 := txt_size_in hx
      unfold wrF at hb hz
      unfold sepB at hb hz
      by_cases ht : tightN x y = true
      · simp only [if_pos ht, none_app] at hb hz
        have e2 := hb 1
        by_cases hle : (txt k).size ≤ (txt x).size + (txt y).size
        · have hfit : fits (txt x ++ txt y) 0 (txt k) := fits_of_bt (by simp; omega) fun i hi => by
            rw [← hb i hi, Nat.zero_add]
            by_cases h : i < (txt x).size
            · rw [bt_al h, bt_al h]
            · rw [bt_ar (by omega) (by omega), bt_ar (by omega) (by simp; omega), bt_al (by omega)]
          have hN : opN (txt x ++ txt y) 0 = x := by
            unfold tightN at ht
            rw [decide_eq_true_iff] at ht
            exact ht.2.2
          rcases opN_is (txt x ++ txt y) 0 with ⟨h0, _⟩ | ⟨_, _, hm⟩
          · have := (mem_ops.1 hx).1; omega
          · have := hm k hk hfit
            rw [hN] at this
            omega
        · have e0 := hb 0 (by omega)
          have e1 := hb (txt x).size (by omega)
          rw [bt_al (by omega)] at e0
          rw [bt_ar (Nat.le_refl _) (by simp; omega), Nat.sub_self, bt_al (by omega)] at e1
          have hk3 := txt_le k
          have : (txt x).size = 1 := by omega
          rw [this] at e1
          exact txt_three hx hy hk (by omega) ht e0.symm e1.symm
      · simp only [if_neg ht] at hb hz
        have e1 := hb (txt x).size (by omega)
        rw [bt_ar (Nat.le_refl _) (by simp; rw [size_one]; omega), Nat.sub_self, bt_al (by simp; rw [size_one]; omega), bt_al (by rw [size_one]; omega)] at e1
        exact txt_no32 hk g (by rw [← e1]; rfl)

/-- What is written is read again. -/
theorem spl_wr : ∀ (l : List Nat) (p : Option Nat) (q : ByteArray), (∀ x ∈ l, x ∈ ops) → spl (q ++ wrF p l) q.size = (l, -1)
  | [], p, q, _ => by
    unfold wrF
    rw [app_none]
    exact spl_end (Nat.le_refl _)
  | x :: r, p, q, h => by
    have hx := h x (by simp)
    have hr : ∀ y ∈ r, y ∈ ops := fun y hy => h y (by simp [hy])
    have hx1 := txt_size_in hx
    have main : ∀ q' : ByteArray, spl (q' ++ (txt x ++ wrF (some x) r)) q'.size = (x :: r, -1) := fun q' => by
      rw [spl_op (by simp; omega) (opN_wr hx hr) (by have := (mem_ops.1 hx).1; omega)]
      have ih := spl_wr r (some x) (q' ++ txt x) hr
      rw [ByteArray.append_assoc, ByteArray.size_append] at ih
      rw [ih]
    unfold wrF
    have e : q ++ (sepB p x ++ txt x ++ wrF (some x) r) = (q ++ sepB p x) ++ (txt x ++ wrF (some x) r) := by
      simp only [ByteArray.append_assoc]
    have hm := main (q ++ sepB p x)
    rw [← e] at hm
    have hs : sepB p x = ⟨#[]⟩ ∨ sepB p x = ⟨#[32]⟩ := by
      unfold sepB
      split
      · exact .inl rfl
      · split
        · exact .inl rfl
        · exact .inr rfl
    rcases hs with hs | hs
    · rw [hs, app_none] at hm
      rw [hs]
      exact hm
    · rw [hs] at hm ⊢
      rw [ByteArray.size_append, size_one] at hm
      rw [← hm]
      have hb : cl (q ++ (⟨#[32]⟩ ++ txt x ++ wrF (some x) r)) q.size = 1 := by
        unfold cl
        rw [bt_ar (Nat.le_refl _) (by simp; rw [size_one]; omega), Nat.sub_self, bt_al (by simp; rw [size_one]; omega), bt_al (by rw [size_one]; omega)]
        rfl
      exact spl_blank (by simp; rw [size_one]; omega) (opN_blank hb) hb
theorem spl_back (l : List Nat) (h : ∀ x ∈ l, x ∈ ops) : spl (wrF none l) 0 = (l, -1) := by
  have := spl_wr l none ⟨#[]⟩ h
  rwa [none_app, size_none] at this

def lastOr (p : Option Nat) : List Nat → Option Nat
  | [] => p
  | x :: r => lastOr (some x) r
/-- One operator more is written. -/
theorem wrF_snoc (x : Nat) : ∀ (l : List Nat) (p : Option Nat), wrF p (l ++ [x]) = wrF p l ++ sepB (lastOr p l) x ++ txt x
  | [], p => by
    show sepB p x ++ txt x ++ wrF (some x) [] = wrF p [] ++ sepB p x ++ txt x
    unfold wrF
    rw [app_none, none_app]
  | y :: r, p => by
    show sepB p y ++ txt y ++ wrF (some y) (r ++ [x]) = sepB p y ++ txt y ++ wrF (some y) r ++ sepB (lastOr (some y) r) x ++ txt x
    rw [wrF_snoc x r (some y)]
    simp only [ByteArray.append_assoc]
theorem lastOr_snoc (x : Nat) : ∀ (l : List Nat) (p : Option Nat), lastOr p (l ++ [x]) = some x
  | [], _ => rfl
  | y :: r, _ => lastOr_snoc x r (some y)
theorem wr_take0 (l : List Nat) : wrF none (l.take 0) = ⟨#[]⟩ := by rw [List.take_zero]; rfl
theorem wr_first {l : List Nat} {x : Nat} (h : l[0]? = some x) : wrF none (l.take 1) = txt x := by
  cases l with
  | nil => simp at h
  | cons y r =>
    have : y = x := by simpa using h
    subst this
    show sepB none y ++ txt y ++ wrF (some y) [] = txt y
    unfold wrF sepB
    rw [app_none, none_app]
theorem wr_next {l : List Nat} {i x y : Nat} (hx : l[i]? = some x) (hy : l[i + 1]? = some y) : wrF none (l.take (i + 2)) = wrF none (l.take (i + 1)) ++ sepB (some x) y ++ txt y := by
  have h1 : l.take (i + 2) = l.take (i + 1) ++ [y] := by rw [List.take_add_one, hy]; rfl
  have h2 : l.take (i + 1) = l.take i ++ [x] := by rw [List.take_add_one, hx]; rfl
  rw [h1, wrF_snoc, h2, lastOr_snoc]
theorem wr_size : ∀ (l : List Nat) (p : Option Nat), (wrF p l).size ≤ 4 * l.length
  | [], p => by unfold wrF; rw [size_none]; omega
  | x :: r, p => by
    have h := wr_size r (some x)
    have ht := txt_le x
    have hs : (sepB p x).size ≤ 1 := by
      unfold sepB
      split
      · rw [size_none]; omega
      · split
        · rw [size_none]; omega
        · rw [size_one]; omega
    unfold wrF
    simp
    omega
end Go.Proofs.YtlfmpjneopeadaaDoor

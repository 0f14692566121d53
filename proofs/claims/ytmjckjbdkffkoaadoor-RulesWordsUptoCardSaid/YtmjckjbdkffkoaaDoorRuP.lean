/- The grammar's signs and rows, plainly: a leaf's sign, a node's row, the nodes right below one. No condition: nothing here speaks of the program. -/
import Derived.Test.YtmjckjbdkffkoaaDoorOpP
import Derived.Test.YtmjckjbdkffkoaaDoorTrP
import Derived.Test.YtmjckjbdkffkoaaDoorClS
namespace Go.Proofs.YtmjckjbdkffkoaaDoor
open Go.RowKit
set_option linter.unusedVariables false

/-- A leaf: its kind, its text, where it stands. -/
structure Lf where
  k : Int
  s : ByteArray
  f : Int
  t : Int
/-- An operator's sign, a Word's, a leaf's. -/
def opS (op : Nat) : Nat := [63, 97, 111, 121, 60, 60, 60, 60, 60, 60, 60, 60, 60, 38, 59, 124, 40, 41].getD op 63
def wdL : List (List UInt8 × Nat) := [([33], 33), ([123], 123), ([125], 125), ([105, 102], 105), ([116, 104, 101, 110], 116), ([101, 108, 105, 102], 101), ([101, 108, 115, 101], 108), ([102, 105], 102), ([119, 104, 105, 108, 101], 119), ([117, 110, 116, 105, 108], 119), ([100, 111], 100), ([100, 111, 110, 101], 103), ([102, 111, 114], 114), ([105, 110], 107), ([99, 97, 115, 101], 99), ([101, 115, 97, 99], 122)]
def wdS (s : ByteArray) : Nat := ((wdL.find? fun p => s.data.toList == p.1).map (·.2)).getD 120
def sgn (k : Int) (s : ByteArray) : Nat := if k = 2 then 110 else if k = 4 then opS (ofN s) else if k = 5 then 35 else if k = 6 then wdS s else 63
theorem opS_lt (op : Nat) : opS op < 256 := by
  by_cases h : op < 18
  · have : ∀ k, k < 18 → opS k < 256 := by decide
    exact this op h
  · unfold opS
    rw [List.getD_eq_getElem?_getD, List.getElem?_eq_none (by simpa using h)]
    decide
theorem wdS_lt (s : ByteArray) : wdS s < 256 := by
  unfold wdS
  cases h : wdL.find? (fun p => s.data.toList == p.1) with
  | none => decide
  | some p =>
    have hm := List.mem_of_find?_eq_some h
    have : ∀ p ∈ wdL, p.2 < 256 := by decide
    exact this p hm
theorem sgn_lt (k : Int) (s : ByteArray) : sgn k s < 256 := by
  unfold sgn
  split
  · decide
  · split
    · exact opS_lt _
    · split
      · decide
      · split
        · exact wdS_lt s
        · decide
/-- A Kind's letter. -/
def letN (k : Int) : Nat := [80, 76, 65, 73, 83, 88, 87, 82, 66, 85, 70, 72, 79, 67, 84, 78, 69, 77].getD (k - 1).toNat 63
/-- So many signs from a leaf on. -/
def segP (sg : Nat → Nat) (a : Nat) : Nat → List Nat
  | 0 => []
  | d + 1 => sg a :: segP sg (a + 1) d
theorem segP_snoc (sg : Nat → Nat) : ∀ (d a : Nat), segP sg a (d + 1) = segP sg a d ++ [sg (a + d)]
  | 0, a => rfl
  | d + 1, a => by
    show sg a :: segP sg (a + 1) (d + 1) = sg a :: segP sg (a + 1) d ++ [sg (a + (d + 1))]
    rw [segP_snoc sg d (a + 1), show a + 1 + d = a + (d + 1) from by omega]
    rfl
theorem segP_split (sg : Nat → Nat) : ∀ (k d a : Nat), k < d → segP sg a d = segP sg a k ++ sg (a + k) :: segP sg (a + k + 1) (d - k - 1)
  | 0, d + 1, a, _ => by simp [segP]
  | k + 1, d + 1, a, h => by
    show sg a :: segP sg (a + 1) d = sg a :: segP sg (a + 1) k ++ _
    rw [segP_split sg k d (a + 1) (by omega)]
    show sg a :: (segP sg (a + 1) k ++ sg (a + 1 + k) :: segP sg (a + 1 + k + 1) (d - k - 1)) = _
    rw [show a + 1 + k = a + (k + 1) from by omega, show d + 1 - (k + 1) - 1 = d - k - 1 from by omega]
    rfl
theorem segP_len (sg : Nat → Nat) : ∀ (d a : Nat), (segP sg a d).length = d
  | 0, _ => rfl
  | d + 1, a => by show (segP sg (a + 1) d).length + 1 = d + 1; rw [segP_len]
/-- A node's row: of its kids, from a leaf on, up to its end. -/
def rowP (sg : Nat → Nat) (nv : Nat → Nd) : List Nat → Nat → Nat → List Nat
  | [], a, e => segP sg a (e - a)
  | k :: ks, a, e => segP sg a ((nv k).f.toNat - a) ++ letN (nv k).k :: rowP sg nv ks (nv k).t.toNat e
/-- Kids lie in their order, within these leaves. -/
def KdOk (nv : Nat → Nd) : List Nat → Nat → Nat → Prop
  | [], a, e => a ≤ e
  | k :: ks, a, e => 1 ≤ (nv k).k ∧ (nv k).k ≤ 18 ∧ (a : Int) ≤ (nv k).f ∧ (nv k).f ≤ (nv k).t ∧ (nv k).t ≤ (e : Int) ∧ KdOk nv ks (nv k).t.toNat e
/-- The first node from one on, ahead of an end, that hangs on u; 0: there is none. -/
def fstF (nv : Nat → Nd) (u : Int) : Nat → Nat → Nat
  | 0, _ => 0
  | f + 1, a => if (nv a).u = u then a else fstF nv u f (a + 1)
def fstK (nv : Nat → Nd) (n : Nat) (u : Int) (a : Nat) : Nat := fstF nv u (n - a) a
theorem fstK_end (nv : Nat → Nd) {n a : Nat} (u : Int) (h : n ≤ a) : fstK nv n u a = 0 := by unfold fstK; rw [Nat.sub_eq_zero_of_le h]; rfl
theorem fstK_step (nv : Nat → Nd) {n a : Nat} (u : Int) (h : a < n) : fstK nv n u a = if (nv a).u = u then a else fstK nv n u (a + 1) := by
  unfold fstK
  rw [show n - a = (n - (a + 1)) + 1 from by omega]
  rfl
/-- All of them, in their order. -/
def kidF (nv : Nat → Nd) (u : Int) : Nat → Nat → List Nat
  | 0, _ => []
  | f + 1, a => if (nv a).u = u then a :: kidF nv u f (a + 1) else kidF nv u f (a + 1)
def kidK (nv : Nat → Nd) (n : Nat) (u : Int) (a : Nat) : List Nat := kidF nv u (n - a) a
theorem kidK_end (nv : Nat → Nd) {n a : Nat} (u : Int) (h : n ≤ a) : kidK nv n u a = [] := by unfold kidK; rw [Nat.sub_eq_zero_of_le h]; rfl
theorem kidK_step (nv : Nat → Nd) {n a : Nat} (u : Int) (h : a < n) : kidK nv n u a = if (nv a).u = u then a :: kidK nv n u (a + 1) else kidK nv n u (a + 1) := by
  unfold kidK
  rw [show n - a = (n - (a + 1)) + 1 from by omega]
  rfl
theorem kid_fst (nv : Nat → Nd) (n : Nat) (u : Int) : ∀ (f a : Nat), n - a = f → 0 < a → (kidK nv n u a = [] ∧ fstK nv n u a = 0) ∨ (kidK nv n u a = fstK nv n u a :: kidK nv n u (fstK nv n u a + 1) ∧ a ≤ fstK nv n u a ∧ fstK nv n u a < n ∧ (nv (fstK nv n u a)).u = u)
  | 0, a, h, h0 => .inl ⟨kidK_end nv u (by omega), fstK_end nv u (by omega)⟩
  | f + 1, a, h, h0 => by
    have hlt : a < n := by omega
    rw [kidK_step nv u hlt, fstK_step nv u hlt]
    by_cases hu : (nv a).u = u
    · rw [if_pos hu, if_pos hu]
      exact .inr ⟨rfl, Nat.le_refl _, hlt, hu⟩
    · rw [if_neg hu, if_neg hu]
      rcases kid_fst nv n u f (a + 1) (by omega) (by omega) with ⟨h1, h2⟩ | ⟨h1, h2, h3, h4⟩
      · exact .inl ⟨h1, h2⟩
      · exact .inr ⟨h1, by omega, h3, h4⟩
theorem kidK_len (nv : Nat → Nd) (n : Nat) (u : Int) : ∀ (f a : Nat), n - a = f → (kidK nv n u a).length ≤ f
  | 0, a, h => by rw [kidK_end nv u (by omega)]; exact Nat.le_refl _
  | f + 1, a, h => by
    rw [kidK_step nv u (by omega)]
    have := kidK_len nv n u f (a + 1) (by omega)
    split
    · show (kidK nv n u (a + 1)).length + 1 ≤ f + 1
      omega
    · omega
theorem kidK_mem {nv : Nat → Nd} {n : Nat} {u : Int} {k : Nat} : ∀ (f a : Nat), n - a = f → (k ∈ kidK nv n u a ↔ a ≤ k ∧ k < n ∧ (nv k).u = u)
  | 0, a, h => by
    rw [kidK_end nv u (by omega)]
    constructor
    · intro h; cases h
    · rintro ⟨h1, h2, _⟩; omega
  | f + 1, a, h => by
    rw [kidK_step nv u (by omega)]
    have ih := kidK_mem (nv := nv) (n := n) (u := u) (k := k) f (a + 1) (by omega)
    by_cases hu : (nv a).u = u
    · rw [if_pos hu, List.mem_cons, ih]
      constructor
      · rintro (rfl | ⟨h1, h2, h3⟩)
        · exact ⟨Nat.le_refl _, by omega, hu⟩
        · exact ⟨by omega, h2, h3⟩
      · rintro ⟨h1, h2, h3⟩
        rcases Nat.eq_or_lt_of_le h1 with e | e
        · exact .inl e.symm
        · exact .inr ⟨by omega, h2, h3⟩
    · rw [if_neg hu, ih]
      constructor
      · rintro ⟨h1, h2, h3⟩; exact ⟨by omega, h2, h3⟩
      · rintro ⟨h1, h2, h3⟩
        rcases Nat.eq_or_lt_of_le h1 with e | e
        · subst e; exact absurd h3 hu
        · exact ⟨by omega, h2, h3⟩
/-- Of a right tree the kids lie in their order. -/
theorem kid_ok {nv : Nat → Nd} {n : Nat} {lv : Int} (h : Rt nv n lv) {i : Nat} (hi : i < n) : ∀ (f a at' : Nat), n - a = f → 0 < a → (at' : Int) ≤ (nv i).t → ((nv i).f : Int) ≤ at' → (∀ k, a ≤ k → k < n → (nv k).u = (i : Int) → (at' : Int) ≤ (nv k).f) → KdOk nv (kidK nv n i a) at' (nv i).t.toNat
  | 0, a, at', ha, _, h1, _, _ => by
    rw [kidK_end nv i (by omega)]
    show at' ≤ (nv i).t.toNat
    omega
  | f + 1, a, at', ha, h0, h1, h2, h3 => by
    rw [kidK_step nv i (by omega)]
    by_cases hu : (nv a).u = (i : Int)
    · rw [if_pos hu]
      obtain ⟨u, e, l, _, g1, g2, g3⟩ := (h.ok a (by omega)).hang h0
      obtain rfl : u = i := by omega
      have hk := h.ok a (by omega)
      have hf := h3 a (Nat.le_refl _) (by omega) hu
      have hft := hk.ft
      have h4 : ((nv a).t.toNat : Int) = (nv a).t := by omega
      refine ⟨hk.k1, hk.k2, hf, hft, by omega, kid_ok h hi f (a + 1) _ (by omega) (by omega) (by omega) (by omega) (fun k hk1 hk2 hk3 => ?_)⟩
      obtain ⟨u', e', l', _, _, _, g3'⟩ := (h.ok k hk2).hang (by omega)
      obtain rfl : u' = u := by omega
      have := g3' a h0 (by omega) hu
      omega
    · rw [if_neg hu]
      exact kid_ok h hi f (a + 1) at' (by omega) (by omega) h1 h2 (fun k hk1 hk2 hk3 => h3 k (by omega) hk2 hk3)
end Go.Proofs.YtmjckjbdkffkoaaDoor

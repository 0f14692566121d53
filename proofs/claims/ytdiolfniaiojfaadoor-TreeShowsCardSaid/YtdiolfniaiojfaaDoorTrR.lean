/- The text of a tree, as it is read, plainly: how long a number is, what a node's text is, and to what a whole text leads. No condition: nothing here speaks of the program. -/
import Derived.Lib.Bytealg
import Derived.Test.YtdiolfniaiojfaaDoorTrM
import Derived.Test.YtdiolfniaiojfaaDoorClP
namespace Go.Proofs.YtdiolfniaiojfaaDoor
open Go.RowKit
set_option linter.unusedVariables false

def letB : ByteArray := ⟨#[80, 76, 65, 73, 83, 88, 87, 82, 66, 85, 70, 72, 79, 67, 84, 78, 69, 77]⟩
def letL : ByteArray := ⟨#[63, 80, 76, 65, 73, 83, 88, 87, 82, 66, 85, 70, 72, 79, 67, 84, 78, 69, 77]⟩
/-- The kind whose letter a byte is; 0: it is none. -/
def letK (c : Nat) : Nat := (Lib.indexByte letB.data.toList c.toUInt8 + 1).toNat
theorem letK_facts : ∀ c, c < 256 → (letK c ≤ 18 ∧ (Lib.indexByte letB.data.toList c.toUInt8 + 1 = (letK c : Int)) ∧ (decide (letK c = 0) = (decide (c = 63) || !inB c letL)) ∧ (letK c ≠ 0 → (bt letL (letK c)).toNat = c) ∧ ∀ j, j < letK c → (bt letL j).toNat ≠ c) := by decide +kernel
theorem letK_le {c : Nat} (h : c < 256) : letK c ≤ 18 := (letK_facts c h).1

theorem bt_lt {s : ByteArray} {i : Nat} (h : (bt s i).toNat ≠ 0) : i < s.size := by
  rcases Nat.lt_or_ge i s.size with g | g
  · exact g
  · unfold bt at h; rw [dif_neg (by omega)] at h; exact absurd rfl h
theorem bt_out {s : ByteArray} {i : Nat} (h : s.size ≤ i) : (bt s i).toNat = 0 := by unfold bt; rw [dif_neg (by omega)]; rfl
theorem bt_256 (s : ByteArray) (i : Nat) : (bt s i).toNat < 256 := UInt8.toNat_lt _

/-- A digit stands there. -/
def dg (s : ByteArray) (i : Nat) : Bool := decide (48 ≤ (bt s i).toNat ∧ (bt s i).toNat ≤ 57)
theorem dg_lt {s : ByteArray} {i : Nat} (h : dg s i = true) : i < s.size := by
  unfold dg at h
  rw [decide_eq_true_iff] at h
  exact bt_lt (by omega)
/-- A number that begins at a goes on behind k digits. -/
def cont (s : ByteArray) (a k : Nat) : Bool := dg s (a + k) && decide (k ≠ 7) && (decide (k = 0) || decide ((bt s a).toNat ≠ 48))
def nlF (s : ByteArray) (a : Nat) : Nat → Nat → Nat
  | k, 0 => k
  | k, f + 1 => if cont s a k then nlF s a (k + 1) f else k
/-- How many digits a number has that begins at a. -/
def nlen (s : ByteArray) (a : Nat) : Nat := nlF s a 0 8
theorem nlF_is (s : ByteArray) (a : Nat) : ∀ f k, k + f = 8 → (∀ j, j < k → cont s a j = true) → (∀ j, j < nlF s a k f → cont s a j = true) ∧ cont s a (nlF s a k f) = false := by
  intro f
  induction f with
  | zero =>
    intro k hk h
    obtain rfl : k = 8 := by omega
    have := h 7 (by omega)
    simp [cont] at this
  | succ f ih =>
    intro k hk h
    unfold nlF
    split
    · rename_i hc
      refine ih (k + 1) (by omega) (fun j hj => ?_)
      rcases Nat.lt_or_ge j k with g | g
      · exact h j g
      · obtain rfl : j = k := by omega
        exact hc
    · rename_i hc
      exact ⟨h, by simpa using hc⟩
theorem nlen_go {s : ByteArray} {a j : Nat} (h : j < nlen s a) : cont s a j = true := (nlF_is s a 8 0 rfl (fun j h => by omega)).1 j h
theorem nlen_end (s : ByteArray) (a : Nat) : cont s a (nlen s a) = false := (nlF_is s a 8 0 rfl (fun j h => by omega)).2
theorem nlen_of {s : ByteArray} {a k : Nat} (h : ∀ j, j < k → cont s a j = true) (hk : cont s a k = false) : nlen s a = k := by
  rcases Nat.lt_trichotomy (nlen s a) k with g | g | g
  · have := h _ g; rw [nlen_end] at this; cases this
  · exact g
  · have := nlen_go g; rw [hk] at this; cases this
theorem cont_dg {s : ByteArray} {a k : Nat} (h : cont s a k = true) : dg s (a + k) = true ∧ k ≠ 7 ∧ (k = 0 ∨ (bt s a).toNat ≠ 48) := by
  unfold cont at h
  simp only [Bool.and_eq_true, Bool.or_eq_true, decide_eq_true_iff] at h
  exact ⟨h.1.1, h.1.2, h.2⟩
theorem cont_mk {s : ByteArray} {a k : Nat} (h1 : dg s (a + k) = true) (h2 : k ≠ 7) (h3 : k = 0 ∨ (bt s a).toNat ≠ 48) : cont s a k = true := by
  unfold cont
  simp only [Bool.and_eq_true, Bool.or_eq_true, decide_eq_true_iff]
  exact ⟨⟨h1, h2⟩, h3⟩
theorem cont_no {s : ByteArray} {a k : Nat} (h : dg s (a + k) = false ∨ k = 7 ∨ (k ≠ 0 ∧ (bt s a).toNat = 48)) : cont s a k = false := by
  rcases hc : cont s a k with _ | _
  · rfl
  · obtain ⟨g1, g2, g3⟩ := cont_dg hc
    rcases h with h | h | h
    · rw [h] at g1; cases g1
    · exact absurd h g2
    · rcases g3 with g3 | g3
      · exact absurd g3 h.1
      · exact absurd h.2 g3
theorem cont_lt {s : ByteArray} {a k : Nat} (h : ∀ j, j < k → cont s a j = true) : k ≤ 7 := by
  rcases Nat.lt_or_ge 7 k with g | g
  · exact absurd rfl (cont_dg (h 7 g)).2.1
  · exact g
theorem nlen_le (s : ByteArray) (a : Nat) : nlen s a ≤ 7 := cont_lt (fun j h => nlen_go h)
theorem nlen_size (s : ByteArray) (a : Nat) (h : nlen s a ≠ 0) : a + nlen s a ≤ s.size := by
  have := dg_lt (cont_dg (nlen_go (s := s) (a := a) (j := nlen s a - 1) (by omega))).1
  omega
/-- The first k digits' number. -/
def nval (s : ByteArray) (a : Nat) : Nat → Nat
  | 0 => 0
  | k + 1 => nval s a k * 10 + ((bt s (a + k)).toNat - 48)
theorem nval_lt {s : ByteArray} {a : Nat} : ∀ k, (∀ j, j < k → cont s a j = true) → nval s a k < 10 ^ k := by
  intro k
  induction k with
  | zero => intro _; simp [nval]
  | succ k ih =>
    intro h
    have h1 := ih (fun j hj => h j (by omega))
    have h2 := (cont_dg (h k (by omega))).1
    unfold dg at h2
    rw [decide_eq_true_iff] at h2
    unfold nval
    rw [Nat.pow_succ]
    omega
theorem nval_7 {s : ByteArray} {a : Nat} {k : Nat} (h : ∀ j, j < k → cont s a j = true) : nval s a k < 10000000 := by
  have h1 := nval_lt k h
  have h2 := cont_lt h
  have h3 : (10 : Nat) ^ k ≤ 10 ^ 7 := Nat.pow_le_pow_right (by decide) h2
  omega
theorem nval_0 {s : ByteArray} {a : Nat} : ∀ k, (∀ j, j < k → cont s a j = true) → 0 < k → (nval s a k = 0 ↔ (bt s a).toNat = 48) := by
  intro k
  induction k with
  | zero => intro _ h; omega
  | succ k ih =>
    intro h _
    have h2 := (cont_dg (h k (by omega))).1
    unfold dg at h2
    rw [decide_eq_true_iff] at h2
    rcases Nat.eq_zero_or_pos k with rfl | h0
    · simp only [nval, Nat.zero_mul, Nat.zero_add, Nat.add_zero] at h2 ⊢
      omega
    · have h3 := ih (fun j hj => h j (by omega)) h0
      have h4 : (bt s a).toNat ≠ 48 := by
        rcases (cont_dg (h k (by omega))).2.2 with g | g
        · omega
        · exact g
      unfold nval
      constructor
      · intro g
        have : nval s a k = 0 := by omega
        exact absurd (h3.1 this) h4
      · intro g; exact absurd g h4

/-- A node's text stands at a: the node, and the place behind it. -/
structure NdOk (s : ByteArray) (a : Nat) (up : Int) (x : Nd) (e : Nat) : Prop where
  l1 : letK (bt s a).toNat ≠ 0
  n1 : nlen s (a + 1) ≠ 0
  b1 : (bt s (a + 1 + nlen s (a + 1))).toNat = 45
  n2 : nlen s (a + 1 + nlen s (a + 1) + 1) ≠ 0
  ee : e = a + 1 + nlen s (a + 1) + 1 + nlen s (a + 1 + nlen s (a + 1) + 1)
  xx : x = ⟨letK (bt s a).toNat, nval s (a + 1) (nlen s (a + 1)), nval s (a + 1 + nlen s (a + 1) + 1) (nlen s (a + 1 + nlen s (a + 1) + 1)), up⟩
/-- None stands there: the first place that can't be. -/
def NdBad (s : ByteArray) (a p : Nat) : Prop :=
  (letK (bt s a).toNat = 0 ∧ p = a) ∨
  (letK (bt s a).toNat ≠ 0 ∧ (nlen s (a + 1) = 0 ∨ (bt s (a + 1 + nlen s (a + 1))).toNat ≠ 45) ∧ p = a + 1 + nlen s (a + 1)) ∨
  (letK (bt s a).toNat ≠ 0 ∧ nlen s (a + 1) ≠ 0 ∧ (bt s (a + 1 + nlen s (a + 1))).toNat = 45 ∧ nlen s (a + 1 + nlen s (a + 1) + 1) = 0 ∧ p = a + 1 + nlen s (a + 1) + 1)
theorem NdBad.one {s : ByteArray} {a p q : Nat} (h : NdBad s a p) (g : NdBad s a q) : p = q := by
  rcases h with ⟨h1, h2⟩ | ⟨h1, h3, h2⟩ | ⟨h1, h3, h4, h5, h2⟩ <;> rcases g with ⟨g1, g2⟩ | ⟨g1, g3, g2⟩ | ⟨g1, g3, g4, g5, g2⟩ <;> omega
theorem NdBad.not {s : ByteArray} {a p e : Nat} {u : Int} {x : Nd} (h : NdBad s a p) (g : NdOk s a u x e) : False := by
  obtain ⟨l1, n1, b1, n2, _, _⟩ := g
  rcases h with ⟨h1, h2⟩ | ⟨h1, h3, h2⟩ | ⟨h1, h3, h4, h5, h2⟩
  · exact l1 h1
  · rcases h3 with h3 | h3
    · exact n1 h3
    · exact h3 b1
  · exact n2 h5
theorem NdOk.lt {s : ByteArray} {a e : Nat} {u : Int} {x : Nd} (g : NdOk s a u x e) : a + 4 ≤ e ∧ e ≤ s.size := by
  obtain ⟨l1, n1, b1, n2, ee, _⟩ := g
  have h2 := nlen_size s _ n2
  omega

/-- To what a text leads from a place on: behind the nodes L, within the brackets of the node up; true: a node is to come. What it leads to: the nodes and -1, or the first place that can't be. -/
inductive Fm (s : ByteArray) : Bool → Nat → Int → List Nd → List Nd × Int → Prop
  | bad {a : Nat} {up : Int} {L : List Nd} {p : Nat} : NdBad s a p → Fm s true a up L ([], (p : Int))
  | opn {a : Nat} {up : Int} {L : List Nd} {x : Nd} {e : Nat} {R : List Nd × Int} : NdOk s a up x e → (bt s e).toNat = 40 → Fm s true (e + 1) (L.length : Int) (L ++ [x]) R → Fm s true a up L R
  | sht {a : Nat} {up : Int} {L : List Nd} {x : Nd} {e : Nat} {R : List Nd × Int} : NdOk s a up x e → (bt s e).toNat ≠ 40 → Fm s false e up (L ++ [x]) R → Fm s true a up L R
  | pop {a : Nat} {up : Nat} {L : List Nd} {y : Nd} {R : List Nd × Int} : (bt s a).toNat = 41 → L[up]? = some y → Fm s false (a + 1) y.u L R → Fm s false a (up : Int) L R
  | nxt {a : Nat} {up : Int} {L : List Nd} {R : List Nd × Int} : 0 ≤ up → (bt s a).toNat = 32 → Fm s true (a + 1) up L R → Fm s false a up L R
  | stk {a : Nat} {up : Int} {L : List Nd} : 0 ≤ up → (bt s a).toNat ≠ 41 → (bt s a).toNat ≠ 32 → Fm s false a up L ([], (a : Int))
  | done {a : Nat} {up : Int} {L : List Nd} : up < 0 → a = s.size → Fm s false a up L (L, -1)
  | ovr {a : Nat} {up : Int} {L : List Nd} : up < 0 → a ≠ s.size → Fm s false a up L ([], (a : Int))
theorem Fm.one {s : ByteArray} {b : Bool} {a : Nat} {up : Int} {L : List Nd} {R R' : List Nd × Int} (h : Fm s b a up L R) (g : Fm s b a up L R') : R = R' := by
  induction h with
  | bad hb =>
    cases g with
    | bad gb => rw [hb.one gb]
    | opn g1 => exact (hb.not g1).elim
    | sht g1 => exact (hb.not g1).elim
  | opn h1 h2 _ ih =>
    cases g with
    | bad gb => exact (gb.not h1).elim
    | opn g1 g2 g3 =>
      have e1 := h1.ee.trans g1.ee.symm
      have e2 := h1.xx.trans g1.xx.symm
      subst e1 e2
      exact ih g3
    | sht g1 g2 g3 =>
      have e1 := h1.ee.trans g1.ee.symm
      subst e1
      exact absurd h2 g2
  | sht h1 h2 _ ih =>
    cases g with
    | bad gb => exact (gb.not h1).elim
    | opn g1 g2 g3 =>
      have e1 := h1.ee.trans g1.ee.symm
      subst e1
      exact absurd g2 h2
    | sht g1 g2 g3 =>
      have e1 := h1.ee.trans g1.ee.symm
      have e2 := h1.xx.trans g1.xx.symm
      subst e1 e2
      exact ih g3
  | @pop a up L y R h1 h2 _ ih =>
    generalize hu : (up : Int) = u at g
    cases g with
    | @pop a' up' L' y' R'' g1 g2 g3 =>
      obtain rfl : up' = up := by omega
      rw [h2] at g2
      cases g2
      exact ih g3
    | nxt g1 g2 g3 => omega
    | stk g1 g2 g3 => exact absurd h1 g2
    | done g1 g2 => omega
    | ovr g1 g2 => omega
  | @nxt a up L R h1 h2 _ ih =>
    cases g with
    | pop g1 g2 g3 => omega
    | nxt g1 g2 g3 => exact ih g3
    | stk g1 g2 g3 => exact absurd h2 g3
    | done g1 g2 => omega
    | ovr g1 g2 => omega
  | stk h1 h2 h3 =>
    cases g with
    | pop g1 g2 g3 => exact absurd g1 h2
    | nxt g1 g2 g3 => exact absurd g2 h3
    | stk g1 g2 g3 => rfl
    | done g1 g2 => omega
    | ovr g1 g2 => omega
  | done h1 h2 =>
    cases g with
    | pop g1 g2 g3 => omega
    | nxt g1 g2 g3 => omega
    | stk g1 g2 g3 => omega
    | done g1 g2 => rfl
    | ovr g1 g2 => exact absurd h2 g2
  | ovr h1 h2 =>
    cases g with
    | pop g1 g2 g3 => omega
    | nxt g1 g2 g3 => omega
    | stk g1 g2 g3 => omega
    | done g1 g2 => exact absurd g2 h2
    | ovr g1 g2 => rfl
/-- A digit behind a node's text can't be. -/
theorem Fm.digit {s : ByteArray} {a : Nat} {up : Int} {L : List Nd} {x : Nd} {e : Nat} (h : NdOk s a up x e) (hd : dg s e = true) : Fm s true a up L ([], (e : Int)) := by
  have hd' := hd
  unfold dg at hd'
  rw [decide_eq_true_iff] at hd'
  refine .sht h (by omega) ?_
  rcases Classical.em (up < 0) with g | g
  · exact .ovr g (by have := dg_lt hd; omega)
  · exact .stk (by omega) (by omega) (by omega)
end Go.Proofs.YtdiolfniaiojfaaDoor

/- The plain facts on what a machine of modes is behind many bytes. No condition: nothing here speaks of the program. -/
import Derived.Test.YtiklnlkakhghdaaGreatDoorMdP
namespace Go.Proofs.YtiklnlkakhghdaaGreatDoor
open Go.RowKit
set_option linter.unusedVariables false

/-- The stack behind so many bytes, at the places from p on. -/
def runG (x : Ms) (β : Nat → Nat) (p : Nat) : Nat → Ms
  | 0 => x
  | k + 1 => feed (runG x β p k) (β k) (p + k)
theorem runG_inv {x : Ms} (h : Inv x) (β : Nat → Nat) (p : Nat) : ∀ k, Inv (runG x β p k)
  | 0 => h
  | k + 1 => feed_inv (runG_inv h β p k) _ _
theorem runG_congr {x : Ms} {β γ : Nat → Nat} {p : Nat} : ∀ {k : Nat}, (∀ i, i < k → β i = γ i) → runG x β p k = runG x γ p k
  | 0, _ => rfl
  | k + 1, h => by
    show feed (runG x β p k) (β k) (p + k) = feed (runG x γ p k) (γ k) (p + k)
    rw [runG_congr (fun i hi => h i (by omega)), h k (by omega)]
theorem runG_add (x : Ms) (β : Nat → Nat) (p a : Nat) : ∀ k, runG x β p (a + k) = runG (runG x β p a) (fun i => β (a + i)) (p + a) k
  | 0 => rfl
  | k + 1 => by
    show feed (runG x β p (a + k)) (β (a + k)) (p + (a + k)) = feed (runG (runG x β p a) (fun i => β (a + i)) (p + a) k) (β (a + k)) (p + a + k)
    rw [runG_add x β p a k, Nat.add_assoc]
theorem run_len (v : Mv) (st : List Fr) (p : Nat) : (v.run st p).length ≤ st.length + 1 := by
  cases v with
  | keep => show st.length ≤ _; omega
  | push m => show st.length + 1 ≤ _; omega
  | pop => show st.tail.length ≤ _; rw [List.length_tail]; omega
  | turn m => cases st <;> simp [Mv.run]
theorem plain_len (st : List Fr) (fresh : Bool) (b p : Nat) : (plainF st fresh b p).st.length ≤ st.length + 1 := by
  cases st with
  | nil => simp [plainF]
  | cons a r => exact run_len _ _ _
theorem feed_len (x : Ms) (b p : Nat) : (feed x b p).st.length ≤ x.st.length + 1 := by
  obtain ⟨st, fresh⟩ := x
  cases st with
  | nil => simp [feed]
  | cons a r =>
    obtain ⟨m, f⟩ := a
    unfold feed
    have h1 := plain_len r fresh b p
    have h2 := fun n => plain_len ((n, f) :: r) fresh b p
    have h3 := h2 1
    have h4 := h2 9
    have h5 := h2 m
    simp only [List.length_cons] at h3 h4 h5 ⊢
    repeat' split
    all_goals first | omega | (simp only [List.length_cons]; omega)
theorem runG_len (x : Ms) (β : Nat → Nat) (p : Nat) : ∀ k, (runG x β p k).st.length ≤ x.st.length + k
  | 0 => Nat.le_refl _
  | k + 1 => by
    have h1 := runG_len x β p k
    have h2 := feed_len (runG x β p k) (β k) (p + k)
    show (feed _ _ _).st.length ≤ _
    omega
/-- The bytes of a text. -/
def by8 (s : ByteArray) (i : Nat) : Nat := (bt s i).toNat
theorem by8_lt (s : ByteArray) (i : Nat) : by8 s i < 256 := by unfold by8; exact (bt s i).toNat_lt
/-- The stack behind a text's first k bytes. -/
def runK (s : ByteArray) (k : Nat) : Ms := runG Ms.start (by8 s) 0 k
theorem runK_succ (s : ByteArray) (k : Nat) : runK s (k + 1) = feed (runK s k) (by8 s k) k := by
  show feed _ _ (0 + k) = _
  rw [Nat.zero_add]; rfl
theorem runK_inv (s : ByteArray) (k : Nat) : Inv (runK s k) := runG_inv Inv.start _ _ k
theorem runK_len (s : ByteArray) (k : Nat) : (runK s k).st.length ≤ k + 1 := by
  have := runG_len Ms.start (by8 s) 0 k
  have e : Ms.start.st.length = 1 := rfl
  unfold runK
  omega
theorem Inv.ne {x : Ms} (h : Inv x) : 0 < x.st.length := by
  obtain ⟨st, fresh⟩ := x
  cases st with
  | nil => exact absurd h.good (by simp [Go.Proofs.YtiklnlkakhghdaaGreatDoor.good])
  | cons a r => simp
end Go.Proofs.YtiklnlkakhghdaaGreatDoor

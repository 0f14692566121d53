/- Rows of tokens, for reading; when two tokens are the same. No condition. -/
import Derived.Test.YtdjcidackkogjaaGreatDoorTkL
import Derived.Deep.QuietTactic
import Derived.BigQuiet
namespace Go.Proofs.YtdjcidackkogjaaGreatDoor
open Go.RowKit
set_option linter.unusedVariables false

structure RdK (W : World) (oa : Option Addr) (n : Nat) (l : List Tk) : Prop where
  len : n = l.length
  cells : ∀ (j : Nat) t, l[j]? = some t → ∃ b off, oa = some ⟨b, off, none⟩ ∧ b < W.heap.size ∧ W.cell? ⟨b, off + j * 4, none⟩ = some (.int .i64 (t.kind : Int)) ∧ W.cell? ⟨b, off + j * 4 + 1, none⟩ = some (.int .i64 (t.frm : Int)) ∧ W.cell? ⟨b, off + j * 4 + 2, none⟩ = some (.int .i64 (t.en : Int)) ∧ W.cell? ⟨b, off + j * 4 + 3, none⟩ = some (.bool t.op)
theorem RdK.below {W W' : World} {oa : Option Addr} {n : Nat} {l : List Tk} (h : RdK W oa n l) (hb : Below W.heap.size W W') : RdK W' oa n l :=
  ⟨h.len, fun j d hj => by
    obtain ⟨b, off, h1, h2, h3, h4, h5, h6⟩ := h.cells j d hj
    have e : ∀ o, W'.cell? ⟨b, o, none⟩ = W.cell? ⟨b, o, none⟩ := fun o => hb.cell (p := ⟨b, o, none⟩) h2
    exact ⟨b, off, h1, Nat.lt_of_lt_of_le h2 hb.size, (e _).trans h3, (e _).trans h4, (e _).trans h5, (e _).trans h6⟩⟩
theorem RdK.of_own {W : World} {base : Nat} {v : Value} {l : List Tk} {n : Nat} (hn : n = l.length) (h : W.ownsRow base 44 4 v n (cellsT l)) : ∃ oa c, v = .slice oa n c ∧ RdK W oa n l := by
  subst hn
  rcases RdT.of_own h with ⟨h1, h2⟩ | ⟨b, off, c, h1, h2, h3⟩
  · subst h2
    exact ⟨none, 0, h1, rfl, fun j t hj => by cases hj⟩
  · refine ⟨_, c, h1, rfl, fun j t hj => ?_⟩
    obtain ⟨g0, g1, g2, g3⟩ := h3 j t hj
    exact ⟨b, off, rfl, h2, g0, g1, g2, g3⟩
theorem eq_tk (a b c a' b' c' : Int) (e e' : Bool) (w : World) : (Op.equalIn 10000 44 (.agg #[.int .i64 a, .int .i64 b, .int .i64 c, .bool e]) (.agg #[.int .i64 a', .int .i64 b', .int .i64 c', .bool e'])).run Tryz.prog w = .ok (a == a' && (b == b' && (c == c' && e == e'))) w := by
  have u3 := Tryz.underlying3
  have a3 := Tryz.isAgg3
  have z3 := Tryz.sizeOf3
  have u4 := Tryz.underlying4
  have a4 := Tryz.isAgg4
  have z4 := Tryz.sizeOf4
  have hS : Tryz.prog.underlying 44 = some (.struct (Tryz.prog.fieldsOf 44)) := by kernel_rfl
  rw [show (10000 : Nat) = 9999 + 1 from rfl, run_equalIn_agg w 9999 44 _ _ hS (by kernel_rfl)]
  simp only [Program.fieldsOf, Tryz.underlying44]
  go_simp
  by_cases h1 : a = a' <;> by_cases h2 : b = b' <;> by_cases h3 : c = c' <;> simp [h1, h2, h3]
  cases e <;> cases e' <;> rfl
theorem neq_tk (a b c : Int) (e : Bool) (w : World) : (binOp .neq 44 (.agg #[.int .i64 a, .int .i64 b, .int .i64 c, .bool e]) (.agg #[.int .i64 a, .int .i64 b, .int .i64 c, .bool e])).run Tryz.prog w = .ok (.bool false) w := by
  rw [run_neq_struct, eq_tk]
  simp [Result.andThen]
end Go.Proofs.YtdjcidackkogjaaGreatDoor

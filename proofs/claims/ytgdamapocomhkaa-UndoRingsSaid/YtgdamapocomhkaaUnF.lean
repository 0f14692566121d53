/- What Join of layer 1 (edit) returns, in one plain function of the two steps. Condition: texts below a million. -/
import Derived.Test.YtgdamapocomhkaaUnE
import Derived.Test.YtgdamapocomhkaaUnM
namespace Go.Proofs.Ytgdamapocomhkaa
open Go.RowKit
set_option linter.unusedVariables false

/-- What two steps are as one: none, where their edits don't touch, or a place can be in no text. -/
def joinSt (a b : St) : Option St :=
  if a.pos < 0 ∨ 1048576 < a.pos ∨ b.pos < 0 ∨ 1048576 < b.pos then none
  else if a.pos + a.ins.size < b.pos then none
  else if b.pos + b.del.size < a.pos then none
  else if a.pos ≤ b.pos then
    if (b.pos - a.pos).toNat + b.del.size ≤ a.ins.size then
      some ⟨a.pos, a.del, a.ins.extract 0 (b.pos - a.pos).toNat ++ b.ins ++ a.ins.extract ((b.pos - a.pos).toNat + b.del.size) a.ins.size, a.ahead, b.behind⟩
    else some ⟨a.pos, a.del ++ b.del.extract (a.ins.size - (b.pos - a.pos).toNat) b.del.size, a.ins.extract 0 (b.pos - a.pos).toNat ++ b.ins, a.ahead, b.behind⟩
  else
    if b.del.size - (a.pos - b.pos).toNat ≤ a.ins.size then
      some ⟨b.pos, b.del.extract 0 (a.pos - b.pos).toNat ++ a.del, b.ins ++ a.ins.extract (b.del.size - (a.pos - b.pos).toNat) a.ins.size, a.ahead, b.behind⟩
    else some ⟨b.pos, b.del.extract 0 (a.pos - b.pos).toNat ++ a.del ++ b.del.extract (a.ins.size + (a.pos - b.pos).toNat) b.del.size, b.ins, a.ahead, b.behind⟩
def joinV (o : Option St) : Value := match o with
  | none => .tuple #[.agg #[.int .i64 0, .string ⟨#[]⟩, .string ⟨#[]⟩], .bool false]
  | some s => .tuple #[.agg #[.int .i64 s.pos, .string s.del, .string s.ins], .bool true]

theorem join_any (a b : St) (w : World) (h1 : a.del.size ≤ 1000000) (h2 : a.ins.size ≤ 1000000) (h3 : b.del.size ≤ 1000000) (h4 : b.ins.size ≤ 1000000) :
    Calls Try.prog 10 #[.agg #[.int .i64 a.pos, .string a.del, .string a.ins], .agg #[.int .i64 b.pos, .string b.del, .string b.ins]] w fun e w' => e = .returned (joinV (joinSt a b)) ∧ Below w.heap.size w w' := by
  obtain ⟨X, ad, an, p, q⟩ := a
  obtain ⟨Y, bd, bn, p', q'⟩ := b
  simp only at h1 h2 h3 h4 ⊢
  unfold joinSt
  simp only
  by_cases c : X < 0 ∨ 1048576 < X ∨ Y < 0 ∨ 1048576 < Y
  · rw [if_pos c]
    by_cases c1 : X < 0
    · exact join_o1 _ _ _ _ _ _ _ c1
    · by_cases c2 : 1048576 < X
      · exact join_o2 _ _ _ _ _ _ _ (by omega) c2
      · by_cases c3 : Y < 0
        · exact join_o3 _ _ _ _ _ _ _ (by omega) (by omega) c3
        · exact join_o4 _ _ _ _ _ _ _ (by omega) (by omega) (by omega) (by omega)
  · rw [if_neg c]
    obtain ⟨A, rfl⟩ : ∃ A : Nat, X = A := ⟨X.toNat, by omega⟩
    obtain ⟨B, rfl⟩ : ∃ B : Nat, Y = B := ⟨Y.toNat, by omega⟩
    have hA : A ≤ 1048576 := by omega
    have hB : B ≤ 1048576 := by omega
    by_cases c1 : (A : Int) + an.size < B
    · rw [if_pos c1]
      exact join_no1 A B ad an bd bn w hA hB h1 h2 h3 h4 c1
    · rw [if_neg c1]
      by_cases c2 : (B : Int) + bd.size < A
      · rw [if_pos c2]
        exact join_no2 A B ad an bd bn w hA hB h1 h2 h3 h4 c2
      · rw [if_neg c2]
        by_cases c3 : (A : Int) ≤ B
        · rw [if_pos c3]
          obtain ⟨f, hf⟩ : ∃ f, ((B : Int) - A).toNat = f := ⟨_, rfl⟩
          rw [hf]
          by_cases c4 : f + bd.size ≤ an.size
          · rw [if_pos c4]
            exact join_1 A B ad an bd bn w hA hB h1 h2 h3 h4 f (by omega) (by omega) c4
          · rw [if_neg c4]
            exact join_2 A B ad an bd bn w hA hB h1 h2 h3 h4 f (by omega) (by omega) (by omega)
        · rw [if_neg c3]
          obtain ⟨g, hg⟩ : ∃ g, ((A : Int) - B).toNat = g := ⟨_, rfl⟩
          rw [hg]
          by_cases c4 : bd.size - g ≤ an.size
          · rw [if_pos c4]
            exact join_3 A B ad an bd bn w hA hB h1 h2 h3 h4 g (bd.size - g) (by omega) (by omega) (by omega) c4
          · rw [if_neg c4]
            exact join_4 A B ad an bd bn w hA hB h1 h2 h3 h4 g (bd.size - g) (by omega) (by omega) (by omega) (by omega)
end Go.Proofs.Ytgdamapocomhkaa

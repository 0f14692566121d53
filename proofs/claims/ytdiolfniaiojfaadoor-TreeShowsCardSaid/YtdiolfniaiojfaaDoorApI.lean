/- The general append, at a plain region's list within a fence. Condition: at most a million elements. -/
import Derived.Test.YtdiolfniaiojfaaDoorAp
import Derived.OwnWalkIn
import Derived.RangeFuncCalls
namespace Go.Proofs.YtdiolfniaiojfaaDoor
open Go.RowKit
set_option linter.unusedVariables false
attribute [local go_sem] Oper.semAt_some

theorem own_allocI {w : World} {base : Nat} {e : TypeId} {k n : Nat} {v : Value} {xs : List Value} (h : w.ownsRow base e k v n xs) (o : Obj) : (w.alloc o).ownsRow base e k v n xs := own_below h ((Below.refl _ _).alloc (Nat.le_refl _) o)
theorem src_oneI (w : World) (x : Value) (t : TypeId) : Src (w.alloc (.cells #[x] t)) (.slice (some ⟨w.heap.size, 0, none⟩) 1 1) 1 [x] := by
  refine .inr ⟨w.heap.size, 0, 1, rfl, by simp, fun j u hj => ?_⟩
  cases j with
  | zero =>
    simp at hj
    subst hj
    simp
  | succ j => simp at hj
/-- The general append, at a plain region's list within a fence. -/
theorem wplIn_app_gen {F : Fence} {fn : Nat} {ops : Array Oper} {rest : List Oper} {o : Oper} {a : Act} {w : World} {Q : Exit → Act → World → Prop} (hgd : o.guard = none) (s x : Operand) (t e : TypeId) (k bytes : Nat) (z : Value)
    (ho : o.op = .call { callee := .builtin .append, args := #[s, x], argTypes := #[t, t] })
    (hu : Tryd.prog.underlying t = some (.slice e)) (hinfo : (Tryd.prog.info? e).map (fun i => (i.zero, i.size, i.bytes)) = some (some z, k, bytes)) (hzk : z.cells.size = k) (hk : 0 < k) (hby : bytes ≤ 1000)
    (base : Nat) (v0 : Value) (n0 : Nat) (xs0 : List Value) (hs : a.eval s = v0) (hown : w.ownsRow base e k v0 n0 xs0) (v1 : Value) (m : Nat) (news : List Value) (hx : a.eval x = v1) (hsrc : Src w v1 m news) (hlen : news.length = m * k) (h1 : ∀ u ∈ news, u.oneCell' = true) (hl : n0 + m ≤ 1000000) (hbase : base ≤ w.heap.size) (nn : Nat) (hnn : n0 + m = nn)
    (h : ∀ oa c w', w'.ownsRow base e k (.slice oa nn c) nn (xs0 ++ news) → w.grownBy w' v0.ownBlock → ((Value.slice oa nn c).ownBlock = v0.ownBlock ∨ (Value.slice oa nn c).ownBlock = some w.heap.size) → wpListIn F fn Tryd.prog ops Q rest (a.put o.dst (.slice oa nn c)) w') : wpListIn F fn Tryd.prog ops Q (o :: rest) a w := by
  refine wpListIn_plain hgd fun K hK' => ?_
  obtain ⟨oa, c, w', hrun, h2, h3, h4⟩ := run_app_gen w t e o.type k bytes z hu hinfo hzk hk hby base v0 n0 xs0 hown v1 m news hsrc hlen h1 hl hbase nn hnn
  unfold Oper.wpIn
  refine ⟨?_, ?_⟩
  · simp [Oper.about, ho, resolve, Target.leads, Sem.run_pure]
  · rw [Oper.semAt_plain F _ _ (by rw [ho]; intro c hc'; cases hc')]
    simp [execOp, ho, resolve, invoke, builtin, hs, hx, hrun, Result.andThen]
    exact hK' _ _ (h oa c w' h2 h3 h4)
end Go.Proofs.YtdiolfniaiojfaaDoor

/- The rows of nodes whose kids lie one right behind the other, plainly. No condition: nothing here speaks of the program. -/
import Derived.Test.YtmjckjbdkffkoaaDoorRuP
namespace Go.Proofs.YtmjckjbdkffkoaaDoor
open Go.RowKit
set_option linter.unusedVariables false

/-- Kids lie one right behind the other, from a leaf on. -/
def KdT (nv : Nat → Nd) : List Nat → Nat → Nat → Prop
  | [], a, e => a ≤ e
  | k :: ks, a, e => 1 ≤ (nv k).k ∧ (nv k).k ≤ 18 ∧ (nv k).f = (a : Int) ∧ (a : Int) ≤ (nv k).t ∧ (nv k).t ≤ (e : Int) ∧ KdT nv ks (nv k).t.toNat e
def rowK (nv : Nat → Nd) (ks : List Nat) : List Nat := ks.map fun k => letN (nv k).k
def endK (nv : Nat → Nd) : List Nat → Nat → Nat
  | [], a => a
  | k :: ks, _ => endK nv ks (nv k).t.toNat
/-- The row of a node whose kids lie so. -/
def rowTg (sg : Nat → Nat) (nv : Nat → Nd) (ks : List Nat) (a e : Nat) : List Nat := rowK nv ks ++ segP sg (endK nv ks a) (e - endK nv ks a)
theorem rowTg_cons (sg : Nat → Nat) (nv : Nat → Nd) (k : Nat) (ks : List Nat) (a e : Nat) : rowTg sg nv (k :: ks) a e = letN (nv k).k :: rowTg sg nv ks (nv k).t.toNat e := rfl
end Go.Proofs.YtmjckjbdkffkoaaDoor

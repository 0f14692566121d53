/- The walk of the statement UndoPlays: it returns true, and what lay in memory before stays as it was: condition: each text of the acts at most 2^47 bytes, which the reach of every statement gives. -/
import Derived.Test.YtgdamapocomhkaaUnG
import Derived.Test.YtgdamapocomhkaaUnX
import Derived.Deep.CutBlock
namespace Go.Proofs.Ytgdamapocomhkaa
open Go.RowKit Go.Shelf
set_option linter.unusedVariables false

/-- Between two acts: the journal is that of the two lists, which lie in rows of their own. -/
structure PInv (w : World) (jb most i : Nat) (dl ul : List St) (js v6 v7 : Value) (wr : World) : Prop where
  jn : Jn wr jb most js (dl ++ ul) dl.length
  d : RowR wr jb js v6 dl
  u : RowR wr jb js v7 ul
  len : dl.length + ul.length ≤ i
  cap : dl.length + ul.length ≤ most
  small : ∀ x ∈ dl ++ ul, x.del.size ≤ 100 * i ∧ x.ins.size ≤ 100 * i
  below : Below w.heap.size w wr
  own : ∀ k, js.ownBlock = some k → w.heap.size ≤ k

theorem PInv.ext {w wr wt : World} {jb most i : Nat} {dl ul : List St} {js v6 v7 : Value} (h : PInv w jb most i dl ul js v6 v7 wr) (hb : Below wr.heap.size wr wt) : PInv w jb most i dl ul js v6 v7 wt :=
  ⟨jn_below h.jn hb, h.d.frm (Frm.of_below (p := fun _ => False) hb) (fun _ h => h.elim) (fun k hk => .inl hk), h.u.frm (Frm.of_below (p := fun _ => False) hb) (fun _ h => h.elim) (fun k hk => .inl hk), h.len, h.cap, h.small, h.below.trans (hb.mono h.below.size), h.own⟩
theorem PInv.succ {w wr : World} {jb most i : Nat} {dl ul : List St} {js v6 v7 : Value} (h : PInv w jb most i dl ul js v6 v7 wr) : PInv w jb most (i + 1) dl ul js v6 v7 wr :=
  ⟨h.jn, h.d, h.u, Nat.le_succ_of_le h.len, h.cap, fun x hx => by have := h.small x hx; omega, h.below, h.own⟩
def RelP (w : World) (jb most len : Nat) (v6 v7 v8 : Value) (wr : World) : Prop :=
  ∃ (i : Nat) (dl ul : List St) (js : Value), v8 = .int .i64 i ∧ i ≤ len ∧ PInv w jb most i dl ul js v6 v7 wr
/-- Behind an act. -/
def RelQ (w : World) (jb most i : Nat) (v6 v7 : Value) (wr : World) : Prop :=
  ∃ (dl ul : List St) (js : Value), PInv w jb most (i + 1) dl ul js v6 v7 wr


/-- The switch of an act, as the function's text has it. -/
def blkOf (n : Nat) : Code → Option Code
  | .block m c => if m = n then some (.block m c) else blkOf n c
  | .seq a b => match blkOf n a with
    | some c => some c
    | none => blkOf n b
  | .cond _ a b => match blkOf n a with
    | some c => some c
    | none => blkOf n b
  | .loop c => blkOf n c
  | .scope c => blkOf n c
  | _ => none
noncomputable def playsBlk : Code := (Try.f3.body.bind (blkOf 2)).getD .skip
end Go.Proofs.Ytgdamapocomhkaa

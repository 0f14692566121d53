/- What slices.Values at one piece returns and yields. No condition.
A text's parts as they lie in a map, by the places where they begin. No condition. -/
import Derived.Test.YtholjhdjlhkocaaLtP
import Derived.WalkKit
import Derived.OwnWalkIn
import Derived.TacticsInMore
import Derived.LoopNIn
import Derived.LoopIn
import Derived.Shelf.Abstract
import Derived.Shelf.RegionOpen
import Derived.Maps.OwnIn
import Derived.Maps.OwnSet
namespace Go.Proofs.Ytholjhdjlhkocaa
open Go.RowKit Go.Shelf
set_option linter.unusedVariables false
attribute [local go_sem] Oper.semAt_some

def encC (x : Pc) : Array Value := #[aggC x]
theorem Frm.id {p : Nat → Prop} (W : World) : Frm p W W := Frm.refl p W
theorem Abid.same {β : Type} {J : β → (Nat → Prop) → World → Prop} (hJ : Abid J) {s : β} {T : Nat → Prop} {W W' : World} (h : J s T W) (hf : Frm T W W') : J s T W' := hJ s T W W' T h hf (fun _ h => .inl h)
theorem Abid.below {β : Type} {J : β → (Nat → Prop) → World → Prop} (hJ : Abid J) {s : β} {T T' : Nat → Prop} {W W' : World} (h : J s T W) (hf : Below W.heap.size W W') (ht : ∀ b, T' b → T b ∨ W.heap.size ≤ b) : J s T' W' := hJ s T W W' T' h (Frm.of_below hf) ht

theorem values_in (n : Nat) (oa : Option Addr) (m c : Nat) (w : World) :
    CallsIn Fence.wide n Try.prog 94 #[.slice oa m c] w fun e w' => e = .returned (.func (.func 103) #[] #[.pointer (some ⟨w.heap.size, 0, none⟩)]) ∧ w' = w.alloc (.cells #[.slice oa m c] 31) := by
  have hro : Fence.wide.round = none := rfl
  refine callsIn_of_wp Try.func94 rfl trivial ?_ hro
  simp only [Try.ntmps94, List.size_toArray, List.length_cons, List.length_nil, Nat.reduceAdd, Nat.reduceSub, Array.replicate_succ, Array.replicate_zero, List.push_toArray, List.append_toArray, List.nil_append, List.cons_append]
  gi_wp2
  go_ret
  exact ⟨rfl, rfl⟩

def VaRl (J : List Pc → (Nat → Prop) → World → Prop) (x : Pc) (W : World) (v7 : Value) (wr : World) : Prop :=
  (v7 = .int .i64 0 ∧ wr = W) ∨ (v7 = .int .i64 1 ∧ ∃ T, J [x] T wr)
set_option maxRecDepth 100000 in
set_option maxHeartbeats 4000000 in
theorem values_seq (n : Nat) (hn : 1 ≤ n) (Bx g cap : Nat) (x : Pc) (cs : Array Value) (W : World) (hb : Blk W Bx #[.slice (some ⟨g, 0, none⟩) 1 cap] 31) (hg : Blk W g cs 34)
    (h0 : cs[0]? = some (.bool x.ex)) (h1 : cs[1]? = some (.bool x.q)) (h2 : cs[2]? = some (.string x.t)) :
    SeqT n Try.prog 103 #[.pointer (some ⟨Bx, 0, none⟩)] encC (fun _ => False) [x] W := by
  intro l J Jx hJ hJx hY hJ0
  have hbc := hb.cell 0
  have c0 := (hg.cell 0).trans h0
  have c1 := (hg.cell 1).trans h1
  have c2 := (hg.cell 2).trans h2
  have HY := Lib.hid hY
  have HJ := Lib.hid hJ
  have HJX := Lib.hid hJx
  have HJ0 := Lib.hid hJ0
  have hro : Fence.wide.round = none := rfl
  have hfn : Fence.wide.fn 103 := trivial
  clear hY hJ hJx hb hg h0 h1 h2 hJ0
  refine callsIn_of_wp Try.func103 rfl hfn ?_ hro
  simp only [Try.ntmps103, List.size_toArray, List.length_cons, List.length_nil, Nat.reduceAdd, Nat.reduceSub, Array.replicate_succ, Array.replicate_zero, List.push_toArray, List.append_toArray, List.nil_append, List.cons_append]
  gi_wp2
  gi_loopw [7] (fun v7 wr => VaRl J x W v7 wr) (fun v _ => 1 - (intOf v).toNat)
  case atStart => exact .inl ⟨rfl, rfl⟩
  case round =>
    rcases hrel with ⟨rfl, rfl⟩ | ⟨rfl, T, hj⟩
    · have hja := HJ.out.same HJ0.out (Frm.of_below (p := fun _ => False) ((Below.refl _ wr).alloc (Nat.le_refl _) (.cells #[.bool x.ex, .bool x.q, .string x.t] 34)))
      obtain ⟨fn, tmps, assign, body, hy, hR⟩ := HY.out [] x [] _ _ rfl hja (fun _ h => h.elim)
      dsimp only [encC, aggC] at hy
      gi_wp2
      refine hR.mono ?_
      rintro e W' ⟨hk3, (⟨rfl, hJ3⟩ | ⟨rfl, hJx3⟩)⟩
      · gi_wp2
        go_roundw
        case rel => exact .inr ⟨rfl, _, hJ3⟩
        case measure => simp [intOf]
      · gi_wp2
        refine bodyPost_ret (results_none rfl _ _ _) rfl ?_
        exact ⟨⟨_, rfl⟩, .inr ⟨_, _, hJx3⟩⟩
    · gi_wp2
      go_end0
      exact ⟨⟨_, rfl⟩, .inl ⟨T, hj⟩⟩
end Go.Proofs.Ytholjhdjlhkocaa

namespace Go.Proofs.Ytholjhdjlhkocaa
open Go.RowKit
set_option linter.unusedVariables false

/-- A part as a datum. -/
def datP (m f t up : Int) (op : Bool) : DataW Unit := .agg [.lit (.int .i64 m), .lit (.int .i64 f), .lit (.int .i64 t), .lit (.int .i64 up), .lit (.bool op)]
def datQ (p : Prt) : DataW Unit := datP p.mode p.frm p.to p.up p.op
def partElem (v : Value) : Option (DataW Unit × List MemPlace) :=
  match v with
  | .agg ⟨[.int .i64 m, .int .i64 f, .int .i64 t, .int .i64 up, .bool op]⟩ => some (datP m f t up op, [])
  | _ => none
theorem partElem_inv {v : Value} {m f t up : Int} {op : Bool} {ps : List MemPlace} (h : partElem v = some (datP m f t up op, ps)) : v = .agg #[.int .i64 m, .int .i64 f, .int .i64 t, .int .i64 up, .bool op] := by
  unfold partElem at h
  split at h
  · simp [datP] at h
    obtain ⟨⟨rfl, rfl, rfl, rfl, rfl⟩, _⟩ := h
    rfl
  · cases h
def keyI (a : Nat) : Lit := .int .i64 (a : Int)
/-- The map holds the parts that q names. -/
def MapQ (W : World) (mb : Nat) (k : Nat) (q : Nat → Option Prt) : Prop :=
  ∃ D : DataW Unit, W.ownsMap Try.prog 3 partElem mb k D ∧ Maps.IsMap D ∧ ∀ a : Nat, Maps.has D (keyI a) = (q a).isSome ∧ D.atKey (keyI a) (datP 0 0 0 0 false) = match q a with
    | some p => datQ p
    | none => datP 0 0 0 0 false
theorem MapQ.same {W W' : World} {mb k : Nat} {q : Nat → Option Prt} (h : MapQ W mb k q) (hb : W'.heap[mb]? = W.heap[mb]?) : MapQ W' mb k q := by
  obtain ⟨D, ⟨es, clock, h1, h2⟩, h3⟩ := h
  exact ⟨D, ⟨es, clock, hb.trans h1, h2⟩, h3⟩
theorem MapQ.lt {W : World} {mb k : Nat} {q : Nat → Option Prt} (h : MapQ W mb k q) : mb < W.heap.size := by
  obtain ⟨D, ⟨es, clock, h1, h2⟩, h3⟩ := h
  exact (Array.getElem?_eq_some_iff.1 h1).1
theorem MapQ.made (w : World) : MapQ (w.alloc (.map #[] 0)) w.heap.size 0 (fun _ => none) :=
  ⟨.map [], World.ownsMap_made w _ _ _, ⟨[], rfl⟩, fun a => ⟨rfl, rfl⟩⟩
theorem MapQ.ext {W : World} {mb k : Nat} {q r : Nat → Option Prt} (h : MapQ W mb k q) (hq : ∀ a, q a = r a) : MapQ W mb k r := by
  obtain rfl : q = r := funext hq
  exact h
theorem keyI_keyOf (a : Nat) (ha : a ≤ 1000000) : keyOf Try.prog 3 (.int .i64 (a : Int)) = some (keyI a) :=
  Maps.keyOf_int_mk Try.underlying3 (by have h1 : IntKind.i64.min = -9223372036854775808 := rfl; have h2 : IntKind.i64.max = 9223372036854775807 := rfl; simp only [Lit.wf, h1, h2]; simp; omega)
/-- The parts of a text, those that begin ahead of a place. -/
def qB (s : ByteArray) (k a : Nat) : Option Prt := if a < k ∧ born s a = true then some (prt s a) else none
/-- The map of a text's parts. -/
def MapP (W : World) (mb : Nat) (s : ByteArray) : Prop := ∃ k, MapQ W mb k (qB s s.size)

/-- A store, at the operation. -/
theorem step_put {ops : Array Oper} {rest : List Oper} {o : Oper} {a : Act} {Q : Exit → Act → World → Prop} {w : World} (hg : o.guard = none) (m x v : Operand) (hop : o.op = Op.mapUpdate 91 m x v)
    {mb k : Nat} {q : Nat → Option Prt} (hm : a.eval m = .map (some mb)) (hown : MapQ w mb k q) (hk : k ≤ 1000000) (p : Prt) (hx : a.eval x = .int .i64 (p.frm : Int)) (hp : p.frm ≤ 1000000) (hv : a.eval v = .agg #[.int .i64 (p.mode : Int), .int .i64 (p.frm : Int), .int .i64 (p.to : Int), .int .i64 p.up, .bool p.op])
    (hK : ∀ w', MapQ w' mb (k + 1) (fun b => if b = p.frm then some p else q b) → w.grownBy w' (some mb) → wpList Try.prog ops Q rest (a.put o.dst undef) w') :
    wpList Try.prog ops Q (o :: rest) a w := by
  obtain ⟨D, h1, h2, h3⟩ := hown
  refine wpList_mapUpdate_own w hg m x v 91 hop 3 45 (Maps.int_keyed Try.underlying3) Try.underlying91 partElem mb k D hm h1 (by unfold maxLen; omega) _ _ (keyI p.frm) hx hv (keyI_keyOf _ hp) (datQ p) [] rfl ?_
  intro w' hw hgr
  have hkl : WideAt.IsKeyLit (keyI p.frm) := by unfold keyI; exact trivial
  refine hK w' ⟨_, hw, ?_, fun b => ?_⟩ hgr
  · obtain ⟨es, rfl⟩ := h2
    exact ⟨_, rfl⟩
  · by_cases e : b = p.frm
    · subst e
      rw [Maps.has_put_same h2 hkl, Maps.atKey_put_same h2 hkl]
      simp
    · have hne : keyI b ≠ keyI p.frm := by
        unfold keyI
        intro h
        injection h with _ h
        omega
      rw [Maps.has_put_other hne, Maps.atKey_put_other hne]
      simp only [if_neg e]
      exact h3 b
theorem step_get {ops : Array Oper} {rest : List Oper} {o : Oper} {a : Act} {Q : Exit → Act → World → Prop} {w : World} (hg : o.guard = none) (m x : Operand) (hop : o.op = Op.lookup 91 m x true)
    {mb k : Nat} {q : Nat → Option Prt} (hm : a.eval m = .map (some mb)) (hown : MapQ w mb k q) (b : Nat) (hx : a.eval x = .int .i64 (b : Int)) (hb : b ≤ 1000000)
    (hS : ∀ p, q b = some p → wpList Try.prog ops Q rest (a.put o.dst (.tuple #[.agg #[.int .i64 (p.mode : Int), .int .i64 (p.frm : Int), .int .i64 (p.to : Int), .int .i64 p.up, .bool p.op], .bool true])) w)
    (hN : q b = none → wpList Try.prog ops Q rest (a.put o.dst (.tuple #[.agg #[.int .i64 0, .int .i64 0, .int .i64 0, .int .i64 0, .bool false], .bool false])) w) :
    wpList Try.prog ops Q (o :: rest) a w := by
  obtain ⟨D, h1, h2, h3⟩ := hown
  refine wpList_lookup_own_ok w hg m x 91 hop 3 45 (Maps.int_keyed Try.underlying3) Try.underlying91 partElem (z := .agg #[.int .i64 0, .int .i64 0, .int .i64 0, .int .i64 0, .bool false]) (Try.zeroValue45 w) (datP 0 0 0 0 false) [] rfl mb k D hm h1 _ (keyI b) hx (keyI_keyOf _ hb) ?_
  intro v ps hv
  obtain ⟨g1, g2⟩ := h3 b
  rw [g2] at hv
  rw [g1]
  cases hq : q b with
  | none =>
    rw [hq] at hv
    rw [partElem_inv hv]
    exact hN hq
  | some p =>
    rw [hq] at hv
    rw [partElem_inv (show partElem v = some (datP p.mode p.frm p.to p.up p.op, ps) from hv)]
    exact hS p hq
theorem step_get1 {ops : Array Oper} {rest : List Oper} {o : Oper} {a : Act} {Q : Exit → Act → World → Prop} {w : World} (hg : o.guard = none) (m x : Operand) (hop : o.op = Op.lookup 91 m x true)
    {mb : Nat} {s : ByteArray} (hm : a.eval m = .map (some mb)) (hown : MapP w mb s) (b md f t : Nat) (up : Int) (op : Bool) (hx : a.eval x = .int .i64 (b : Int)) (hb : b ≤ 1000000) (hq : Hid (b < s.size ∧ born s b = true ∧ prt s b = ⟨md, f, t, up, op⟩))
    (hS : wpList Try.prog ops Q rest (a.put o.dst (.tuple #[.agg #[.int .i64 (md : Int), .int .i64 (f : Int), .int .i64 (t : Int), .int .i64 up, .bool op], .bool true])) w) :
    wpList Try.prog ops Q (o :: rest) a w := by
  obtain ⟨k, hk⟩ := hown
  have e : qB s s.size b = some ⟨md, f, t, up, op⟩ := by unfold qB; rw [if_pos ⟨hq.out.1, hq.out.2.1⟩, hq.out.2.2]
  refine step_get hg m x hop hm hk b hx hb (fun p hp => ?_) (fun hn => by rw [e] at hn; cases hn)
  rw [e] at hp
  cases hp
  exact hS
theorem step_get0 {ops : Array Oper} {rest : List Oper} {o : Oper} {a : Act} {Q : Exit → Act → World → Prop} {w : World} (hg : o.guard = none) (m x : Operand) (hop : o.op = Op.lookup 91 m x true)
    {mb : Nat} {s : ByteArray} (hm : a.eval m = .map (some mb)) (hown : MapP w mb s) (b : Nat) (hx : a.eval x = .int .i64 (b : Int)) (hb : b ≤ 1000000) (hq : Hid (born s b = false))
    (hS : wpList Try.prog ops Q rest (a.put o.dst (.tuple #[.agg #[.int .i64 0, .int .i64 0, .int .i64 0, .int .i64 0, .bool false], .bool false])) w) :
    wpList Try.prog ops Q (o :: rest) a w := by
  obtain ⟨k, hk⟩ := hown
  have e : qB s s.size b = none := by unfold qB; rw [if_neg (by rw [hq.out]; simp)]
  exact step_get hg m x hop hm hk b hx hb (fun p hp => by rw [e] at hp; cases hp) (fun _ => hS)
end Go.Proofs.Ytholjhdjlhkocaa

/- The statement TokenStep's walk: each token, and the lexing behind it, hang on the place and the lexing ahead alone. Condition: the program's table of operators lies as start-up lays it.
Tokens and leaves of any kind, plainly; what stands, leaf, Text, Leaves of layer 9 (token) return of any token. Condition: texts of at most a million bytes. -/
import Derived.Test.YtdjcidackkogjaaGreatDoorQq
import Derived.Test.YtdjcidackkogjaaGreatDoorTkT
import Derived.Test.YtdjcidackkogjaaGreatDoorTkK
namespace Go.Proofs.YtdjcidackkogjaaGreatDoor
open Go.RowKit
set_option linter.unusedVariables false
set_option linter.unusedSectionVars false

def StC (W0 W : World) (tk tf te : Int) (top : Bool) (y : Lx) (v10 v11 : Value) : Prop :=
  ∃ (bt bx : Nat) (o9 : Option Addr) (n9 c9 : Nat), v10 = .pointer (some ⟨bt, 0, none⟩) ∧ v11 = .pointer (some ⟨bx, 0, none⟩) ∧ Blk W bt #[.int .i64 tk, .int .i64 tf, .int .i64 te, .bool top] 44 ∧ Blk W bx #[.int .i64 (y.await : Int), .slice o9 n9 c9, .bool y.body] 50 ∧ LxR W (.slice o9 n9 c9) y ∧ Below W0.heap.size W0 W ∧ W0.heap.size ≤ bt ∧ W0.heap.size ≤ bx
theorem stc_three {V X : World} {bt bx : Nat} {tk tf te : Int} {top : Bool} {y : Lx} {o9 : Option Addr} {n9 c9 : Nat} {a0 : Int} {q0 : Option Addr} {q1 q2 : Nat} {e0 : Bool} (hb : Below V.heap.size V X) (hL : LxR X (.slice o9 n9 c9) y)
    (kt : Blk X bt #[.int .i64 tk, .int .i64 tf, .int .i64 te, .bool top] 44) (kx : Blk X bx #[.int .i64 a0, .slice q0 q1 q2, .bool e0] 50) (hne : bt ≠ bx) (h1 : V.heap.size ≤ bt) (h2 : V.heap.size ≤ bx) :
    StC V (((X.setCell ⟨bx, 0, none⟩ (.int .i64 (y.await : Int))).setCell ⟨bx, 1, none⟩ (.slice o9 n9 c9)).setCell ⟨bx, 2, none⟩ (.bool y.body)) tk tf te top y (.pointer (some ⟨bt, 0, none⟩)) (.pointer (some ⟨bx, 0, none⟩)) := by
  have hF : Frm (fun k => k = bx) X (((X.setCell ⟨bx, 0, none⟩ (.int .i64 (y.await : Int))).setCell ⟨bx, 1, none⟩ (.slice o9 n9 c9)).setCell ⟨bx, 2, none⟩ (.bool y.body)) :=
    Frm.setCell (p := fun k => k = bx) (Frm.setCell (p := fun k => k = bx) (Frm.setCell (p := fun k => k = bx) (Frm.refl _ X) 0 (.inl rfl) _) 1 (.inl rfl) _) 2 (.inl rfl) _
  exact ⟨bt, bx, o9, n9, c9, rfl, rfl, ((kt.other 0 _ hne).other 1 _ hne).other 2 _ hne, ((kx.set 0 _).set 1 _).set 2 _, hL.keepB kx no_str3 hF, hb.trans (hF.below hb.size (fun k hk => by rw [hk]; exact h2)), h1, h2⟩
theorem stc_seven {V X : World} {bt bx : Nat} {tk tf te : Int} {top : Bool} {y : Lx} {o9 : Option Addr} {n9 c9 : Nat} {a0 b0 d0 : Int} {f0 : Bool} {q0 : Option Addr} {q1 q2 : Nat} {a1 : Int} {e0 : Bool} (hb : Below V.heap.size V X) (hL : LxR X (.slice o9 n9 c9) y)
    (kt : Blk X bt #[.int .i64 a0, .int .i64 b0, .int .i64 d0, .bool f0] 44) (kx : Blk X bx #[.int .i64 a1, .slice q0 q1 q2, .bool e0] 50) (hne : bt ≠ bx) (h1 : V.heap.size ≤ bt) (h2 : V.heap.size ≤ bx) :
    StC V (((((((X.setCell ⟨bt, 0, none⟩ (.int .i64 tk)).setCell ⟨bt, 1, none⟩ (.int .i64 tf)).setCell ⟨bt, 2, none⟩ (.int .i64 te)).setCell ⟨bt, 3, none⟩ (.bool top)).setCell ⟨bx, 0, none⟩ (.int .i64 (y.await : Int))).setCell ⟨bx, 1, none⟩ (.slice o9 n9 c9)).setCell ⟨bx, 2, none⟩ (.bool y.body)) tk tf te top y (.pointer (some ⟨bt, 0, none⟩)) (.pointer (some ⟨bx, 0, none⟩)) := by
  have hF : Frm (fun k => k = bt) X ((((X.setCell ⟨bt, 0, none⟩ (.int .i64 tk)).setCell ⟨bt, 1, none⟩ (.int .i64 tf)).setCell ⟨bt, 2, none⟩ (.int .i64 te)).setCell ⟨bt, 3, none⟩ (.bool top)) :=
    Frm.setCell (p := fun k => k = bt) (Frm.setCell (p := fun k => k = bt) (Frm.setCell (p := fun k => k = bt) (Frm.setCell (p := fun k => k = bt) (Frm.refl _ X) 0 (.inl rfl) _) 1 (.inl rfl) _) 2 (.inl rfl) _) 3 (.inl rfl) _
  exact stc_three (hb.trans (hF.below hb.size (fun k hk => by rw [hk]; exact h1))) (hL.keepB kt no_str4 hF) ((((kt.set 0 _).set 1 _).set 2 _).set 3 _) ((((kx.other 0 _ hne.symm).other 1 _ hne.symm).other 2 _ hne.symm).other 3 _ hne.symm) hne h1 h2
theorem stc_new {V X : World} {tk tf te : Int} {top : Bool} {y : Lx} {o9 : Option Addr} {n9 c9 : Nat} (hb : Below V.heap.size V X) (hL : LxR X (.slice o9 n9 c9) y) :
    StC V ((X.alloc (.cells #[.int .i64 tk, .int .i64 tf, .int .i64 te, .bool top] 44)).alloc (.cells #[.int .i64 (y.await : Int), .slice o9 n9 c9, .bool y.body] 50)) tk tf te top y (.pointer (some ⟨X.heap.size, 0, none⟩)) (.pointer (some ⟨X.heap.size + 1, 0, none⟩)) :=
  ⟨X.heap.size, X.heap.size + 1, o9, n9, c9, rfl, rfl, (Blk.new X _ _).alloc _, blk_a2 X _ _ _, hL.below (below_a2' X _ _), hb.trans ((below_a2' X _ _).mono hb.size), hb.size, Nat.le_succ_of_le hb.size⟩
theorem stc_wen {V X : World} {tk tf te : Int} {top : Bool} {y : Lx} {o9 : Option Addr} {n9 c9 : Nat} (hb : Below V.heap.size V X) (hL : LxR X (.slice o9 n9 c9) y) :
    StC V ((X.alloc (.cells #[.int .i64 (y.await : Int), .slice o9 n9 c9, .bool y.body] 50)).alloc (.cells #[.int .i64 tk, .int .i64 tf, .int .i64 te, .bool top] 44)) tk tf te top y (.pointer (some ⟨X.heap.size + 1, 0, none⟩)) (.pointer (some ⟨X.heap.size, 0, none⟩)) :=
  ⟨X.heap.size + 1, X.heap.size, o9, n9, c9, rfl, rfl, blk_a2 X _ _ _, (Blk.new X _ _).alloc _, hL.below (below_a2' X _ _), hb.trans ((below_a2' X _ _).mono hb.size), Nat.le_succ_of_le hb.size, hb.size⟩
end Go.Proofs.YtdjcidackkogjaaGreatDoor
namespace Go.Proofs.YtdjcidackkogjaaGreatDoor
open Go.RowKit
set_option linter.unusedVariables false
set_option linter.unusedSectionVars false

structure Tz where
  kind : Int
  frm : Int
  en : Int
  op : Bool
structure Lf where
  kind : Int
  text : ByteArray
  frm : Int
  en : Int
def Tk.z (t : Tk) : Tz := ⟨t.kind, t.frm, t.en, t.op⟩
structure RdZ (W : World) (oa : Option Addr) (n : Nat) (l : List Tz) : Prop where
  len : n = l.length
  cells : ∀ (j : Nat) t, l[j]? = some t → ∃ b off, oa = some ⟨b, off, none⟩ ∧ b < W.heap.size ∧ W.cell? ⟨b, off + j * 4, none⟩ = some (.int .i64 t.kind) ∧ W.cell? ⟨b, off + j * 4 + 1, none⟩ = some (.int .i64 t.frm) ∧ W.cell? ⟨b, off + j * 4 + 2, none⟩ = some (.int .i64 t.en) ∧ W.cell? ⟨b, off + j * 4 + 3, none⟩ = some (.bool t.op)
theorem RdZ.below {W W' : World} {oa : Option Addr} {n : Nat} {l : List Tz} (h : RdZ W oa n l) (hb : Below W.heap.size W W') : RdZ W' oa n l :=
  ⟨h.len, fun j d hj => by
    obtain ⟨b, off, h1, h2, h3, h4, h5, h6⟩ := h.cells j d hj
    have e : ∀ o, W'.cell? ⟨b, o, none⟩ = W.cell? ⟨b, o, none⟩ := fun o => hb.cell (p := ⟨b, o, none⟩) h2
    exact ⟨b, off, h1, Nat.lt_of_lt_of_le h2 hb.size, (e _).trans h3, (e _).trans h4, (e _).trans h5, (e _).trans h6⟩⟩
theorem RdK.z {W : World} {oa : Option Addr} {n : Nat} {l : List Tk} (h : RdK W oa n l) : RdZ W oa n (l.map Tk.z) :=
  ⟨by rw [List.length_map]; exact h.len, fun j t hj => by
    rw [List.getElem?_map] at hj
    obtain ⟨u, hu1, hu2⟩ := Option.map_eq_some_iff.1 hj
    subst hu2
    exact h.cells j u hu1⟩
def cellLf (x : Lf) : List Value := [.int .i64 x.kind, .string x.text, .int .i64 x.frm, .int .i64 x.en]
def cellsLf (l : List Lf) : List Value := l.flatMap cellLf
theorem cellsLf_get : ∀ (l : List Lf) (j k : Nat) (t : Lf), l[j]? = some t → k < 4 → (cellsLf l)[j * 4 + k]? = (cellLf t)[k]?
  | [], j, k, t, h, _ => by cases h
  | a :: l, 0, k, t, h, hk => by
    cases h
    show (cellLf a ++ cellsLf l)[0 * 4 + k]? = _
    rw [List.getElem?_append_left (by show 0 * 4 + k < 4; omega), Nat.zero_mul, Nat.zero_add]
  | a :: l, j + 1, k, t, h, hk => by
    show (cellLf a ++ cellsLf l)[(j + 1) * 4 + k]? = _
    rw [List.getElem?_append_right (by show 4 ≤ _; omega), show (j + 1) * 4 + k - (cellLf a).length = j * 4 + k from by show (j + 1) * 4 + k - 4 = _; omega]
    exact cellsLf_get l j k t h hk
structure RdF (W : World) (oa : Option Addr) (n : Nat) (l : List Lf) : Prop where
  len : n = l.length
  cells : ∀ (j : Nat) t, l[j]? = some t → ∃ b off, oa = some ⟨b, off, none⟩ ∧ b < W.heap.size ∧ W.cell? ⟨b, off + j * 4, none⟩ = some (.int .i64 t.kind) ∧ W.cell? ⟨b, off + j * 4 + 1, none⟩ = some (.string t.text) ∧ W.cell? ⟨b, off + j * 4 + 2, none⟩ = some (.int .i64 t.frm) ∧ W.cell? ⟨b, off + j * 4 + 3, none⟩ = some (.int .i64 t.en)
theorem RdF.below {W W' : World} {oa : Option Addr} {n : Nat} {l : List Lf} (h : RdF W oa n l) (hb : Below W.heap.size W W') : RdF W' oa n l :=
  ⟨h.len, fun j d hj => by
    obtain ⟨b, off, h1, h2, h3, h4, h5, h6⟩ := h.cells j d hj
    have e : ∀ o, W'.cell? ⟨b, o, none⟩ = W.cell? ⟨b, o, none⟩ := fun o => hb.cell (p := ⟨b, o, none⟩) h2
    exact ⟨b, off, h1, Nat.lt_of_lt_of_le h2 hb.size, (e _).trans h3, (e _).trans h4, (e _).trans h5, (e _).trans h6⟩⟩
theorem RdF.of_own {W : World} {base : Nat} {v : Value} {l : List Lf} {n : Nat} (hn : n = l.length) (h : W.ownsRow base 59 4 v n (cellsLf l)) : ∃ oa c, v = .slice oa n c ∧ RdF W oa n l := by
  subst hn
  rcases Src.of_own h with ⟨h1, h2, _⟩ | ⟨b, off, c, h1, h2, h3⟩
  · have := List.eq_nil_of_length_eq_zero h2
    subst this
    exact ⟨none, 0, h1, rfl, fun j t hj => by cases hj⟩
  · refine ⟨_, c, h1, rfl, fun j t hj => ?_⟩
    have g := fun k hk => cellsLf_get l j k t hj hk
    refine ⟨b, off, rfl, h2, h3 (j * 4) _ (g 0 (by omega)), ?_, ?_, ?_⟩
    · exact h3 (j * 4 + 1) _ (g 1 (by omega))
    · exact h3 (j * 4 + 2) _ (g 2 (by omega))
    · exact h3 (j * 4 + 3) _ (g 3 (by omega))
end Go.Proofs.YtdjcidackkogjaaGreatDoor

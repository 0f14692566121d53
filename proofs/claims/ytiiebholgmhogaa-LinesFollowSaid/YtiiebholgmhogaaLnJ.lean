/- Rows of ints that are written within one block: what a run of stores leaves of a row, what copy, append and clear do to it, and what slices.Insert and slices.Replace at a row of ints return. Condition: at most a million ints; what comes lies in another block. -/
import Derived.Test.YtiiebholgmhogaaLnD
import Derived.Lib.SliceRun
import Derived.Lib.JoinLaws
import Derived.Lib.AppendZeros
import Derived.Lib.Overlaps
import Derived.Laws.Externs
import Derived.Laws.IdiomCopy
import Derived.Deep.AppendSrc
import Derived.Shelf.Spec.SlicesInsert
import Derived.Shelf.Spec.SlicesInsertGrow
namespace Go.Proofs.Ytiiebholgmhogaa
open Go.RowKit Go.Shelf
set_option linter.unusedVariables false

theorem list_set_take (L : List Value) (o : Nat) (v : Value) (h : o < L.length) : (L.set o v).take (o + 1) = L.take o ++ [v] := by
  rw [List.take_add_one, List.take_set_of_le (Nat.le_refl _)]
  simp [h]
/-- A run of stores in a block. -/
theorem Blk.run {b : Nat} {t : TypeId} : ∀ (l : List Value) (o : Nat) {w : World} {cs : Array Value}, Blk w b cs t → o + l.length ≤ cs.size →
    Blk (w.setCells b o l) b (cs.toList.take o ++ l ++ cs.toList.drop (o + l.length)).toArray t
  | [], o, w, cs, h, hl => by
    have e : (cs.toList.take o ++ [] ++ cs.toList.drop (o + ([] : List Value).length)).toArray = cs := by simp
    rw [e]
    exact h
  | v :: l, o, w, cs, h, hl => by
    simp only [List.length_cons] at hl
    have h1 := Blk.run l (o + 1) (h.set o v) (by simp; omega)
    have e : ((cs.setIfInBounds o v).toList.take (o + 1) ++ l ++ (cs.setIfInBounds o v).toList.drop (o + 1 + l.length)) = cs.toList.take o ++ v :: l ++ cs.toList.drop (o + (v :: l).length) := by
      rw [Array.toList_setIfInBounds, list_set_take _ _ _ (by simp; omega), List.drop_set_of_lt (by omega), List.length_cons, show o + 1 + l.length = o + (l.length + 1) from by omega]
      simp
    rw [e] at h1
    exact h1
/-- The row of a block's first places. -/
theorem owns_of_blk {w : World} {g cap n : Nat} {cs : Array Value} {xs : List Value} {t : TypeId} (h : Blk w g cs t) (hs : cs.size = cap) (hn : n ≤ cap) (hc : cap ≤ maxLen) (hx : cs.toList.take n = xs) : w.ownsRow 0 t 1 (.slice (some ⟨g, 0, none⟩) n cap) n xs := by
  refine ⟨?_, .inr ⟨g, cap, cs, rfl, Nat.zero_le _, h, hn, hc, by omega, by rw [Nat.mul_one]; exact hx⟩⟩
  rw [← hx]
  simp
  omega
/-- A row of ints that comes in from elsewhere. -/
structure Vs (w : World) (vv : Value) (m : Nat) (ys : List Value) : Prop where
  owns : w.ownsRow 0 3 1 vv m ys
  one : ∀ v ∈ ys, v.oneCell' = true
theorem Vs.len {w : World} {vv : Value} {m : Nat} {ys : List Value} (h : Vs w vv m ys) : ys.length = m := by have := h.owns.1; omega
theorem Vs.form {w : World} {vv : Value} {m : Nat} {ys : List Value} (h : Vs w vv m ys) : ∃ a c, vv = .slice a m c := by
  rcases h.owns.2 with ⟨rfl, rfl⟩ | ⟨g, cap, cur, rfl, _⟩
  · exact ⟨_, _, rfl⟩
  · exact ⟨_, _, rfl⟩
theorem Vs.src {w : World} {vv : Value} {m : Nat} {ys : List Value} (h : Vs w vv m ys) : Src Try.prog 1 47 vv m ys w := by
  have hl := h.len
  rcases h.owns.2 with ⟨rfl, rfl⟩ | ⟨g, cap, cur, rfl, _⟩
  · obtain rfl : ys = [] := List.eq_nil_of_length_eq_zero hl
    exact Src.ofNil w Try.underlying47 0
  · exact Src.ofSlice w Try.underlying47 ⟨g, 0, none⟩ m cap ys (by omega) (fun j u hj => h.owns.cells (g := g) rfl j u hj) h.one
theorem Vs.frm {p : Nat → Prop} {w w' : World} (hf : Frm p w w') {vv : Value} {m : Nat} {ys : List Value} (h : Vs w vv m ys) (hp : ∀ k, vv.ownBlock = some k → ¬ p k) : Vs w' vv m ys := ⟨own_frm hf h.owns hp, h.one⟩

theorem info3 : (Try.prog.info? 3).map (fun i => (i.zero, i.size, i.bytes)) = some (some (.int .i64 0), 1, 8) := by kernel_rfl
theorem size3 : (Try.prog.info? 3).map (·.size) = some 1 := by kernel_rfl
/-- copy into a block from a row that comes in. -/
theorem run_copy_vs {w : World} {ty : TypeId} {b o dLen dCap : Nat} {vv : Value} {m : Nat} {ys : List Value} (h : Vs w vv m ys) (hm : m ≤ dLen) {cs : Array Value} (hb : Blk w b cs 3) (hs : o + m ≤ cs.size) :
    (Builtin.copy_ #[47, 47] ty #[.slice (some ⟨b, o, none⟩) dLen dCap, vv]).run Try.prog w = .ok (goInt m) (w.setCells b o ys) := by
  have hl := h.len
  rcases h.owns.2 with ⟨rfl, rfl⟩ | ⟨g, cap, cur, rfl, _⟩
  · obtain rfl : ys = [] := List.eq_nil_of_length_eq_zero hl
    obtain ⟨i0, hi0, h0, h1, h2⟩ := info_parts info3
    simp [Builtin.copy_, run_underlying Try.underlying47, sizeOf, typeInfo, hi0, Builtin.lenOf, Builtin.firstCells, storeCells, World.setCells]
  · have := run_copy_cells (P := Try.prog) w 47 47 ty 3 b o dLen dCap ⟨g, 0, none⟩ m cap ys Try.underlying47 size3 (by rw [hl]; exact (Nat.min_eq_left hm).symm) (fun j u hj => h.owns.cells (g := g) rfl j u hj)
      (fun j hj => by rw [hb.cell, Array.getElem?_eq_getElem (by omega)]; rfl) (fun j hj => hb.frozen _) h.one
    rw [hl] at this
    exact this
/-- copy within a block. -/
theorem run_copy_in {w : World} {ty : TypeId} {b o dLen dCap p sLen sCap : Nat} {cs : Array Value} (hb : Blk w b cs 3) (xs : List Value) (hm : sLen ≤ dLen) (hs : o + sLen ≤ cs.size) (hx : (cs.toList.drop p).take sLen = xs) (hp : p + sLen ≤ cs.size) (h1 : ∀ v ∈ xs, v.oneCell' = true) :
    (Builtin.copy_ #[47, 47] ty #[.slice (some ⟨b, o, none⟩) dLen dCap, .slice (some ⟨b, p, none⟩) sLen sCap]).run Try.prog w = .ok (goInt sLen) (w.setCells b o xs) := by
  have hl : xs.length = sLen := by rw [← hx]; simp; omega
  have := run_copy_cells (P := Try.prog) w 47 47 ty 3 b o dLen dCap ⟨b, p, none⟩ sLen sCap xs Try.underlying47 size3 (by rw [hl]; exact (Nat.min_eq_left hm).symm)
    (fun j u hj => by
      have hjl : j < sLen := by have := (List.getElem?_eq_some_iff.1 hj).1; omega
      rw [Addr.add_lit, hb.cell]
      rw [← hx, List.getElem?_take_of_lt hjl, List.getElem?_drop] at hj
      rw [← hj]
      simp)
    (fun j hj => by rw [hb.cell, Array.getElem?_eq_getElem (by omega)]; rfl) (fun j hj => hb.frozen _) h1
  rw [hl] at this
  exact this
theorem zero_run : ∀ w, (zeroValue 3).run Try.prog w = .ok (.int .i64 0) w := Try.zeroValue3
theorem run_clear_in {w : World} {ty : TypeId} {b o n c : Nat} {cs : Array Value} (hb : Blk w b cs 3) (hn : 0 < n) (hs : o + n ≤ cs.size) :
    (Builtin.clear_ #[47] ty #[.slice (some ⟨b, o, none⟩) n c]).run Try.prog w = .ok (.tuple #[]) (w.setCells b o (List.replicate n (.int .i64 0))) :=
  Lib.run_clear_slice w 47 3 ty (.int .i64 0) Try.underlying47 zero_run rfl rfl b o n c hn (fun j hj => by rw [hb.cell, Array.getElem?_eq_getElem (by omega)]; rfl) (fun j hj => hb.frozen _)
theorem run_clear_none {w : World} {ty : TypeId} {a : Option Addr} {c : Nat} :
    (Builtin.clear_ #[47] ty #[.slice a 0 c]).run Try.prog w = .ok (.tuple #[]) w := by
  cases a <;> simp [Builtin.clear_, run_underlying Try.underlying47]
end Go.Proofs.Ytiiebholgmhogaa

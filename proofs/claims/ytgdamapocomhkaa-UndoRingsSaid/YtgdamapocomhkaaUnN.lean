/- Plain facts on the rows of steps of a journal: what an append, in place or in a new block, and a drop of the first step leave. No condition: facts on worlds. -/
import Derived.Test.YtgdamapocomhkaaUnM
namespace Go.Proofs.Ytgdamapocomhkaa
open Go.RowKit Go.Shelf
set_option linter.unusedVariables false

theorem addr_add (b off j : Nat) : (⟨b, off, none⟩ : Addr).add j = ⟨b, off + j, none⟩ := by unfold Addr.add; split <;> simp_all
theorem stepAt_of_cells {W : World} {b o : Nat} {s : St} (h : ∀ i u, s.cells[i]? = some u → W.cell? ⟨b, o + i, none⟩ = some u) : StepAt W b o s :=
  ⟨h 0 _ rfl, h 1 _ rfl, h 2 _ rfl, h 3 _ rfl, h 4 _ rfl⟩
theorem StepAt.cells {W : World} {b o : Nat} {s : St} (h : StepAt W b o s) : ∀ i u, s.cells[i]? = some u → W.cell? ⟨b, o + i, none⟩ = some u := by
  intro i u hu
  obtain ⟨h0, h1, h2, h3, h4⟩ := h
  match i, hu with
  | 0, hu => cases hu; exact h0
  | 1, hu => cases hu; exact h1
  | 2, hu => cases hu; exact h2
  | 3, hu => cases hu; exact h3
  | 4, hu => cases hu; exact h4
  | i + 5, hu => simp [St.cells] at hu
theorem cells_eq {s : St} : s.cells = [.int .i64 s.pos, .string s.del, .string s.ins, .int .i64 s.ahead, .int .i64 s.behind] := rfl
theorem cellsOf_one (s : St) : cellsOf [s] = s.cells := by simp [cellsOf]

/-- The cells of a row's first steps. -/
theorem steps_cells {W : World} {b off n : Nat} {zs : List St} (h : ∀ j, j < n → StepAt W b (off + j * 5) (zs[j]?.getD St.zero)) (hn : n ≤ zs.length) :
    ∀ j u, (cellsOf (zs.take n))[j]? = some u → W.cell? ((⟨b, off, none⟩ : Addr).add j) = some u := by
  intro j u hu
  have hl : (zs.take n).length = n := by simp; omega
  have hjl : j < n * 5 := by
    have := (List.getElem?_eq_some_iff.1 hu).1
    rw [cellsOf_length, hl] at this
    exact this
  have hq : j / 5 < n := by omega
  have hr : j % 5 < 5 := Nat.mod_lt _ (by omega)
  have e : j = j / 5 * 5 + j % 5 := by omega
  rw [e, cellsOf_at _ _ _ (by omega) hr] at hu
  have h1 : (zs.take n)[j / 5]'(by omega) = zs[j / 5]?.getD St.zero := by
    rw [List.getElem?_eq_getElem (by omega)]
    simp
  rw [h1] at hu
  have := (h (j / 5) hq).cells _ _ hu
  rw [addr_add]
  have e2 : off + j = off + j / 5 * 5 + j % 5 := by omega
  rw [e2]
  exact this
theorem cellsOf_take_length {zs : List St} {n : Nat} (hn : n ≤ zs.length) : (cellsOf (zs.take n)).length = n * 5 := by
  rw [cellsOf_length]; simp; omega

/-- A row in a block of the call's own. -/
theorem row_of_owns {W : World} {jb base n : Nat} {v : Value} {L : List St} (h : W.ownsRow base 31 5 v n (cellsOf L)) (hn : L.length = n) (h0 : 0 < n) (hjb : jb < base) :
    ∃ g cap, v = .slice (some ⟨g, 0, none⟩) n cap ∧ base ≤ g ∧ n ≤ cap ∧ Row W jb v L := by
  rcases h.2 with ⟨_, hz⟩ | ⟨g, cap, cur, hv, hb, hg, hnc, hcm, hcs, htake⟩
  · omega
  · subst hv
    refine ⟨g, cap, rfl, hb, hnc, .inr ⟨g, 0, cap, cur, by rw [hn], by omega, by omega, hg, by omega, fun j hj => ?_⟩⟩
    refine stepAt_of_cells fun i u hu => ?_
    have hi : i < 5 := (List.getElem?_eq_some_iff.1 hu).1
    have hc := h.cells (g := g) rfl (j * 5 + i) u (by
      rw [cellsOf_at _ _ _ hj hi]
      rw [List.getElem?_eq_getElem hj] at hu
      exact hu)
    rw [addr_add] at hc
    have e : 0 + j * 5 + i = 0 + (j * 5 + i) := by omega
    rw [e]
    exact hc

theorem blk_there {W : World} {b off cap n : Nat} {cs : Array Value} (hB : Blk W b cs 31) (hfit : off + cap * 5 ≤ cs.size) (hn : n < cap) :
    ∀ j, j < 5 → (W.cell? ⟨b, off + n * 5 + j, none⟩).isSome = true ∧ W.frozen? ⟨b, off + n * 5 + j, none⟩ = false := by
  intro j hj
  refine ⟨?_, hB.frozen _⟩
  rw [hB.cell]
  have : off + n * 5 + j < cs.size := by omega
  rw [Array.getElem?_eq_getElem this]
  rfl

/-- One step more, in place. -/
theorem row_put {W : World} {jb b off cap n : Nat} {cs : Array Value} {zs : List St} {s : St} (hB : Blk W b cs 31) (hfit : off + cap * 5 ≤ cs.size) (hne : b ≠ jb) (hn : n < cap) (hl : n ≤ zs.length)
    (h : ∀ j, j < n → StepAt W b (off + j * 5) (zs[j]?.getD St.zero)) : Row (W.setCells b (off + n * 5) s.cells) jb (.slice (some ⟨b, off, none⟩) (n + 1) cap) (zs.take n ++ [s]) := by
  obtain ⟨cs', hB', hs'⟩ := Blk.sets s.cells (off + n * 5) hB
  have hlen : (zs.take n ++ [s]).length = n + 1 := by simp; omega
  refine .inr ⟨b, off, cap, cs', by rw [hlen], by omega, hne, hB', by omega, fun j hj => ?_⟩
  rw [hlen] at hj
  have h5 : s.cells.length = 5 := rfl
  by_cases c : j < n
  · have e : (zs.take n ++ [s])[j]?.getD St.zero = zs[j]?.getD St.zero := by
      rw [List.getElem?_append_left (by simp; omega), List.getElem?_take_of_lt c]
    rw [e]
    refine stepAt_of_cells fun i u hu => ?_
    have hi : i < 5 := (List.getElem?_eq_some_iff.1 hu).1
    rw [World.cell?_setCells_out _ _ _ _ _ (fun _ _ => .inl (by show off + j * 5 + i < _; omega))]
    exact (h j c).cells i u hu
  · obtain rfl : j = n := by omega
    have e : (zs.take j ++ [s])[j]?.getD St.zero = s := by
      rw [List.getElem?_append_right (by simp; omega)]
      have : j - (zs.take j).length = 0 := by simp; omega
      rw [this]; rfl
    rw [e]
    refine stepAt_of_cells fun i u hu => ?_
    have hi : i < 5 := (List.getElem?_eq_some_iff.1 hu).1
    rw [World.cell?_setCells_in b s.cells (off + j * 5) W (fun k hk => (blk_there hB hfit hn k (by omega)).1) i (by omega), ← hu, List.getElem?_eq_getElem (by omega)]

theorem blk_five {W : World} {b : Nat} {cs : Array Value} {t : TypeId} (hB : Blk W b cs t) (o0 o1 o2 o3 o4 : Nat) (v0 v1 v2 v3 v4 : Value) :
    ∃ cs', Blk (((((W.setCell ⟨b, o0, none⟩ v0).setCell ⟨b, o1, none⟩ v1).setCell ⟨b, o2, none⟩ v2).setCell ⟨b, o3, none⟩ v3).setCell ⟨b, o4, none⟩ v4) b cs' t ∧ cs'.size = cs.size :=
  ⟨_, ((((hB.set o0 v0).set o1 v1).set o2 v2).set o3 v3).set o4 v4, by simp only [Array.size_setIfInBounds]⟩
theorem cell_five (W : World) (b o0 o1 o2 o3 o4 : Nat) (v0 v1 v2 v3 v4 : Value) (o : Nat) (h0 : o0 ≠ o) (h1 : o1 ≠ o) (h2 : o2 ≠ o) (h3 : o3 ≠ o) (h4 : o4 ≠ o) :
    (((((W.setCell ⟨b, o0, none⟩ v0).setCell ⟨b, o1, none⟩ v1).setCell ⟨b, o2, none⟩ v2).setCell ⟨b, o3, none⟩ v3).setCell ⟨b, o4, none⟩ v4).cell? ⟨b, o, none⟩ = W.cell? ⟨b, o, none⟩ := by
  rw [World.cell?_setCell_other _ _ _ _ (by simp [*]), World.cell?_setCell_other _ _ _ _ (by simp [*]), World.cell?_setCell_other _ _ _ _ (by simp [*]), World.cell?_setCell_other _ _ _ _ (by simp [*]), World.cell?_setCell_other _ _ _ _ (by simp [*])]

/-- The first step is dropped: its cells are turned, the row begins behind it. -/
theorem row_drop {W : World} {jb b off cap : Nat} {cs : Array Value} {zs : List St} (hB : Blk W b cs 31) (hfit : off + cap * 5 ≤ cs.size) (hne : b ≠ jb) (hlc : zs.length ≤ cap) (h1 : 1 ≤ zs.length)
    (h : ∀ j, j < zs.length → StepAt W b (off + j * 5) (zs[j]?.getD St.zero)) (v0 v1 v2 v3 v4 : Value) :
    Row (((((W.setCell ⟨b, off, none⟩ v0).setCell ⟨b, off + 1, none⟩ v1).setCell ⟨b, off + 2, none⟩ v2).setCell ⟨b, off + 3, none⟩ v3).setCell ⟨b, off + 4, none⟩ v4) jb (.slice (some ⟨b, off + 5, none⟩) (zs.length - 1) (cap - 1)) (zs.drop 1) := by
  have hlen : (zs.drop 1).length = zs.length - 1 := by simp
  obtain ⟨cs', hB', hs'⟩ := blk_five hB off (off + 1) (off + 2) (off + 3) (off + 4) v0 v1 v2 v3 v4
  have hfit' : off + 5 + (cap - 1) * 5 ≤ cs'.size := by omega
  have hcell := fun o => cell_five W b off (off + 1) (off + 2) (off + 3) (off + 4) v0 v1 v2 v3 v4 o
  obtain ⟨W', hW'⟩ : ∃ W', W' = (((((W.setCell ⟨b, off, none⟩ v0).setCell ⟨b, off + 1, none⟩ v1).setCell ⟨b, off + 2, none⟩ v2).setCell ⟨b, off + 3, none⟩ v3).setCell ⟨b, off + 4, none⟩ v4) := ⟨_, rfl⟩
  rw [← hW'] at hB' hcell ⊢
  clear hW'
  refine .inr ⟨b, off + 5, cap - 1, cs', by rw [hlen], by omega, hne, hB', hfit', fun j hj => ?_⟩
  rw [hlen] at hj
  have hs := h (j + 1) (by omega)
  have e : (zs.drop 1)[j]?.getD St.zero = zs[j + 1]?.getD St.zero := by rw [List.getElem?_drop]; congr 2; omega
  rw [e]
  refine stepAt_of_cells fun i u hu => ?_
  have hi : i < 5 := (List.getElem?_eq_some_iff.1 hu).1
  have := hs.cells i u hu
  rw [hcell _ (by omega) (by omega) (by omega) (by omega) (by omega)]
  have e2 : off + 5 + j * 5 + i = off + (j + 1) * 5 + i := by omega
  rw [e2]
  exact this
theorem jn_close {X : World} {jb most : Nat} {v d : Value} {L : List St} (oJ : Blk X jb #[.int .i64 most, v, d] 65) (hR : Row X jb v L) :
    Jn (X.setCell ⟨jb, 2, none⟩ (.int .i64 (L.length : Nat))) jb most v L L.length :=
  ⟨oJ.set 2 _, Nat.le_refl _, hR.frm (Frm.put (Frm.refl _ _) 2 _) (fun k hk => (hR.lt k hk).2)⟩
end Go.Proofs.Ytgdamapocomhkaa

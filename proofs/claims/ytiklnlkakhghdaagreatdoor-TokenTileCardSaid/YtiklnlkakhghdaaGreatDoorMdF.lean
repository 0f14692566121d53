/- What slices.Clone at frames, and New and Frames of layer 6 (modes) return. Condition: stacks of at most a hundred thousand frames. -/
import Derived.Test.YtiklnlkakhghdaaGreatDoorMdW
import Derived.Test.YtiklnlkakhghdaaGreatDoorMdR
import Derived.Lib.SliceRun
namespace Go.Proofs.YtiklnlkakhghdaaGreatDoor
open Go.RowKit
set_option linter.unusedVariables false

/-- A row of frames appended to a row of the call's own, in a plain region. -/
theorem wpList_app_frames {ops : Array Oper} {rest : List Oper} {o : Oper} {a : Act} {w : World} {Q : Exit → Act → World → Prop} (hgd : o.guard = none) (s x : Operand)
    (ho : o.op = .call { callee := .builtin .append, args := #[s, x], argTypes := #[104, 104] })
    (base : Nat) (v0 : Value) (n0 : Nat) (xs0 : List Value) (hs : a.eval s = v0) (hown : w.ownsRow base 114 2 v0 n0 xs0) (b n c : Nat) (news : List Value)
    (hx : a.eval x = .slice (some ⟨b, 0, none⟩) n c) (hn : news.length = n * 2) (hc : ∀ j u, news[j]? = some u → w.cell? ((⟨b, 0, none⟩ : Addr).add j) = some u) (h1 : ∀ u ∈ news, u.oneCell' = true) (hl : n0 + n ≤ 1000000) (hbase : base ≤ w.heap.size)
    (h : ∀ v' w', w'.ownsRow base 114 2 v' (n0 + n) (xs0 ++ news) → w.grownBy w' v0.ownBlock → wpList Tryz.prog ops Q rest (a.put o.dst v') w') : wpList Tryz.prog ops Q (o :: rest) a w := by
  refine wpList_plain hgd fun _ hK => ?_
  obtain ⟨i, hi, hz, hsize, hby⟩ := info_parts infoF
  obtain ⟨v', w', hr', h2, h3, h4, h5⟩ := run_append_own_at (P := Tryz.prog) w base 104 o.type 114 i _ 2 16 Tryz.underlying104 hi hz hsize hby rfl (by omega) v0 n0 xs0 hown ⟨b, 0, none⟩ n c news hn hc
    h1 (by unfold maxLen; omega) (by omega) hbase
  unfold Oper.wp execOp
  simp only [ho, resolve, invoke, builtin, Sem.run_bind, Sem.run_pure, Result.andThen_ok, List.map_toArray, List.map_cons, List.map_nil, hs, hx, hr']
  exact hK _ _ (h v' w' h2 h3)

/-- A row of frames of a call's own: new since a world of so many blocks. -/
def Rs (w : World) (base : Nat) (v : Value) (l : List Fr) : Prop := ∃ g cap, v = .slice (some ⟨g, 0, none⟩) l.length cap ∧ base ≤ g ∧ Fw w g cap l
theorem Rs.below {w w' : World} {base : Nat} {v : Value} {l : List Fr} (h : Rs w base v l) (hb : Below w.heap.size w w') : Rs w' base v l := by
  obtain ⟨g, cap, h1, h2, h3⟩ := h
  exact ⟨g, cap, h1, h2, h3.frm (Frm.of_below (p := fun _ => False) hb) (fun h => h)⟩
theorem Rs.base {w : World} {b c : Nat} {v : Value} {l : List Fr} (h : Rs w b v l) (hc : c ≤ b) : Rs w c v l := by
  obtain ⟨g, cap, h1, h2, h3⟩ := h
  exact ⟨g, cap, h1, by omega, h3⟩

set_option maxHeartbeats 1000000 in
theorem cloneF_any (g cap : Nat) (l : List Fr) (w : World) (hF : Fw w g cap l) (h0 : 0 < l.length) (hl : l.length ≤ 100000) :
    Calls Tryz.prog 117 #[.slice (some ⟨g, 0, none⟩) l.length cap] w fun e w' => (∃ v, e = .returned v ∧ Rs w' w.heap.size v l) ∧ Below w.heap.size w w' := by
  have hcell : ∀ X, Below w.heap.size w X → ∀ j u, (cellsF l)[j]? = some u → X.cell? ((⟨g, 0, none⟩ : Addr).add j) = some u := by
    intro X hX j u hj
    have h1 := (hF.frm (Frm.of_below (p := fun _ => False) hX) (fun h => h)).owns
    exact h1.cells (g := g) rfl j u hj
  have heq := Lib.run_eql_slice_nil (P := Tryz.prog) w 104 114 (some ⟨g, 0, none⟩) l.length cap 0 0 Tryz.underlying104
  have HF := Lib.hid hF
  clear hF
  go_enter Tryz.func117, Tryz.ntmps117
  go_wp2_with (at_builtin; refine wpList_app_frames rfl _ _ rfl w.heap.size (.slice (some ⟨w.heap.size, 0, none⟩) 0 0) 0 [] rfl ⟨rfl, .inr ⟨w.heap.size, 0, _, rfl, Nat.le_refl _, Blk.new w _ _, Nat.le_refl _, by unfold maxLen; omega, rfl, rfl⟩⟩ g l.length cap (cellsF l) rfl (cellsF_length l) (hcell _ ((Below.refl _ _).alloc (Nat.le_refl _) _)) (cellsF_one l) (by omega) (by simp) ?_; intro v' w1 hown hgr)
  go_ret
  rw [Nat.zero_add, List.nil_append] at hown
  refine ⟨⟨_, rfl, ?_⟩, ((Below.refl w.heap.size w).alloc (Nat.le_refl _) (.cells #[] 114)).grown hgr (by simp) (fun k hk => by simp [Value.ownBlock] at hk; omega)⟩
  obtain ⟨g', cap', h1, h2, h3⟩ := Fw.of_owns hown rfl h0
  exact ⟨g', cap', h1, h2, h3⟩

section
variable (mb g cap p : Nat) (w : World)
set_option maxHeartbeats 1000000 in
theorem frames_any (x : Ms) (hM : Mc w mb g cap x p) (h0 : 0 < x.st.length) (hl : x.st.length ≤ 100000) :
    Calls Tryz.prog 96 #[.pointer (some ⟨mb, 0, none⟩)] w fun e w' => (∃ v, e = .returned v ∧ Rs w' w.heap.size v x.st.reverse) ∧ Below w.heap.size w w' := by
  have c0 : w.cell? ⟨mb, 0, none⟩ = some (.slice (some ⟨g, 0, none⟩) x.st.length cap) := hM.obj.cell 0
  have hcl := cloneF_any g cap x.st.reverse w hM.row (by simpa using h0) (by simpa using hl)
  rw [List.length_reverse] at hcl
  go_enter Tryz.func96, Tryz.ntmps96
  go_wp2_with fail
  refine hcl.mono ?_
  rintro e w1 ⟨⟨v, rfl, hR⟩, hB⟩
  go_wp2
  go_ret
  exact ⟨⟨v, rfl, hR⟩, hB⟩
set_option maxHeartbeats 1000000 in
theorem new_any :
    Calls Tryz.prog 93 #[] w fun e w' => e = .returned (.pointer (some ⟨w.heap.size + 1, 0, none⟩)) ∧ Mc w' (w.heap.size + 1) w.heap.size 1 Ms.start 0 ∧ Below w.heap.size w w' := by
  go_enter Tryz.func93, Tryz.ntmps93
  go_wp2
  go_ret
  refine ⟨by first | rfl | simp, ⟨?_, by omega, ?_⟩, ((Below.refl w.heap.size w).alloc (Nat.le_refl _) _).alloc (by simp) _⟩
  · exact World.size_alloc w _ ▸ Blk.new _ _ _
  · exact ⟨_, (Blk.new w _ _).alloc _, Nat.le_refl _, by unfold maxLen; omega, rfl, rfl⟩
/-- A machine of a call's own: all that it may turn is new. -/
theorem McTo.below {n : Nat} {w0 w w' : World} {mb g : Nat} {x : Ms} {p : Nat} (hB : Below n w0 w) (hn : n ≤ w.heap.size) (hm : n ≤ mb) (hg : n ≤ g) (h : McTo w mb g x p w') :
    ∃ g' cap', Mc w' mb g' cap' x p ∧ n ≤ g' ∧ Below n w0 w' := by
  obtain ⟨g', cap', h1, h2, h3⟩ := h
  refine ⟨g', cap', h1, by omega, hB.trans (h2.below hn ?_)⟩
  rintro k (h | h) <;> omega
end
end Go.Proofs.YtiklnlkakhghdaaGreatDoor

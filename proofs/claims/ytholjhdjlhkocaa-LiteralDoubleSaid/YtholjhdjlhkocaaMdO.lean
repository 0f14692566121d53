/- What open, shut and turn of layer 6 (modes) leave of a machine in memory. Condition: a machine of at most a million frames. -/
import Derived.Test.YtholjhdjlhkocaaMdM
import Derived.Maps.AppendAt
import Derived.Deep.RegionLaw
namespace Go.Proofs.Ytholjhdjlhkocaa
open Go.RowKit
set_option linter.unusedVariables false

theorem infoF : (Try.prog.info? 98).map (fun i => (i.zero, i.size, i.bytes)) = some (some (.agg #[.int .i64 0, .int .i64 0]), 2, 16) := by kernel_rfl
/-- A frame appended to a row of frames, as a step of a region that draws. -/
theorem step_app_frame {ops : Array Oper} {o : Oper} {a : Act} {w : World} {K : Act → World → Prop} {Q : Exit → Act → World → Prop} {E : Prop} (hgd : o.guard = none) (s x : Operand)
    (ho : o.op = .call { callee := .builtin .append, args := #[s, x], argTypes := #[39, 39] })
    (g n0 c0 : Nat) (xs0 : List Value) (hs : a.eval s = .slice (some ⟨g, 0, none⟩) n0 c0) (hown : w.ownsRow 0 98 2 (.slice (some ⟨g, 0, none⟩) n0 c0) n0 xs0) (b m p : Nat)
    (hx : a.eval x = .slice (some ⟨b, 0, none⟩) 1 1) (hb : Blk w b #[.int .i64 (m : Int), .int .i64 (p : Int)] 98) (hl : n0 ≤ 1000000)
    (h : ∀ g' c' w', w'.ownsRow 0 98 2 (.slice (some ⟨g', 0, none⟩) (n0 + 1) c') (n0 + 1) (xs0 ++ [.int .i64 (m : Int), .int .i64 (p : Int)]) → w.grownBy w' (some g) → (g' = g ∨ g' = w.heap.size) → K (a.put o.dst (.slice (some ⟨g', 0, none⟩) (n0 + 1) c')) w') :
    if Region.wanted o (yielded ops a.tmps) = true then Oper.wp Try.prog o a w K Q else E := by
  have hw : Region.wanted o (yielded ops a.tmps) = true := by simp [Region.wanted, hgd]
  rw [if_pos hw]
  obtain ⟨i, hi, hz, hsize, hby⟩ := info_parts infoF
  have hnews : ∀ j u, [Value.int .i64 (m : Int), .int .i64 (p : Int)][j]? = some u → w.cell? ((⟨b, 0, none⟩ : Addr).add j) = some u := by
    intro j u hj
    rw [Addr.add_lit, hb.cell, Nat.zero_add]
    simpa using hj
  obtain ⟨v', w', hr', h2, h3, h4, h5⟩ := run_append_own_at (P := Try.prog) w 0 39 o.type 98 i _ 2 16 Try.underlying39 hi hz hsize hby rfl (by omega) _ n0 xs0 hown ⟨b, 0, none⟩ 1 1 [.int .i64 (m : Int), .int .i64 (p : Int)] rfl hnews
    (by intro u hu; simp at hu; rcases hu with rfl | rfl <;> rfl) (by unfold maxLen; omega) (by omega) (Nat.zero_le _)
  unfold Oper.wp execOp
  simp only [ho, resolve, invoke, builtin, Sem.run_bind, Sem.run_pure, Result.andThen_ok, List.map_toArray, List.map_cons, List.map_nil, hs, hx, hr']
  rcases h2.2 with ⟨hv, hn⟩ | ⟨g', c', cur, hv, h6⟩
  · omega
  · subst hv
    refine h g' c' w' h2 h3 ?_
    rcases h5 with h5 | h5
    · exact .inl (by simpa [Value.ownBlock] using h5)
    · exact .inr (by simpa [Value.ownBlock] using h5)

section
variable (mb g cap p : Nat) (w : World)
set_option maxHeartbeats 1000000 in
theorem open_any (m : Nat) (st : List Fr) (fresh : Bool) (hM : Mc w mb g cap ⟨st, fresh⟩ p) (hl : st.length ≤ 1000000) :
    Calls Try.prog 96 #[.pointer (some ⟨mb, 0, none⟩), .int .i64 (m : Int)] w fun e w' => (∃ v, e = .returned v) ∧ McTo w mb g ⟨(m, p) :: st, fresh⟩ p w' := by
  have c0 : w.cell? ⟨mb, 0, none⟩ = some (.slice (some ⟨g, 0, none⟩) st.length cap) := hM.obj.cell 0
  have c2 : w.cell? ⟨mb, 2, none⟩ = some (.int .i64 p) := hM.obj.cell 2
  have hlt := hM.obj.lt
  have hne : ¬ w.heap.size = mb := by omega
  have f0 := hM.obj.frozen 0
  have hR : ∀ X, Frm (fun _ => False) w X → X.ownsRow 0 98 2 (.slice (some ⟨g, 0, none⟩) st.length cap) st.length (cellsF st.reverse) := fun X hX => by
    have := (hM.row.frm hX (fun h => h)).owns
    rwa [List.length_reverse] at this
  go_enter Try.func96, Try.ntmps96
  go_wp2
  have hgm : some mb ≠ some g := fun e => hM.ne (by simpa using e.symm)
  go_region_law (refine step_app_frame (by rfl) _ _ (by rfl) g st.length cap (cellsF st.reverse) (by rfl) (hR _ (((Frm.refl _ _).alloc _).drew)) w.heap.size m p (by rfl) ((Blk.new w _ _).drew) hl ?_; intro g' c' w' hown hgr hg'; have o7 := ((hM.obj.alloc (.cells #[.int .i64 (m : Int), .int .i64 (p : Int)] 98)).drew).grown hgr hgm; have d0 : w'.cell? ⟨mb, 0, none⟩ = some (.slice (some ⟨g, 0, none⟩) st.length cap) := o7.cell 0; have df := o7.frozen 0)
  all_goals
    go_wp2
    refine bodyPost_end (results_none rfl _ _ _) rfl ?_
    have hF : Frm (mfoot mb g) w w' := (((Frm.refl (mfoot mb g) w).alloc _).drew).grown hgr (fun k hk => .inl (.inr (by simpa using hk.symm)))
    have hgl : g < w.heap.size := hM.row.lt
    have hsz : (w.alloc (.cells #[.int .i64 (m : Int), .int .i64 (p : Int)] 98)).drew.heap.size = w.heap.size + 1 := World.size_alloc _ _
    rw [hsz] at hg'
    have hgn : g' ≠ mb := by
      rcases hg' with rfl | rfl
      · exact hM.ne
      · omega
    have hgw : g' = g ∨ w.heap.size ≤ g' := by omega
    have e : cellsF ((m, p) :: st).reverse = cellsF st.reverse ++ [Value.int .i64 (m : Int), .int .i64 (p : Int)] := by
      rw [List.reverse_cons, cellsF_append]; rfl
    rw [← e] at hown
    obtain ⟨g2, cap2, hv, _, hfw⟩ := Fw.of_owns hown (by simp) (by omega)
    cases hv
    refine ⟨⟨_, rfl⟩, _, _, ⟨o7.set 0 _, hgn, ?_⟩, hF.setCell 0 (.inl (.inl rfl)) _, hgw⟩
    exact hfw.frm (Frm.setCell (p := fun k => k = mb) (Frm.refl _ w') 0 (.inl rfl) _) hgn
set_option maxHeartbeats 1000000 in
theorem shut_any (a : Fr) (r : List Fr) (fresh : Bool) (hM : Mc w mb g cap ⟨a :: r, fresh⟩ p) (hl : r.length ≤ 1000000) :
    Calls Try.prog 67 #[.pointer (some ⟨mb, 0, none⟩)] w fun e w' => (∃ v, e = .returned v) ∧ Mc w' mb g cap ⟨r, fresh⟩ p ∧ Frm (mfoot mb g) w w' := by
  obtain ⟨z, hz⟩ : ∃ z, z = r.length + 1 := ⟨_, rfl⟩
  have c0 : w.cell? ⟨mb, 0, none⟩ = some (.slice (some ⟨g, 0, none⟩) z cap) := by rw [hz]; exact hM.obj.cell 0
  have f0 := hM.obj.frozen 0
  have hlen := hM.row.le
  simp at hlen
  have e1 : IntKind.i64.wrap ((z : Int) - 1) = (r.length : Int) := by rw [IntWalk.i64_in _ (by omega)]; omega
  have q1 : (r.length : Int) ≤ (cap : Int) := by omega
  have q2 : (r.length : Int) ≤ (z : Int) := by omega
  have q0 : (0 : Int) ≤ (r.length : Int) := by omega
  obtain ⟨k, hk⟩ : ∃ k, r.length = k := ⟨_, rfl⟩
  rw [hk] at *
  have HZ := Lib.hid hz
  have HK := Lib.hid hk
  clear hz hk
  go_enter Try.func67, Try.ntmps67
  go_wp2
  go_region
  all_goals
    go_wp2
    refine bodyPost_end (results_none rfl _ _ _) rfl ?_
    refine ⟨⟨_, rfl⟩, ⟨(hM.obj.set 0 _).drew, hM.ne, ?_⟩, ((Frm.refl _ w).setCell 0 (.inl (.inl rfl)) _).drew⟩
    have h1 := hM.row
    rw [List.reverse_cons] at h1
    exact h1.init.frm ((Frm.refl (fun k => k = mb) w).setCell 0 (.inl rfl) (.slice (some ⟨g, 0, none⟩) r.length cap)).drew hM.ne
set_option maxHeartbeats 1000000 in
theorem turn_any (m f n : Nat) (r : List Fr) (fresh : Bool) (hM : Mc w mb g cap ⟨(m, f) :: r, fresh⟩ p) (hl : r.length ≤ 1000000) :
    Calls Try.prog 65 #[.pointer (some ⟨mb, 0, none⟩), .int .i64 (n : Int)] w fun e w' => (∃ v, e = .returned v) ∧ Mc w' mb g cap ⟨(n, f) :: r, fresh⟩ p ∧ Frm (mfoot mb g) w w' := by
  obtain ⟨z, hz⟩ : ∃ z, z = r.length + 1 := ⟨_, rfl⟩
  have c0 : w.cell? ⟨mb, 0, none⟩ = some (.slice (some ⟨g, 0, none⟩) z cap) := by rw [hz]; exact hM.obj.cell 0
  have c1 := (hM.row.cell (j := r.length) (x := (m, f)) (by simp)).1
  simp only at c1
  have f1 := hM.row.frozen (r.length * 2)
  have e1 : IntKind.i64.wrap ((z : Int) - 1) = (r.length : Int) := by rw [IntWalk.i64_in _ (by omega)]; omega
  have q1 : (r.length : Int) < (z : Int) := by omega
  have q0 : (0 : Int) ≤ (r.length : Int) := by omega
  obtain ⟨k, hk⟩ : ∃ k, r.length = k := ⟨_, rfl⟩
  rw [hk] at *
  have HZ := Lib.hid hz
  have HK := Lib.hid hk
  clear hz hk
  go_enter Try.func65, Try.ntmps65
  go_wp2
  go_region
  all_goals
    go_wp2
    refine bodyPost_end (results_none rfl _ _ _) rfl ?_
    refine ⟨⟨_, rfl⟩, ⟨(hM.obj.other _ _ (Ne.symm hM.ne)).drew, hM.ne, ?_⟩, ((Frm.refl _ w).setCell _ (.inl (.inr rfl)) _).drew⟩
    have h1 := hM.row
    rw [List.reverse_cons] at h1 ⊢
    have h2 := h1.turn n
    rw [List.length_reverse] at h2
    exact h2.frm ((Frm.refl (fun _ => False) _).drew) (fun h => h)
end
end Go.Proofs.Ytholjhdjlhkocaa

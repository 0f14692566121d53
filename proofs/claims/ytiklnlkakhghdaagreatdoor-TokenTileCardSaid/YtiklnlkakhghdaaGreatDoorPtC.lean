/- What begin of layer 7 (parts) leaves of a finder in memory: a part more, and it is open. Condition: at most a million parts. -/
import Derived.Test.YtiklnlkakhghdaaGreatDoorPtB
import Derived.Test.YtiklnlkakhghdaaGreatDoorMdX
import Derived.Deep.CutRange
import Derived.Deep.DeepCutAuto
namespace Go.Proofs.YtiklnlkakhghdaaGreatDoor
open Go.RowKit
set_option linter.unusedVariables false

theorem infoP : (Tryz.prog.info? 93).map (fun i => (i.zero, i.size, i.bytes)) = some (some (.agg #[.int .i64 0, .int .i64 0, .int .i64 0, .int .i64 0, .bool false]), 5, 40) := by kernel_rfl
/-- A part appended to a row of parts, as a step of a region that draws. -/
theorem step_app_part {ops : Array Oper} {o : Oper} {a : Act} {w : World} {K : Act → World → Prop} {Q : Exit → Act → World → Prop} {E : Prop} (hgd : o.guard = none) (s x : Operand)
    (ho : o.op = .call { callee := .builtin .append, args := #[s, x], argTypes := #[90, 90] })
    (v0 : Value) (n0 : Nat) (xs0 : List Value) (hs : a.eval s = v0) (hown : w.ownsRow 0 93 5 v0 n0 xs0) (b : Nat) (p : Prt)
    (hx : a.eval x = .slice (some ⟨b, 0, none⟩) 1 1) (hb : Blk w b (cellP p).toArray 93) (hl : n0 ≤ 1000000)
    (h : ∀ g' c' w', w'.ownsRow 0 93 5 (.slice (some ⟨g', 0, none⟩) (n0 + 1) c') (n0 + 1) (xs0 ++ cellP p) → w.grownBy w' v0.ownBlock → (v0.ownBlock = some g' ∨ g' = w.heap.size) → K (a.put o.dst (.slice (some ⟨g', 0, none⟩) (n0 + 1) c')) w') :
    if Region.wanted o (yielded ops a.tmps) = true then Oper.wp Tryz.prog o a w K Q else E := by
  have hw : Region.wanted o (yielded ops a.tmps) = true := by simp [Region.wanted, hgd]
  rw [if_pos hw]
  obtain ⟨i, hi, hz, hsize, hby⟩ := info_parts infoP
  have hnews : ∀ j u, (cellP p)[j]? = some u → w.cell? ((⟨b, 0, none⟩ : Addr).add j) = some u := by
    intro j u hj
    rw [Addr.add_lit, hb.cell, Nat.zero_add]
    simpa using hj
  obtain ⟨v', w', hr', h2, h3, h4, h5⟩ := run_append_own_at (P := Tryz.prog) w 0 90 o.type 93 i _ 5 40 Tryz.underlying90 hi hz hsize hby rfl (by omega) _ n0 xs0 hown ⟨b, 0, none⟩ 1 1 (cellP p) rfl hnews
    (by intro u hu; simp [cellP] at hu; rcases hu with rfl | rfl | rfl | rfl | rfl <;> rfl) (by unfold maxLen; omega) (by omega) (Nat.zero_le _)
  unfold Oper.wp execOp
  simp only [ho, resolve, invoke, builtin, Sem.run_bind, Sem.run_pure, Result.andThen_ok, List.map_toArray, List.map_cons, List.map_nil, hs, hx, hr']
  rcases h2.2 with ⟨hv, hn⟩ | ⟨g', c', cur, hv, h6⟩
  · omega
  · subst hv
    refine h g' c' w' h2 h3 ?_
    rcases h5 with h5 | h5
    · exact .inl h5.symm
    · exact .inr (by simpa [Value.ownBlock] using h5)
theorem owns_slice {w : World} {base : Nat} {e : TypeId} {size n : Nat} {v : Value} {xs : List Value} (h : w.ownsRow base e size v n xs) : ∃ a c, v = .slice a n c := by
  rcases h.2 with ⟨rfl, rfl⟩ | ⟨g, cap, cur, rfl, _⟩
  · exact ⟨_, _, rfl⟩
  · exact ⟨_, _, rfl⟩

/-- A number more of an open one. -/
theorem fd_opens {W X w' : World} {fb n g' c' : Nat} {s : ByteArray} {pv ov : Value} {L : List Prt} {O : List Nat} (hF : Fd W fb s pv L ov O) (hX : Frm (fun _ => False) W X) (hgr : X.grownBy w' ov.ownBlock)
    (hown : w'.ownsRow 0 3 1 (.slice (some ⟨g', 0, none⟩) (O.length + 1) c') (O.length + 1) (cellsO O ++ [.int .i64 (n : Int)])) (hg : ov.ownBlock = some g' ∨ W.heap.size ≤ g') :
    FdTo W fb s pv ov L (O ++ [n]) (w'.setCell ⟨fb, 2, none⟩ (.slice (some ⟨g', 0, none⟩) (O.length + 1) c')) := by
  have hlt := hF.lt
  have F1 : Frm (fun k => ov.ownBlock = some k) W w' := (hX.mono (fun _ _ h => absurd h id)).grown hgr (fun k hk => .inl hk)
  have F2 : Frm (fun k => k = fb) w' (w'.setCell ⟨fb, 2, none⟩ (.slice (some ⟨g', 0, none⟩) (O.length + 1) c')) := (Frm.refl _ _).put _ _
  have hgf : g' ≠ fb := by
    rintro rfl
    rcases hg with h | h
    · exact hF.no h
    · have := hlt g' (.inl rfl); omega
  refine ⟨pv, .slice (some ⟨g', 0, none⟩) (O.length + 1) c', ⟨?_, ?_, ?_, hF.np, fun e => hgf (by simpa [Value.ownBlock] using e), ?_⟩, ?_, ?_⟩
  · have := (hF.obj.frm F1 hF.no).set 2 (.slice (some ⟨g', 0, none⟩) (O.length + 1) c')
    simpa using this
  · exact own_frm F2 (own_frm F1 hF.parts (fun k hk => hF.ne k hk)) (fun k hk e => hF.np (by rw [← e]; exact hk))
  · have e : cellsO (O ++ [n]) = cellsO O ++ [.int .i64 (n : Int)] := by simp [cellsO]
    rw [e, List.length_append]
    exact own_frm F2 hown (fun k hk => by simp [Value.ownBlock] at hk; omega)
  · intro b hb e
    have e2 : g' = b := by simpa [Value.ownBlock] using e
    subst e2
    rcases hg with h | h
    · exact hF.ne _ hb h
    · have := hlt g' (.inr (.inl hb)); omega
  · exact (F1.mono (fun k _ h => .inr (.inr h))).trans (F2.mono (fun k _ h => .inl h)) (fun k _ h => h)
  · rintro k (h | h | h)
    · exact .inl (.inl h)
    · exact .inl (.inr (.inl h))
    · have e2 : g' = k := by simpa [Value.ownBlock] using h
      subst e2
      rcases hg with h | h
      · exact .inl (.inr (.inr h))
      · exact .inr h
/-- A part more. -/
theorem fd_parts {W X w' : World} {fb g' c' : Nat} {s : ByteArray} {pv ov : Value} {L : List Prt} {O : List Nat} {p : Prt} (hF : Fd W fb s pv L ov O) (hX : Frm (fun _ => False) W X) (hgr : X.grownBy w' pv.ownBlock)
    (hown : w'.ownsRow 0 93 5 (.slice (some ⟨g', 0, none⟩) (L.length + 1) c') (L.length + 1) (cellsP L ++ cellP p)) (hg : pv.ownBlock = some g' ∨ W.heap.size ≤ g') :
    FdTo W fb s pv ov (L ++ [p]) O (w'.setCell ⟨fb, 1, none⟩ (.slice (some ⟨g', 0, none⟩) (L.length + 1) c')) := by
  have hlt := hF.lt
  have F1 : Frm (fun k => pv.ownBlock = some k) W w' := (hX.mono (fun _ _ h => absurd h id)).grown hgr (fun k hk => .inl hk)
  have F2 : Frm (fun k => k = fb) w' (w'.setCell ⟨fb, 1, none⟩ (.slice (some ⟨g', 0, none⟩) (L.length + 1) c')) := (Frm.refl _ _).put _ _
  have hgf : g' ≠ fb := by
    rintro rfl
    rcases hg with h | h
    · exact hF.np h
    · have := hlt g' (.inl rfl); omega
  refine ⟨.slice (some ⟨g', 0, none⟩) (L.length + 1) c', ov, ⟨?_, ?_, ?_, fun e => hgf (by simpa [Value.ownBlock] using e), hF.no, ?_⟩, ?_, ?_⟩
  · have := (hF.obj.frm F1 hF.np).set 1 (.slice (some ⟨g', 0, none⟩) (L.length + 1) c')
    simpa using this
  · have e : cellsP (L ++ [p]) = cellsP L ++ cellP p := by rw [cellsP_append]; simp [cellsP]
    rw [e, List.length_append]
    exact own_frm F2 hown (fun k hk => by simp [Value.ownBlock] at hk; omega)
  · exact own_frm F2 (own_frm F1 hF.opens (fun k hk e => hF.ne k e hk)) (fun k hk e => hF.no (by rw [← e]; exact hk))
  · intro b hb e
    have e2 : g' = b := by simpa [Value.ownBlock] using hb
    subst e2
    rcases hg with h | h
    · exact hF.ne _ h e
    · have := hlt g' (.inr (.inr e)); omega
  · exact (F1.mono (fun k _ h => .inr (.inl h))).trans (F2.mono (fun k _ h => .inl h)) (fun k _ h => h)
  · rintro k (h | h | h)
    · exact .inl (.inl h)
    · have e2 : g' = k := by simpa [Value.ownBlock] using h
      subst e2
      rcases hg with h | h
      · exact .inl (.inr (.inl h))
      · exact .inr h
    · exact .inl (.inr (.inr h))

section
variable (w : World)
set_option maxHeartbeats 4000000 in
theorem begin_core (fb n z : Nat) (s : ByteArray) (pa oa : Option Addr) (pc oc : Nat) (L : List Prt) (O : List Nat) (m k : Nat) (up : Int) (hF : Fd w fb s (.slice pa n pc) L (.slice oa z oc) O) (hn : Hid (n = L.length)) (hz : Hid (z = O.length)) (hnl : n ≤ 900000) (hzl : z ≤ 900000)
    (hup : (z = 0 ∧ up = -1) ∨ (0 < z ∧ ∃ ob j, oa = some ⟨ob, 0, none⟩ ∧ IntKind.i64.wrap ((z : Int) - 1) = ((j : Nat) : Int) ∧ j < z ∧ w.cell? ⟨ob, j, none⟩ = some (.int .i64 up))) :
    Calls Tryz.prog 143 #[.pointer (some ⟨fb, 0, none⟩), .agg #[.int .i64 (m : Int), .int .i64 (k : Int)]] w fun e w' => (∃ v, e = .returned v) ∧ FdTo w fb s (.slice pa n pc) (.slice oa z oc) (L ++ [⟨m, k, 0, up, false⟩]) (O ++ [n]) w' := by
  have hlt := hF.obj.lt
  have c1 : w.cell? ⟨fb, 1, none⟩ = some (.slice pa n pc) := hF.obj.cell 1
  have c2 : w.cell? ⟨fb, 2, none⟩ = some (.slice oa z oc) := hF.obj.cell 2
  have hne : ¬ w.heap.size = fb := by omega
  have hne1 : ¬ w.heap.size + 1 = fb := by omega
  have HF := Lib.hid hF
  have hup2 : (z = 0 ∧ up = -1) ∨ (0 < z ∧ ∃ ob j, oa = some ⟨ob, 0, none⟩ ∧ IntKind.i64.wrap ((z : Int) - 1) = ((j : Nat) : Int) ∧ j < z ∧ w.cell? ⟨ob, j, none⟩ = some (.int .i64 up) ∧ (0 : Int) < (z : Int) ∧ (j : Int) < (z : Int) ∧ ob < w.heap.size) := by
    rcases hup with h | ⟨h0, ob, j, rfl, e1, hj, h3⟩
    · exact .inl h
    · exact .inr ⟨h0, ob, j, rfl, e1, hj, h3, by omega, by omega, by
        have := hF.lt ob (.inr (.inr rfl))
        omega⟩
  clear hF hup
  go_enter Tryz.func143, Tryz.ntmps143
  rcases hup2 with ⟨rfl, rfl⟩ | ⟨h0, ob, j, rfl, e1, hj, h3, h0', h1', hob⟩
  · go_wp2
    obtain ⟨W, hW⟩ : ∃ W, W = w.alloc (.cells #[.int .i64 (m : Int), .int .i64 (k : Int)] 114) := ⟨_, rfl⟩
    have hFW : Frm (fun _ => False) w W := by rw [hW]; exact (Frm.refl _ _).alloc _
    have hWs : W.heap.size = w.heap.size + 1 := by rw [hW, World.size_alloc]
    have hbx : Blk W w.heap.size #[.int .i64 (m : Int), .int .i64 (k : Int)] 114 := by rw [hW]; exact Blk.new _ _ _
    have HFW := Lib.hid (HF.out.still hFW)
    rw [← hW]
    have d1 := HFW.out.obj.cell 1
    have d2 := HFW.out.obj.cell 2
    simp at d1 d2
    have dlt := HFW.out.obj.lt
    have hnW : ¬ W.heap.size = fb := by omega
    have HWS := Lib.hid hWs
    obtain ⟨bx, hbxe⟩ : ∃ bx, w.heap.size = bx := ⟨_, rfl⟩
    rw [hbxe] at hbx HWS hne hne1 ⊢
    have HBXE := Lib.hid hbxe
    clear hW c1 c2 hWs hbxe hlt hne1
    have hR : ∀ X, Frm (fun _ => False) W X → X.ownsRow 0 3 1 (.slice oa 0 oc) 0 (cellsO O) := fun X hX => own_frm hX (by have := HFW.out.opens; rw [← hz.out] at this; exact this) (fun _ _ h => h)
    have hno := HFW.out.no
    have hbo : (Value.slice oa 0 oc).ownBlock ≠ some bx := fun e => by
      have := HF.out.lt bx (.inr (.inr e))
      have := HBXE.out
      omega
    go_cut [] from 21 to 34 (fun wx => FdTo W fb s (.slice pa n pc) (.slice oa 0 oc) L (O ++ [n]) wx ∧ Blk wx bx #[.int .i64 (m : Int), .int .i64 (k : Int)] 114)
    case first =>
      go_region_law (refine step_app_ints (by rfl) _ _ (by rfl) (.slice oa 0 oc) 0 (cellsO O) (by rfl) (hR _ (((Frm.refl _ W).alloc _).drew)) W.heap.size 1 1 [.int .i64 (n : Int)] (by rfl) ⟨rfl, .inr ⟨W.heap.size, 1, _, rfl, Nat.zero_le _, (Blk.new W _ _).drew, Nat.le_refl _, by unfold maxLen; omega, rfl, rfl⟩⟩ (by intro u hu; simp at hu; subst hu; rfl) (by omega) (by omega) (0 + 1) rfl ?_; intro g' c' w1 hown hgr hg'; have o7 := ((HFW.out.obj.alloc (.cells #[.int .i64 (n : Int)] 3)).drew).grown hgr (Ne.symm hno); have d7 : w1.cell? ⟨fb, 2, none⟩ = some (.slice oa 0 oc) := o7.cell 2; have df := o7.frozen 2)
      all_goals
        go_wp2_with fail
        have hg2 : (Value.slice oa 0 oc).ownBlock = some g' ∨ W.heap.size ≤ g' := by
          refine hg'.imp id fun h => ?_
          have e : g' = W.heap.size + 1 := h.trans (World.size_alloc _ _)
          omega
        have hT1 := fd_opens (n := n) (g' := g') (c' := c') HFW.out (((Frm.refl _ W).alloc (.cells #[.int .i64 (n : Int)] 3)).drew) hgr (by rw [← hz.out]; exact hown) hg2
        rw [← hz.out] at hT1
        go_meet
        case rel => exact ⟨hT1, (((hbx.alloc (.cells #[.int .i64 (n : Int)] 3)).drew).grown hgr (Ne.symm hbo)).other (b' := fb) 2 (.slice (some ⟨g', 0, none⟩) (0 + 1) c') hne⟩
    case rest =>
      obtain ⟨hT1, hb1⟩ := hcut
      clear d1 d2 hR hno hbo hbx
      obtain ⟨V, hV⟩ : ∃ V, V = wc := ⟨_, rfl⟩
      rw [← hV] at hT1 hb1 ⊢
      clear hV
      obtain ⟨pv2, ov2, hF2, hFr2, hk2⟩ := hT1
      have HF2 := Lib.hid hF2
      have hP2 := hF2.parts
      rw [← hn.out] at hP2
      obtain ⟨pa2, pc2, rfl⟩ := owns_slice hP2
      have u1 := hF2.obj.cell 1
      have elt := hF2.obj.lt
      simp at u1
      have b0 : V.cell? ⟨bx, 0, none⟩ = some (.int .i64 (m : Int)) := hb1.cell 0
      have b1 : V.cell? ⟨bx, 1, none⟩ = some (.int .i64 (k : Int)) := hb1.cell 1
      have HK2 := Lib.hid hk2
      have hnp := hF2.np
      have hnV : ¬ V.heap.size = fb := by omega
      have hnb : ¬ V.heap.size = bx := by have := hb1.lt; omega
      clear hF2 hk2
      have hRP : ∀ X, Frm (fun _ => False) V X → X.ownsRow 0 93 5 (.slice pa2 n pc2) n (cellsP L) := fun X hX => own_frm hX hP2 (fun _ _ h => h)
      go_wp2
      go_region_law (refine step_app_part (by rfl) _ _ (by rfl) (.slice pa2 n pc2) n (cellsP L) (by rfl) (hRP _ (((Frm.refl _ V).alloc _).drew)) V.heap.size ⟨m, k, 0, -1, false⟩ (by rfl) ((Blk.new V _ _).drew) (by omega) ?_; intro g2 c2 w2 hown hgr hg'; have o7 := ((HF2.out.obj.alloc (.cells (cellP ⟨m, k, 0, -1, false⟩).toArray 93)).drew).grown hgr (Ne.symm hnp); have d7 : w2.cell? ⟨fb, 1, none⟩ = some (.slice pa2 n pc2) := o7.cell 1; have df := o7.frozen 1)
      all_goals
        go_wp2
        refine bodyPost_end (results_none rfl _ _ _) rfl ?_
        refine ⟨⟨_, rfl⟩, ?_⟩
        have hg3 : (Value.slice pa2 n pc2).ownBlock = some g2 ∨ V.heap.size ≤ g2 := by
          refine hg'.imp id fun h => ?_
          have e : g2 = V.heap.size + 1 := h.trans (World.size_alloc _ _)
          omega
        have hT2 := fd_parts (g' := g2) (c' := c2) (p := ⟨m, k, 0, -1, false⟩) HF2.out (((Frm.refl _ V).alloc (.cells (cellP ⟨m, k, 0, -1, false⟩).toArray 93)).drew) hgr (by rw [← hn.out]; exact hown) hg3
        rw [← hn.out] at hT2
        have hT3 := FdTo.trans hFr2 HK2.out hT2
        exact FdTo.trans (hFW.mono (fun _ _ h => absurd h id)) (fun _ h => .inl h) hT3
  · go_wp2
    obtain ⟨W, hW⟩ : ∃ W, W = w.alloc (.cells #[.int .i64 (m : Int), .int .i64 (k : Int)] 114) := ⟨_, rfl⟩
    have hFW : Frm (fun _ => False) w W := by rw [hW]; exact (Frm.refl _ _).alloc _
    have hWs : W.heap.size = w.heap.size + 1 := by rw [hW, World.size_alloc]
    have hbx : Blk W w.heap.size #[.int .i64 (m : Int), .int .i64 (k : Int)] 114 := by rw [hW]; exact Blk.new _ _ _
    have HFW := Lib.hid (HF.out.still hFW)
    rw [← hW]
    have d1 := HFW.out.obj.cell 1
    have d2 := HFW.out.obj.cell 2
    simp at d1 d2
    have dlt := HFW.out.obj.lt
    have hnW : ¬ W.heap.size = fb := by omega
    have HWS := Lib.hid hWs
    obtain ⟨bx, hbxe⟩ : ∃ bx, w.heap.size = bx := ⟨_, rfl⟩
    rw [hbxe] at hbx HWS hne hne1 ⊢
    have HBXE := Lib.hid hbxe
    clear hW c1 c2 hWs hbxe hlt hne1
    have hR : ∀ X, Frm (fun _ => False) W X → X.ownsRow 0 3 1 (.slice (some ⟨ob, 0, none⟩) z oc) z (cellsO O) := fun X hX => own_frm hX (by have := HFW.out.opens; rw [← hz.out] at this; exact this) (fun _ _ h => h)
    have hno := HFW.out.no
    have hbo : (Value.slice (some ⟨ob, 0, none⟩) z oc).ownBlock ≠ some bx := fun e => by
      have := HF.out.lt bx (.inr (.inr e))
      have := HBXE.out
      omega
    go_cut [] from 21 to 34 (fun wx => FdTo W fb s (.slice pa n pc) (.slice (some ⟨ob, 0, none⟩) z oc) L (O ++ [n]) wx ∧ Blk wx bx #[.int .i64 (m : Int), .int .i64 (k : Int)] 114)
    case first =>
      go_region_law (refine step_app_ints (by rfl) _ _ (by rfl) (.slice (some ⟨ob, 0, none⟩) z oc) z (cellsO O) (by rfl) (hR _ (((Frm.refl _ W).alloc _).drew)) W.heap.size 1 1 [.int .i64 (n : Int)] (by rfl) ⟨rfl, .inr ⟨W.heap.size, 1, _, rfl, Nat.zero_le _, (Blk.new W _ _).drew, Nat.le_refl _, by unfold maxLen; omega, rfl, rfl⟩⟩ (by intro u hu; simp at hu; subst hu; rfl) (by omega) (by omega) (z + 1) rfl ?_; intro g' c' w1 hown hgr hg'; have o7 := ((HFW.out.obj.alloc (.cells #[.int .i64 (n : Int)] 3)).drew).grown hgr (Ne.symm hno); have d7 : w1.cell? ⟨fb, 2, none⟩ = some (.slice (some ⟨ob, 0, none⟩) z oc) := o7.cell 2; have df := o7.frozen 2)
      all_goals
        go_wp2_with fail
        have hg2 : (Value.slice (some ⟨ob, 0, none⟩) z oc).ownBlock = some g' ∨ W.heap.size ≤ g' := by
          refine hg'.imp id fun h => ?_
          have e : g' = W.heap.size + 1 := h.trans (World.size_alloc _ _)
          omega
        have hT1 := fd_opens (n := n) (g' := g') (c' := c') HFW.out (((Frm.refl _ W).alloc (.cells #[.int .i64 (n : Int)] 3)).drew) hgr (by rw [← hz.out]; exact hown) hg2
        rw [← hz.out] at hT1
        go_meet
        case rel => exact ⟨hT1, (((hbx.alloc (.cells #[.int .i64 (n : Int)] 3)).drew).grown hgr (Ne.symm hbo)).other (b' := fb) 2 (.slice (some ⟨g', 0, none⟩) (z + 1) c') hne⟩
    case rest =>
      obtain ⟨hT1, hb1⟩ := hcut
      clear d1 d2 hR hno hbo hbx
      obtain ⟨V, hV⟩ : ∃ V, V = wc := ⟨_, rfl⟩
      rw [← hV] at hT1 hb1 ⊢
      clear hV
      obtain ⟨pv2, ov2, hF2, hFr2, hk2⟩ := hT1
      have HF2 := Lib.hid hF2
      have hP2 := hF2.parts
      rw [← hn.out] at hP2
      obtain ⟨pa2, pc2, rfl⟩ := owns_slice hP2
      have u1 := hF2.obj.cell 1
      have elt := hF2.obj.lt
      simp at u1
      have b0 : V.cell? ⟨bx, 0, none⟩ = some (.int .i64 (m : Int)) := hb1.cell 0
      have b1 : V.cell? ⟨bx, 1, none⟩ = some (.int .i64 (k : Int)) := hb1.cell 1
      have HK2 := Lib.hid hk2
      have hnp := hF2.np
      have hnV : ¬ V.heap.size = fb := by omega
      have hnb : ¬ V.heap.size = bx := by have := hb1.lt; omega
      clear hF2 hk2
      have hRP : ∀ X, Frm (fun _ => False) V X → X.ownsRow 0 93 5 (.slice pa2 n pc2) n (cellsP L) := fun X hX => own_frm hX hP2 (fun _ _ h => h)
      go_wp2
      go_region_law (refine step_app_part (by rfl) _ _ (by rfl) (.slice pa2 n pc2) n (cellsP L) (by rfl) (hRP _ (((Frm.refl _ V).alloc _).drew)) V.heap.size ⟨m, k, 0, up, false⟩ (by rfl) ((Blk.new V _ _).drew) (by omega) ?_; intro g2 c2 w2 hown hgr hg'; have o7 := ((HF2.out.obj.alloc (.cells (cellP ⟨m, k, 0, up, false⟩).toArray 93)).drew).grown hgr (Ne.symm hnp); have d7 : w2.cell? ⟨fb, 1, none⟩ = some (.slice pa2 n pc2) := o7.cell 1; have df := o7.frozen 1)
      all_goals
        go_wp2
        refine bodyPost_end (results_none rfl _ _ _) rfl ?_
        refine ⟨⟨_, rfl⟩, ?_⟩
        have hg3 : (Value.slice pa2 n pc2).ownBlock = some g2 ∨ V.heap.size ≤ g2 := by
          refine hg'.imp id fun h => ?_
          have e : g2 = V.heap.size + 1 := h.trans (World.size_alloc _ _)
          omega
        have hT2 := fd_parts (g' := g2) (c' := c2) (p := ⟨m, k, 0, up, false⟩) HF2.out (((Frm.refl _ V).alloc (.cells (cellP ⟨m, k, 0, up, false⟩).toArray 93)).drew) hgr (by rw [← hn.out]; exact hown) hg3
        rw [← hn.out] at hT2
        have hT3 := FdTo.trans hFr2 HK2.out hT2
        exact FdTo.trans (hFW.mono (fun _ _ h => absurd h id)) (fun _ h => .inl h) hT3
end
end Go.Proofs.YtiklnlkakhghdaaGreatDoor

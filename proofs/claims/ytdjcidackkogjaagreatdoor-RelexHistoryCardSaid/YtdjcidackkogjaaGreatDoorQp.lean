/- What begin of layer 7 (parts) leaves of a finder in memory: a part more, and it is open. Condition: at most a million parts.
What stands and begin of layer 7 (parts) do, told of a finder whole; what a mode that is set leaves. Condition: at most 900,000 parts.
What follow of layer 7 (parts) leaves of a finder in memory: the parts as they are behind one byte more. Condition: texts of at most a hundred thousand bytes. -/
import Derived.Test.YtdjcidackkogjaaGreatDoorPtB
import Derived.Test.YtdjcidackkogjaaGreatDoorMdX
import Derived.Deep.CutRange
import Derived.Deep.DeepCutAuto
import Derived.Deep.RegionWith
namespace Go.Proofs.YtdjcidackkogjaaGreatDoor
open Go.RowKit
set_option linter.unusedVariables false

theorem infoP : (Tryz.prog.info? 142).map (fun i => (i.zero, i.size, i.bytes)) = some (some (.agg #[.int .i64 0, .int .i64 0, .int .i64 0, .int .i64 0, .bool false]), 5, 40) := by kernel_rfl
theorem step_app_part {ops : Array Oper} {o : Oper} {a : Act} {w : World} {K : Act → World → Prop} {Q : Exit → Act → World → Prop} {E : Prop} (hgd : o.guard = none) (s x : Operand)
    (ho : o.op = .call { callee := .builtin .append, args := #[s, x], argTypes := #[139, 139] })
    (v0 : Value) (n0 : Nat) (xs0 : List Value) (hs : a.eval s = v0) (hown : w.ownsRow 0 142 5 v0 n0 xs0) (b : Nat) (p : Prt)
    (hx : a.eval x = .slice (some ⟨b, 0, none⟩) 1 1) (hb : Blk w b (cellP p).toArray 142) (hl : n0 ≤ 1000000)
    (h : ∀ g' c' w', w'.ownsRow 0 142 5 (.slice (some ⟨g', 0, none⟩) (n0 + 1) c') (n0 + 1) (xs0 ++ cellP p) → w.grownBy w' v0.ownBlock → (v0.ownBlock = some g' ∨ g' = w.heap.size) → K (a.put o.dst (.slice (some ⟨g', 0, none⟩) (n0 + 1) c')) w') :
    if Region.wanted o (yielded ops a.tmps) = true then Oper.wp Tryz.prog o a w K Q else E := by
  have hw : Region.wanted o (yielded ops a.tmps) = true := by simp [Region.wanted, hgd]
  rw [if_pos hw]
  obtain ⟨i, hi, hz, hsize, hby⟩ := info_parts infoP
  have hnews : ∀ j u, (cellP p)[j]? = some u → w.cell? ((⟨b, 0, none⟩ : Addr).add j) = some u := by
    intro j u hj
    rw [Addr.add_lit, hb.cell, Nat.zero_add]
    simpa using hj
  obtain ⟨v', w', hr', h2, h3, h4, h5⟩ := run_append_own_at (P := Tryz.prog) w 0 139 o.type 142 i _ 5 40 Tryz.underlying139 hi hz hsize hby rfl (by omega) _ n0 xs0 hown ⟨b, 0, none⟩ 1 1 (cellP p) rfl hnews
    (by intro u hu; simp [cellP] at hu; rcases hu with rfl | rfl | rfl | rfl | rfl <;> rfl) (by unfold maxLen; omega) (by omega) (Nat.zero_le _)
  unfold Oper.wp execOp
  simp only [ho, resolve, invoke, builtin, Sem.run_bind, Sem.run_pure, Result.andThen_ok, List.map_toArray, List.map_cons, List.map_nil, hs, hx, hr']
  rcases h2.2 with ⟨hv, hn⟩ | ⟨g', c', cur, hv, h6⟩
  · omega
  · subst hv
    refine h g' c' w' h2 h3 ?_
    rcases h5 with h5 | h5
    · exact .inl h5.symm
    · exact .inr (by simpa [Value.ownBlock] using h5)
theorem owns_slice {w : World} {base : Nat} {e : TypeId} {size n : Nat} {v : Value} {xs : List Value} (h : w.ownsRow base e size v n xs) : ∃ a c, v = .slice a n c := by
  rcases h.2 with ⟨rfl, rfl⟩ | ⟨g, cap, cur, rfl, _⟩
  · exact ⟨_, _, rfl⟩
  · exact ⟨_, _, rfl⟩

theorem fd_opens {W X w' : World} {fb n g' c' : Nat} {s : ByteArray} {pv ov : Value} {L : List Prt} {O : List Nat} (hF : Fd W fb s pv L ov O) (hX : Frm (fun _ => False) W X) (hgr : X.grownBy w' ov.ownBlock)
    (hown : w'.ownsRow 0 3 1 (.slice (some ⟨g', 0, none⟩) (O.length + 1) c') (O.length + 1) (cellsO O ++ [.int .i64 (n : Int)])) (hg : ov.ownBlock = some g' ∨ W.heap.size ≤ g') :
    FdTo W fb s pv ov L (O ++ [n]) (w'.setCell ⟨fb, 2, none⟩ (.slice (some ⟨g', 0, none⟩) (O.length + 1) c')) := by
  have hlt := hF.lt
  have F1 : Frm (fun k => ov.ownBlock = some k) W w' := (hX.mono (fun _ _ h => absurd h id)).grown hgr (fun k hk => .inl hk)
  have F2 : Frm (fun k => k = fb) w' (w'.setCell ⟨fb, 2, none⟩ (.slice (some ⟨g', 0, none⟩) (O.length + 1) c')) := (Frm.refl _ _).put _ _
  have hgf : g' ≠ fb := by
    rintro rfl
    rcases hg with h | h
    · exact hF.no h
    · have := hlt g' (.inl rfl); omega
  refine ⟨pv, .slice (some ⟨g', 0, none⟩) (O.length + 1) c', ⟨?_, ?_, ?_, hF.np, fun e => hgf (by simpa [Value.ownBlock] using e), ?_⟩, ?_, ?_⟩
  · have := (hF.obj.frm F1 hF.no).set 2 (.slice (some ⟨g', 0, none⟩) (O.length + 1) c')
    simpa using this
  · exact own_frm F2 (own_frm F1 hF.parts (fun k hk => hF.ne k hk)) (fun k hk e => hF.np (by rw [← e]; exact hk))
  · have e : cellsO (O ++ [n]) = cellsO O ++ [.int .i64 (n : Int)] := by simp [cellsO]
    rw [e, List.length_append]
    exact own_frm F2 hown (fun k hk => by simp [Value.ownBlock] at hk; omega)
  · intro b hb e
    have e2 : g' = b := by simpa [Value.ownBlock] using e
    subst e2
    rcases hg with h | h
    · exact hF.ne _ hb h
    · have := hlt g' (.inr (.inl hb)); omega
  · exact (F1.mono (fun k _ h => .inr (.inr h))).trans (F2.mono (fun k _ h => .inl h)) (fun k _ h => h)
  · rintro k (h | h | h)
    · exact .inl (.inl h)
    · exact .inl (.inr (.inl h))
    · have e2 : g' = k := by simpa [Value.ownBlock] using h
      subst e2
      rcases hg with h | h
      · exact .inl (.inr (.inr h))
      · exact .inr h
theorem fd_parts {W X w' : World} {fb g' c' : Nat} {s : ByteArray} {pv ov : Value} {L : List Prt} {O : List Nat} {p : Prt} (hF : Fd W fb s pv L ov O) (hX : Frm (fun _ => False) W X) (hgr : X.grownBy w' pv.ownBlock)
    (hown : w'.ownsRow 0 142 5 (.slice (some ⟨g', 0, none⟩) (L.length + 1) c') (L.length + 1) (cellsP L ++ cellP p)) (hg : pv.ownBlock = some g' ∨ W.heap.size ≤ g') :
    FdTo W fb s pv ov (L ++ [p]) O (w'.setCell ⟨fb, 1, none⟩ (.slice (some ⟨g', 0, none⟩) (L.length + 1) c')) := by
  have hlt := hF.lt
  have F1 : Frm (fun k => pv.ownBlock = some k) W w' := (hX.mono (fun _ _ h => absurd h id)).grown hgr (fun k hk => .inl hk)
  have F2 : Frm (fun k => k = fb) w' (w'.setCell ⟨fb, 1, none⟩ (.slice (some ⟨g', 0, none⟩) (L.length + 1) c')) := (Frm.refl _ _).put _ _
  have hgf : g' ≠ fb := by
    rintro rfl
    rcases hg with h | h
    · exact hF.np h
    · have := hlt g' (.inl rfl); omega
  refine ⟨.slice (some ⟨g', 0, none⟩) (L.length + 1) c', ov, ⟨?_, ?_, ?_, fun e => hgf (by simpa [Value.ownBlock] using e), hF.no, ?_⟩, ?_, ?_⟩
  · have := (hF.obj.frm F1 hF.np).set 1 (.slice (some ⟨g', 0, none⟩) (L.length + 1) c')
    simpa using this
  · have e : cellsP (L ++ [p]) = cellsP L ++ cellP p := by rw [cellsP_append]; simp [cellsP]
    rw [e, List.length_append]
    exact own_frm F2 hown (fun k hk => by simp [Value.ownBlock] at hk; omega)
  · exact own_frm F2 (own_frm F1 hF.opens (fun k hk e => hF.ne k e hk)) (fun k hk e => hF.no (by rw [← e]; exact hk))
  · intro b hb e
    have e2 : g' = b := by simpa [Value.ownBlock] using hb
    subst e2
    rcases hg with h | h
    · exact hF.ne _ h e
    · have := hlt g' (.inr (.inr e)); omega
  · exact (F1.mono (fun k _ h => .inr (.inl h))).trans (F2.mono (fun k _ h => .inl h)) (fun k _ h => h)
  · rintro k (h | h | h)
    · exact .inl (.inl h)
    · have e2 : g' = k := by simpa [Value.ownBlock] using h
      subst e2
      rcases hg with h | h
      · exact .inl (.inr (.inl h))
      · exact .inr h
    · exact .inl (.inr (.inr h))

section
variable (w : World)
set_option maxHeartbeats 4000000 in
theorem begin_core (fb n z : Nat) (s : ByteArray) (pa oa : Option Addr) (pc oc : Nat) (L : List Prt) (O : List Nat) (m k : Nat) (up : Int) (hF : Fd w fb s (.slice pa n pc) L (.slice oa z oc) O) (hn : Hid (n = L.length)) (hz : Hid (z = O.length)) (hnl : n ≤ 900000) (hzl : z ≤ 900000)
    (hup : (z = 0 ∧ up = -1) ∨ (0 < z ∧ ∃ ob j, oa = some ⟨ob, 0, none⟩ ∧ IntKind.i64.wrap ((z : Int) - 1) = ((j : Nat) : Int) ∧ j < z ∧ w.cell? ⟨ob, j, none⟩ = some (.int .i64 up))) :
    Calls Tryz.prog 172 #[.pointer (some ⟨fb, 0, none⟩), .agg #[.int .i64 (m : Int), .int .i64 (k : Int)]] w fun e w' => (∃ v, e = .returned v) ∧ FdTo w fb s (.slice pa n pc) (.slice oa z oc) (L ++ [⟨m, k, 0, up, false⟩]) (O ++ [n]) w' := by
  have hlt := hF.obj.lt
  have c1 : w.cell? ⟨fb, 1, none⟩ = some (.slice pa n pc) := hF.obj.cell 1
  have c2 : w.cell? ⟨fb, 2, none⟩ = some (.slice oa z oc) := hF.obj.cell 2
  have hne : ¬ w.heap.size = fb := by omega
  have hne1 : ¬ w.heap.size + 1 = fb := by omega
  have HF := Lib.hid hF
  have hup2 : (z = 0 ∧ up = -1) ∨ (0 < z ∧ ∃ ob j, oa = some ⟨ob, 0, none⟩ ∧ IntKind.i64.wrap ((z : Int) - 1) = ((j : Nat) : Int) ∧ j < z ∧ w.cell? ⟨ob, j, none⟩ = some (.int .i64 up) ∧ (0 : Int) < (z : Int) ∧ (j : Int) < (z : Int) ∧ ob < w.heap.size) := by
    rcases hup with h | ⟨h0, ob, j, rfl, e1, hj, h3⟩
    · exact .inl h
    · exact .inr ⟨h0, ob, j, rfl, e1, hj, h3, by omega, by omega, by
        have := hF.lt ob (.inr (.inr rfl))
        omega⟩
  clear hF hup
  go_enter Tryz.func172, Tryz.ntmps172
  rcases hup2 with ⟨rfl, rfl⟩ | ⟨h0, ob, j, rfl, e1, hj, h3, h0', h1', hob⟩
  · go_wp2
    obtain ⟨W, hW⟩ : ∃ W, W = w.alloc (.cells #[.int .i64 (m : Int), .int .i64 (k : Int)] 174) := ⟨_, rfl⟩
    have hFW : Frm (fun _ => False) w W := by rw [hW]; exact (Frm.refl _ _).alloc _
    have hWs : W.heap.size = w.heap.size + 1 := by rw [hW, World.size_alloc]
    have hbx : Blk W w.heap.size #[.int .i64 (m : Int), .int .i64 (k : Int)] 174 := by rw [hW]; exact Blk.new _ _ _
    have HFW := Lib.hid (HF.out.still hFW)
    rw [← hW]
    have d1 := HFW.out.obj.cell 1
    have d2 := HFW.out.obj.cell 2
    simp at d1 d2
    have dlt := HFW.out.obj.lt
    have hnW : ¬ W.heap.size = fb := by omega
    have HWS := Lib.hid hWs
    obtain ⟨bx, hbxe⟩ : ∃ bx, w.heap.size = bx := ⟨_, rfl⟩
    rw [hbxe] at hbx HWS hne hne1 ⊢
    have HBXE := Lib.hid hbxe
    clear hW c1 c2 hWs hbxe hlt hne1
    have hR : ∀ X, Frm (fun _ => False) W X → X.ownsRow 0 3 1 (.slice oa 0 oc) 0 (cellsO O) := fun X hX => own_frm hX (by have := HFW.out.opens; rw [← hz.out] at this; exact this) (fun _ _ h => h)
    have hno := HFW.out.no
    have hbo : (Value.slice oa 0 oc).ownBlock ≠ some bx := fun e => by
      have := HF.out.lt bx (.inr (.inr e))
      have := HBXE.out
      omega
    go_cut [] from 21 to 34 (fun wx => FdTo W fb s (.slice pa n pc) (.slice oa 0 oc) L (O ++ [n]) wx ∧ Blk wx bx #[.int .i64 (m : Int), .int .i64 (k : Int)] 174)
    case first =>
      go_region_law (refine step_app_ints (by rfl) _ _ (by rfl) (.slice oa 0 oc) 0 (cellsO O) (by rfl) (hR _ (((Frm.refl _ W).alloc _).drew)) W.heap.size 1 1 [.int .i64 (n : Int)] (by rfl) ⟨rfl, .inr ⟨W.heap.size, 1, _, rfl, Nat.zero_le _, (Blk.new W _ _).drew, Nat.le_refl _, by unfold maxLen; omega, rfl, rfl⟩⟩ (by intro u hu; simp at hu; subst hu; rfl) (by omega) (by omega) (0 + 1) rfl ?_; intro g' c' w1 hown hgr hg'; have o7 := ((HFW.out.obj.alloc (.cells #[.int .i64 (n : Int)] 3)).drew).grown hgr (Ne.symm hno); have d7 : w1.cell? ⟨fb, 2, none⟩ = some (.slice oa 0 oc) := o7.cell 2; have df := o7.frozen 2)
      all_goals
        go_wp2_with fail
        have hg2 : (Value.slice oa 0 oc).ownBlock = some g' ∨ W.heap.size ≤ g' := by
          refine hg'.imp id fun h => ?_
          have e : g' = W.heap.size + 1 := h.trans (World.size_alloc _ _)
          omega
        have hT1 := fd_opens (n := n) (g' := g') (c' := c') HFW.out (((Frm.refl _ W).alloc (.cells #[.int .i64 (n : Int)] 3)).drew) hgr (by rw [← hz.out]; exact hown) hg2
        rw [← hz.out] at hT1
        go_meet
        case rel => exact ⟨hT1, (((hbx.alloc (.cells #[.int .i64 (n : Int)] 3)).drew).grown hgr (Ne.symm hbo)).other (b' := fb) 2 (.slice (some ⟨g', 0, none⟩) (0 + 1) c') hne⟩
    case rest =>
      obtain ⟨hT1, hb1⟩ := hcut
      clear d1 d2 hR hno hbo hbx
      obtain ⟨V, hV⟩ : ∃ V, V = wc := ⟨_, rfl⟩
      rw [← hV] at hT1 hb1 ⊢
      clear hV
      obtain ⟨pv2, ov2, hF2, hFr2, hk2⟩ := hT1
      have HF2 := Lib.hid hF2
      have hP2 := hF2.parts
      rw [← hn.out] at hP2
      obtain ⟨pa2, pc2, rfl⟩ := owns_slice hP2
      have u1 := hF2.obj.cell 1
      have elt := hF2.obj.lt
      simp at u1
      have b0 : V.cell? ⟨bx, 0, none⟩ = some (.int .i64 (m : Int)) := hb1.cell 0
      have b1 : V.cell? ⟨bx, 1, none⟩ = some (.int .i64 (k : Int)) := hb1.cell 1
      have HK2 := Lib.hid hk2
      have hnp := hF2.np
      have hnV : ¬ V.heap.size = fb := by omega
      have hnb : ¬ V.heap.size = bx := by have := hb1.lt; omega
      clear hF2 hk2
      have hRP : ∀ X, Frm (fun _ => False) V X → X.ownsRow 0 142 5 (.slice pa2 n pc2) n (cellsP L) := fun X hX => own_frm hX hP2 (fun _ _ h => h)
      go_wp2
      go_region_law (refine step_app_part (by rfl) _ _ (by rfl) (.slice pa2 n pc2) n (cellsP L) (by rfl) (hRP _ (((Frm.refl _ V).alloc _).drew)) V.heap.size ⟨m, k, 0, -1, false⟩ (by rfl) ((Blk.new V _ _).drew) (by omega) ?_; intro g2 c2 w2 hown hgr hg'; have o7 := ((HF2.out.obj.alloc (.cells (cellP ⟨m, k, 0, -1, false⟩).toArray 142)).drew).grown hgr (Ne.symm hnp); have d7 : w2.cell? ⟨fb, 1, none⟩ = some (.slice pa2 n pc2) := o7.cell 1; have df := o7.frozen 1)
      all_goals
        go_wp2
        refine bodyPost_end (results_none rfl _ _ _) rfl ?_
        refine ⟨⟨_, rfl⟩, ?_⟩
        have hg3 : (Value.slice pa2 n pc2).ownBlock = some g2 ∨ V.heap.size ≤ g2 := by
          refine hg'.imp id fun h => ?_
          have e : g2 = V.heap.size + 1 := h.trans (World.size_alloc _ _)
          omega
        have hT2 := fd_parts (g' := g2) (c' := c2) (p := ⟨m, k, 0, -1, false⟩) HF2.out (((Frm.refl _ V).alloc (.cells (cellP ⟨m, k, 0, -1, false⟩).toArray 142)).drew) hgr (by rw [← hn.out]; exact hown) hg3
        rw [← hn.out] at hT2
        have hT3 := FdTo.trans hFr2 HK2.out hT2
        exact FdTo.trans (hFW.mono (fun _ _ h => absurd h id)) (fun _ h => .inl h) hT3
  · go_wp2
    obtain ⟨W, hW⟩ : ∃ W, W = w.alloc (.cells #[.int .i64 (m : Int), .int .i64 (k : Int)] 174) := ⟨_, rfl⟩
    have hFW : Frm (fun _ => False) w W := by rw [hW]; exact (Frm.refl _ _).alloc _
    have hWs : W.heap.size = w.heap.size + 1 := by rw [hW, World.size_alloc]
    have hbx : Blk W w.heap.size #[.int .i64 (m : Int), .int .i64 (k : Int)] 174 := by rw [hW]; exact Blk.new _ _ _
    have HFW := Lib.hid (HF.out.still hFW)
    rw [← hW]
    have d1 := HFW.out.obj.cell 1
    have d2 := HFW.out.obj.cell 2
    simp at d1 d2
    have dlt := HFW.out.obj.lt
    have hnW : ¬ W.heap.size = fb := by omega
    have HWS := Lib.hid hWs
    obtain ⟨bx, hbxe⟩ : ∃ bx, w.heap.size = bx := ⟨_, rfl⟩
    rw [hbxe] at hbx HWS hne hne1 ⊢
    have HBXE := Lib.hid hbxe
    clear hW c1 c2 hWs hbxe hlt hne1
    have hR : ∀ X, Frm (fun _ => False) W X → X.ownsRow 0 3 1 (.slice (some ⟨ob, 0, none⟩) z oc) z (cellsO O) := fun X hX => own_frm hX (by have := HFW.out.opens; rw [← hz.out] at this; exact this) (fun _ _ h => h)
    have hno := HFW.out.no
    have hbo : (Value.slice (some ⟨ob, 0, none⟩) z oc).ownBlock ≠ some bx := fun e => by
      have := HF.out.lt bx (.inr (.inr e))
      have := HBXE.out
      omega
    go_cut [] from 21 to 34 (fun wx => FdTo W fb s (.slice pa n pc) (.slice (some ⟨ob, 0, none⟩) z oc) L (O ++ [n]) wx ∧ Blk wx bx #[.int .i64 (m : Int), .int .i64 (k : Int)] 174)
    case first =>
      go_region_law (refine step_app_ints (by rfl) _ _ (by rfl) (.slice (some ⟨ob, 0, none⟩) z oc) z (cellsO O) (by rfl) (hR _ (((Frm.refl _ W).alloc _).drew)) W.heap.size 1 1 [.int .i64 (n : Int)] (by rfl) ⟨rfl, .inr ⟨W.heap.size, 1, _, rfl, Nat.zero_le _, (Blk.new W _ _).drew, Nat.le_refl _, by unfold maxLen; omega, rfl, rfl⟩⟩ (by intro u hu; simp at hu; subst hu; rfl) (by omega) (by omega) (z + 1) rfl ?_; intro g' c' w1 hown hgr hg'; have o7 := ((HFW.out.obj.alloc (.cells #[.int .i64 (n : Int)] 3)).drew).grown hgr (Ne.symm hno); have d7 : w1.cell? ⟨fb, 2, none⟩ = some (.slice (some ⟨ob, 0, none⟩) z oc) := o7.cell 2; have df := o7.frozen 2)
      all_goals
        go_wp2_with fail
        have hg2 : (Value.slice (some ⟨ob, 0, none⟩) z oc).ownBlock = some g' ∨ W.heap.size ≤ g' := by
          refine hg'.imp id fun h => ?_
          have e : g' = W.heap.size + 1 := h.trans (World.size_alloc _ _)
          omega
        have hT1 := fd_opens (n := n) (g' := g') (c' := c') HFW.out (((Frm.refl _ W).alloc (.cells #[.int .i64 (n : Int)] 3)).drew) hgr (by rw [← hz.out]; exact hown) hg2
        rw [← hz.out] at hT1
        go_meet
        case rel => exact ⟨hT1, (((hbx.alloc (.cells #[.int .i64 (n : Int)] 3)).drew).grown hgr (Ne.symm hbo)).other (b' := fb) 2 (.slice (some ⟨g', 0, none⟩) (z + 1) c') hne⟩
    case rest =>
      obtain ⟨hT1, hb1⟩ := hcut
      clear d1 d2 hR hno hbo hbx
      obtain ⟨V, hV⟩ : ∃ V, V = wc := ⟨_, rfl⟩
      rw [← hV] at hT1 hb1 ⊢
      clear hV
      obtain ⟨pv2, ov2, hF2, hFr2, hk2⟩ := hT1
      have HF2 := Lib.hid hF2
      have hP2 := hF2.parts
      rw [← hn.out] at hP2
      obtain ⟨pa2, pc2, rfl⟩ := owns_slice hP2
      have u1 := hF2.obj.cell 1
      have elt := hF2.obj.lt
      simp at u1
      have b0 : V.cell? ⟨bx, 0, none⟩ = some (.int .i64 (m : Int)) := hb1.cell 0
      have b1 : V.cell? ⟨bx, 1, none⟩ = some (.int .i64 (k : Int)) := hb1.cell 1
      have HK2 := Lib.hid hk2
      have hnp := hF2.np
      have hnV : ¬ V.heap.size = fb := by omega
      have hnb : ¬ V.heap.size = bx := by have := hb1.lt; omega
      clear hF2 hk2
      have hRP : ∀ X, Frm (fun _ => False) V X → X.ownsRow 0 142 5 (.slice pa2 n pc2) n (cellsP L) := fun X hX => own_frm hX hP2 (fun _ _ h => h)
      go_wp2
      go_region_law (refine step_app_part (by rfl) _ _ (by rfl) (.slice pa2 n pc2) n (cellsP L) (by rfl) (hRP _ (((Frm.refl _ V).alloc _).drew)) V.heap.size ⟨m, k, 0, up, false⟩ (by rfl) ((Blk.new V _ _).drew) (by omega) ?_; intro g2 c2 w2 hown hgr hg'; have o7 := ((HF2.out.obj.alloc (.cells (cellP ⟨m, k, 0, up, false⟩).toArray 142)).drew).grown hgr (Ne.symm hnp); have d7 : w2.cell? ⟨fb, 1, none⟩ = some (.slice pa2 n pc2) := o7.cell 1; have df := o7.frozen 1)
      all_goals
        go_wp2
        refine bodyPost_end (results_none rfl _ _ _) rfl ?_
        refine ⟨⟨_, rfl⟩, ?_⟩
        have hg3 : (Value.slice pa2 n pc2).ownBlock = some g2 ∨ V.heap.size ≤ g2 := by
          refine hg'.imp id fun h => ?_
          have e : g2 = V.heap.size + 1 := h.trans (World.size_alloc _ _)
          omega
        have hT2 := fd_parts (g' := g2) (c' := c2) (p := ⟨m, k, 0, up, false⟩) HF2.out (((Frm.refl _ V).alloc (.cells (cellP ⟨m, k, 0, up, false⟩).toArray 142)).drew) hgr (by rw [← hn.out]; exact hown) hg3
        rw [← hn.out] at hT2
        have hT3 := FdTo.trans hFr2 HK2.out hT2
        exact FdTo.trans (hFW.mono (fun _ _ h => absurd h id)) (fun _ h => .inl h) hT3
end
end Go.Proofs.YtdjcidackkogjaaGreatDoor
namespace Go.Proofs.YtdjcidackkogjaaGreatDoor
open Go.RowKit
set_option linter.unusedVariables false

structure FrR (w : World) (ao : Option Addr) (len : Nat) (fl : List Fr) : Prop where
  len : len = fl.length
  cells : ∀ i x, fl[i]? = some x → ∃ b off, ao = some ⟨b, off, none⟩ ∧ b < w.heap.size ∧ w.cell? ⟨b, off + i * 2, none⟩ = some (.int .i64 (x.1 : Int)) ∧ w.cell? ⟨b, off + i * 2 + 1, none⟩ = some (.int .i64 (x.2 : Int))
theorem FrR.frm {p : Nat → Prop} {w w' : World} {ao : Option Addr} {len : Nat} {fl : List Fr} (h : FrR w ao len fl) (hf : Frm p w w') (hp : ∀ b off, ao = some ⟨b, off, none⟩ → ¬ p b) : FrR w' ao len fl :=
  ⟨h.len, fun i x hx => by
    obtain ⟨b, off, h1, h2, h3, h4⟩ := h.cells i x hx
    exact ⟨b, off, h1, Nat.lt_of_lt_of_le h2 hf.size, (hf.cell h2 (hp b off h1)).trans h3, (hf.cell h2 (hp b off h1)).trans h4⟩⟩

section
variable (w : World)
theorem stands_fd (fb : Nat) (s : ByteArray) (pv : Value) (oa : Option Addr) (z oc : Nat) (L : List Prt) (O : List Nat) (o : Nat) (p : Prt) (ao : Option Addr) (len fcap : Nat) (fl : List Fr) (hF : Fd w fb s pv L (.slice oa z oc) (O ++ [o])) (hp : L[o]? = some p) (hfl : FrR w ao len fl) (hlen : len ≤ 1000000) (hO : O.length ≤ 1000000)
    (x : Bool) (hx : Hid (x = standsB fl (O.length + 1) p.frm)) :
    Calls Tryz.prog 169 #[.pointer (some ⟨fb, 0, none⟩), .slice ao len fcap] w fun e w' => e = .returned (.bool x) ∧ ∃ q, w' = w.drewN q := by
  obtain ⟨pb, pcap, ob, ocap, rfl, hov, hc, h3, hfz, hoc, hol, hpc, npf, nof, npo⟩ := hF.last hp
  cases hov
  have c1 := hF.obj.cell 1
  have c2 := hF.obj.cell 2
  simp at c1 c2
  have hl := hfl.len
  by_cases h : O.length + 1 ≤ fl.length
  · obtain ⟨b, off, rfl, _, _, h5⟩ := hfl.cells O.length fl[O.length] (List.getElem?_eq_getElem (by omega))
    refine stands_core w fb pb _ pcap ob _ O.length oc o p.frm b off len fcap (Lib.hid rfl) hO hol hlen c1 c2 h3 (hc 1 _ rfl) _ x (.inr ⟨by omega, (fl[O.length]).2, rfl, h5, ?_⟩)
    rw [hx.out]
    unfold standsB
    rw [Nat.add_sub_cancel, List.getElem?_eq_getElem (by omega)]
    simp [h]
  · refine stands_core w fb pb _ pcap ob _ O.length oc o p.frm 0 0 len fcap (Lib.hid rfl) hO hol hlen c1 c2 h3 (hc 1 _ rfl) ao x (.inl ⟨by omega, ?_⟩)
    rw [hx.out]
    unfold standsB
    simp [h]
theorem begin_fd (fb : Nat) (s : ByteArray) (pv ov : Value) (L : List Prt) (O : List Nat) (m k : Nat) (up : Int) (n : Nat) (hF : Fd w fb s pv L ov O) (hn : n = L.length) (hL : L.length ≤ 900000) (hO : O.length ≤ 900000)
    (hup : (O = [] ∧ up = -1) ∨ ∃ O' o, O = O' ++ [o] ∧ up = (o : Nat)) :
    Calls Tryz.prog 172 #[.pointer (some ⟨fb, 0, none⟩), .agg #[.int .i64 (m : Int), .int .i64 (k : Int)]] w fun e w' => (∃ v, e = .returned v) ∧ FdTo w fb s pv ov (L ++ [⟨m, k, 0, up, false⟩]) (O ++ [n]) w' := by
  subst hn
  obtain ⟨pa, pc, rfl⟩ := owns_slice hF.parts
  obtain ⟨oa, oc, rfl⟩ := owns_slice hF.opens
  refine begin_core w fb L.length O.length s pa oa pc oc L O m k up hF (Lib.hid rfl) (Lib.hid rfl) hL hO ?_
  rcases hup with ⟨rfl, rfl⟩ | ⟨O', o, rfl, rfl⟩
  · exact .inl ⟨rfl, rfl⟩
  · obtain ⟨ob, ocap, hv, _, _, _, _⟩ := owns_nil hF.opens (by simp)
    cases hv
    refine .inr ⟨by simp, ob, O'.length, rfl, ?_, by simp, ?_⟩
    · rw [IntWalk.i64_in _ (by omega)]
      simp
    · have := hF.opens.cells (g := ob) rfl O'.length (.int .i64 (o : Int)) (by simp [cellsO])
      rwa [Addr.add_lit, Nat.zero_add] at this
theorem moded {w W : World} {fb : Nat} {s : ByteArray} {pb pcap n : Nat} {ov : Value} {L : List Prt} {O : List Nat} {o : Nat} {p : Prt} (hF : Fd w fb s (.slice (some ⟨pb, 0, none⟩) n pcap) L ov O) (hn : n = L.length) (hp : L[o]? = some p)
    (hW : Frm (fun _ => False) w W) (m : Nat) :
    FdTo w fb s (.slice (some ⟨pb, 0, none⟩) n pcap) ov (L.set o { p with mode := m }) O (W.setCell ⟨pb, o * 5, none⟩ (.int .i64 (m : Int))) := by
  subst hn
  have hl : o < L.length := (List.getElem?_eq_some_iff.1 hp).1
  have hFW := hF.still hW
  have npf : pb ≠ fb := fun e => hF.np (by rw [e]; rfl)
  have h1 := owns_set hFW.parts (o * 5) (.int .i64 (m : Int)) (by rw [cellsP_length]; omega)
  have e1 : (cellsP L).set (o * 5) (.int .i64 (m : Int)) = cellsP (L.set o { p with mode := m }) := by
    have := cellsP_set (c := 0) (v := .int .i64 (m : Int)) (q := { p with mode := m }) hp ⟨rfl, by omega⟩
    rw [this, Nat.add_zero]
  rw [e1] at h1
  have F1 : Frm (fun k => k = pb) W (W.setCell ⟨pb, o * 5, none⟩ (.int .i64 (m : Int))) := (Frm.refl _ W).put _ _
  refine ⟨.slice (some ⟨pb, 0, none⟩) L.length pcap, ov, ⟨hFW.obj.frm F1 (fun e => npf e.symm), ?_, ?_, hF.np, hF.no, hF.ne⟩, ?_, fun k hk => .inl hk⟩
  · rw [List.length_set]
    exact h1
  · exact own_frm F1 hFW.opens (fun k hk e => hF.ne pb rfl (by rw [← e]; exact hk))
  · exact Frm.setCell (hW.mono (fun _ _ h => absurd h id)) _ (.inl (.inr (.inl rfl))) _
end
end Go.Proofs.YtdjcidackkogjaaGreatDoor
namespace Go.Proofs.YtdjcidackkogjaaGreatDoor
open Go.RowKit
set_option linter.unusedVariables false

theorem stands_no {s : ByteArray} {k i j m f : Nat} {T R : List Fr} (hS : Sim T ((nt s k).drop j)) (hN : nt s (k + 1) = T ∨ ∃ n, nt s (k + 1) = (n, k) :: T) (hD : (nt s k).drop i = (m, f) :: R) (hi : i < j) : standsB (nt s (k + 1)).reverse (R.length + 1) f = false := by
  unfold standsB
  rw [decide_eq_false_iff_not]
  rintro ⟨h1, h2⟩
  obtain ⟨hp, _, _⟩ := drop_pres hD
  have hlt := pres_lt hp
  obtain ⟨x, hx, hxf⟩ := Option.map_eq_some_iff.1 h2
  have hm : x ∈ nt s (k + 1) := by
    have := List.mem_of_getElem? hx
    simpa using this
  have h3 : pres s (k + 1) f = true := pres_iff.2 ⟨x.1, by rw [← hxf]; exact hm⟩
  obtain ⟨n, hn⟩ := (stay hS hN hlt).1 h3
  have hpw := nt_pw s k
  rw [← List.take_append_drop i (nt s k), hD] at hpw
  have hpw2 := (List.pairwise_append.1 hpw).2.1
  have e : (nt s k).drop j = R.drop (j - (i + 1)) := by
    rw [show j = i + ((j - (i + 1)) + 1) by omega, ← List.drop_drop, hD, List.drop_succ_cons]
    congr 1
    omega
  rw [e] at hn
  have := (List.pairwise_cons.1 hpw2).1 _ (List.mem_of_mem_drop hn)
  simp at this
theorem fl_some {s : ByteArray} {k j m f : Nat} {T R : List Fr} (hS : Sim T ((nt s k).drop j)) (hN : nt s (k + 1) = T ∨ ∃ n, nt s (k + 1) = (n, k) :: T) (hD : (nt s k).drop j = (m, f) :: R) : T = (md s (k + 1) f, f) :: R ∧ (nt s (k + 1)).reverse[R.length]? = some (md s (k + 1) f, f) ∧ standsB (nt s (k + 1)).reverse (R.length + 1) f = true := by
  obtain ⟨hp, _, _⟩ := drop_pres hD
  have hT : ∃ n, T = (n, f) :: R := by
    rw [hD] at hS
    rcases hS with rfl | ⟨m1, n1, f1, r1, h1, rfl, _⟩
    · exact ⟨m, rfl⟩
    · cases h1
      exact ⟨n1, rfl⟩
  obtain ⟨n, rfl⟩ := hT
  have hmd : md s (k + 1) f = n := by
    rcases hN with h | ⟨n2, h⟩
    · exact md_at (A := []) h
    · exact md_at (A := [(n2, k)]) h
  have hg : (nt s (k + 1)).reverse[R.length]? = some (n, f) := by
    rcases hN with h | ⟨n2, h⟩ <;> rw [h] <;> simp
  rw [hmd]
  refine ⟨rfl, hg, ?_⟩
  unfold standsB
  rw [Nat.add_sub_cancel, hg]
  have hl : R.length < (nt s (k + 1)).reverse.length := (List.getElem?_eq_some_iff.1 hg).1
  simp only [Option.map_some, decide_eq_true_iff, and_true]
  omega

def FoRel (s : ByteArray) (fb : Nat) (pv ov : Value) (k j : Nat) (w : World) (g : Nat) (wr : World) : Prop :=
  ∃ pv2 oa z oc, Fd wr fb s pv2 (LKi s k (j - g)) (.slice oa z oc) (OKi s k (j - g)) ∧ Frm (ffoot fb pv ov) w wr ∧ (∀ b, ffoot fb pv2 (.slice oa z oc) b → ffoot fb pv ov b ∨ w.heap.size ≤ b) ∧ g ≤ j

section
variable (w : World)
set_option maxRecDepth 100000 in
set_option maxHeartbeats 4000000 in
theorem follow_any (fb : Nat) (s : ByteArray) (pv ov : Value) (k k1 : Nat) (hk1 : Hid (k1 = k + 1)) (ao : Option Addr) (len fcap : Nat) (hF : Fd w fb s pv (LK s k) ov (OKi s k 0)) (hk : k < s.size) (hs : s.size ≤ 100000) (hfl : FrR w ao len (nt s (k + 1)).reverse) (hfr : ∀ b off, ao = some ⟨b, off, none⟩ → ¬ ffoot fb pv ov b) :
    Calls Tryz.prog 148 #[.pointer (some ⟨fb, 0, none⟩), .slice ao len fcap, .int .i64 (k1 : Int)] w fun e w' => (∃ v, e = .returned v) ∧ FdTo w fb s pv ov (LK s (k + 1)) (OKi s (k + 1) 0) w' := by
  obtain ⟨j, T, hj, hS, hN0⟩ := nt_tr s k
  have hN := tr_or hN0
  have hntl := nt_len s k
  have hll : len ≤ 100001 := by have h1 := hfl.len; have h2 := nt_len s (k + 1); simp at h1; omega
  have HF := Lib.hid hF
  have HS := Lib.hid hS
  have HN := Lib.hid hN
  have HN0 := Lib.hid hN0
  have HFL := Lib.hid hfl
  have HFR := Lib.hid hfr
  clear hF hS hN hN0 hfl hfr
  go_enter Tryz.func148, Tryz.ntmps148
  go_wp2
  go_loopg [] j (fun g wr => FoRel s fb pv ov k j w g wr)
  case atStart =>
    have h := HF.out
    obtain ⟨oa, oc, rfl⟩ := owns_slice h.opens
    refine ⟨pv, oa, _, oc, ?_, Frm.refl _ _, fun b hb => .inl hb, Nat.le_refl _⟩
    rw [Nat.sub_self, LKi_zero]
    exact h
  case round =>
    obtain ⟨pv2, oa, z, oc, hF2, hFr2, hk2, hgj⟩ := hrel
    have hflr := HFL.out.frm hFr2 HFR.out
    have c2 : wr.cell? ⟨fb, 2, none⟩ = some (.slice oa z oc) := hF2.obj.cell 2
    have hzo : z = (OKi s k (j - gk)).length := by
      have h1 := hF2.opens
      rcases h1.2 with ⟨h2, h3⟩ | ⟨_, _, _, h2, _⟩
      · cases h2; exact h3.symm
      · cases h2; rfl
    rw [OKi_len] at hzo
    have HFr2 := Lib.hid hFr2
    have HK2 := Lib.hid hk2
    have HFLR := Lib.hid hflr
    clear hFr2 hk2 hflr
    by_cases hg0 : gk = 0
    · -- all that the byte shut is shut
      subst hg0
      rw [Nat.sub_zero] at hF2 hzo
      cases hD : (nt s k).drop j with
      | nil =>
        have hz0 : z = 0 := by have := congrArg List.length hD; simp at this; omega
        have hO : OKi s k j = [] := by unfold OKi; rw [hD]; rfl
        have hL : LKi s k j = (bornL s k).map (prtK s (k + 1)) := LK_none HS.out HN.out hD
        rw [hO, hL] at hF2
        subst hz0
        have HD := Lib.hid hD
        clear hzo hD hO hL
        have hT0 : T = [] := by
          have := (sim_places HS.out).1
          rw [HD.out] at this
          simpa using this
        rcases HN0.out with hn | ⟨m3, hn, ho, _⟩
        · -- nothing opens
          have hln : len = 0 := by have := HFLR.out.len; rw [hn, hT0] at this; exact this
          subst hln
          have hnb := not_born HS.out hn
          have HFF := Lib.hid hF2
          clear hF2
          have HNN := Lib.hid hn
          have HNB := Lib.hid hnb
          have HT0 := Lib.hid hT0
          clear hn hnb hT0
          go_wp2
          refine bodyPost_end (results_none rfl _ _ _) rfl ?_
          refine ⟨⟨_, rfl⟩, pv2, .slice oa 0 oc, ?_, HFr2.out, HK2.out⟩
          rw [LK_next, if_neg (by rw [HNB.out]; simp), List.append_nil]
          have e : OKi s (k + 1) 0 = [] := by unfold OKi; rw [HNN.out, HT0.out]; rfl
          rw [e]
          exact HFF.out
        · -- a frame opens
          have hln : len = 1 := by have := HFLR.out.len; rw [hn, hT0] at this; exact this
          subst hln
          obtain ⟨hb, hp, hbl⟩ := is_born hn ho
          obtain ⟨b, off, rfl, hblt, q0, q1⟩ := HFLR.out.cells 0 (m3, k) (by rw [hn, hT0]; rfl)
          simp only [Nat.zero_mul, Nat.add_zero] at q0 q1
          have hup : upI s k = -1 := by unfold upI; rw [hbl, hT0]
          rw [hup] at hp
          have hlen : ((bornL s k).map (prtK s (k + 1))).length ≤ 900000 := by have := bornL_len s k; simp; omega
          have HBE := Lib.hid (fun W hW => begin_fd W fb s pv2 (.slice oa 0 oc) _ [] m3 k (-1) _ (hF2.still hW) rfl hlen (by simp) (.inl ⟨rfl, rfl⟩))
          have HNN := Lib.hid hn
          have HT0 := Lib.hid hT0
          have HB := Lib.hid hb
          have HP := Lib.hid hp
          clear hF2 hn hT0 hb hp hbl hup hlen
          go_wp2_with fail
          refine (HBE.out _ (Frm.refl _ _)).mono ?_
          rintro e w3 ⟨⟨v, rfl⟩, hT⟩
          go_wp2
          refine bodyPost_end (results_none rfl _ _ _) rfl ?_
          refine ⟨⟨_, rfl⟩, ?_⟩
          rw [LK_next, if_pos HB.out, HP.out]
          have e : OKi s (k + 1) 0 = [] ++ [((bornL s k).map (prtK s (k + 1))).length] := by
            unfold OKi
            rw [HNN.out, HT0.out]
            simp [idx]
          rw [e]
          exact FdTo.trans HFr2.out HK2.out hT
      | cons a R =>
        obtain ⟨m, f⟩ := a
        obtain ⟨hpr, hmd, hjl⟩ := drop_pres hD
        obtain ⟨hT, hfg, hst⟩ := fl_some HS.out HN.out hD
        have hRl : R.length + 1 = (nt s k).length - j := by have := congrArg List.length hD; simp at this; omega
        have hOl := OKi_last hD
        have hOn : (OKi s k (j + 1)).length = R.length := by rw [OKi_len]; omega
        have hg := LKi_get hD
        have hLs := LK_some HS.out HN.out hD
        rw [hOl] at hF2
        obtain ⟨b, off, rfl, hblt, q0, q1⟩ := HFLR.out.cells R.length _ hfg
        simp only at q0 q1
        have hRlt : R.length < len := by
          have h1 := (List.getElem?_eq_some_iff.1 hfg).1
          have := HFLR.out.len
          omega
        have HSTA := Lib.hid (fun W hW => stands_fd W fb s pv2 oa z oc _ _ _ _ (some ⟨b, off, none⟩) len fcap _ (hF2.still hW) hg (HFLR.out.frm hW (fun _ _ _ h => h)) (by omega) (by omega) true (Lib.hid (by rw [hOn, (prtK_frm s k f).1]; exact hst.symm)))
        obtain ⟨pb, pcap, ob, ocap, rfl, hov, hc, h3, hfz, hoc, hol, hpc, npf, nof, npo⟩ := hF2.last hg
        obtain ⟨rfl, hz2, rfl⟩ : oa = some ⟨ob, 0, none⟩ ∧ z = (OKi s k (j + 1)).length + 1 ∧ oc = ocap := by simpa using hov
        clear hov
        rw [hOn] at h3 hz2
        have c1 := hF2.obj.cell 1
        simp at c1
        obtain ⟨n, hn⟩ : ∃ n, (LKi s k j).length = n := ⟨_, rfl⟩
        have HLA := Lib.hid (fun (W : World) (hW : Frm (fun _ => False) wr W) => last_any W fb pb n pcap ob z R.length oc (idx s f) (Lib.hid hz2) (by omega) (by rw [← hn]; exact (hF2.still hW).obj.cell 1) ((hF2.still hW).obj.cell 2) ((hW.cell (by
          have := hF2.lt ob (.inr (.inr rfl))
          exact this) (fun h => h)).trans h3) (by omega))
        have HMO := Lib.hid (fun W hW => moded (W := W) hF2 rfl hg hW (cnt (md s (k + 1) f)))
        rw [hLs] at HMO
        have p0 := hc 0 _ rfl
        have g0 := hfz (idx s f * 5)
        rw [Nat.add_zero] at p0
        have hF20 := HFLR.out
        obtain ⟨M, hM⟩ : ∃ M, md s (k + 1) f = M := ⟨_, rfl⟩
        rw [hM] at q0 HMO
        obtain ⟨o, ho⟩ : ∃ o, idx s f = o := ⟨_, rfl⟩
        rw [ho] at HLA HMO p0 g0
        have hzr : z = R.length + 1 := by omega
        have hrl : R.length ≤ 100000 := by omega
        obtain ⟨r, hr⟩ : ∃ r, R.length = r := ⟨_, rfl⟩
        rw [hr] at q0 q1 hRlt hzr hrl
        rw [hn] at HMO
        have e1 : IntKind.i64.wrap ((z : Int) - 1) = (r : Int) := by rw [IntWalk.i64_in _ (by omega)]; omega
        have t0 : (0 : Int) < (z : Int) := by omega
        have t1 : (r : Int) < (len : Int) := by omega
        have t2 : (0 : Int) ≤ (r : Int) := by omega
        have HCO := Lib.hid (fun W => counted_any W M)
        have hqb : ∀ W, Frm (fun _ => False) wr W → W.cell? ⟨b, off + r * 2, none⟩ = some (.int .i64 (M : Int)) := fun W hW => (hW.cell hblt (fun h => h)).trans q0
        have hob : ∀ W, Frm (fun _ => False) wr W → W.cell? ⟨pb, o * 5, none⟩ = some (.int .i64 ((prtK s k f).mode : Int)) ∧ W.frozen? ⟨pb, o * 5, none⟩ = false ∧ W.cell? ⟨fb, 2, none⟩ = some (.slice (some ⟨ob, 0, none⟩) z oc) := by
          intro W hW
          have h1 := hF2.still hW
          refine ⟨(hW.cell (by have := hF2.lt pb (.inr (.inl rfl)); exact this) (fun h => h)).trans p0, owns_frozen h1.parts _, ?_⟩
          have := h1.obj.cell 2
          simp at this
          exact this
        have HQB := Lib.hid hqb
        have HOB := Lib.hid hob
        have HR := Lib.hid hr
        have HZR := Lib.hid hzr
        have HT := Lib.hid hT
        have HO := Lib.hid ho
        have HNL := Lib.hid hn
        have HOL := Lib.hid hOl
        have HON := Lib.hid hOn
        have HD := Lib.hid hD
        have HRL := Lib.hid hRl
        have hff : ∀ b', ffoot fb (.slice (some ⟨pb, 0, none⟩) n pcap) (.slice (some ⟨ob, 0, none⟩) z oc) b' → ffoot fb pv ov b' ∨ w.heap.size ≤ b' := fun b' h => HK2.out b' h
        have HFF := Lib.hid hff
        clear hF2 hF20 hzo hz2 hT hn ho hr hOl hOn hg hLs hpr hmd hjl hfg hst hRl hol hpc hoc hc h3 hfz c1 q0 q1 hM hqb hob hD hff p0 g0 hzr HK2
        go_wp2_with fail
        refine (HSTA.out _ (Frm.refl _ _)).mono ?_
        rintro e w3 ⟨rfl, q, rfl⟩
        obtain ⟨V, hV⟩ : ∃ V, V = wr.drewN q := ⟨_, rfl⟩
        have hVF : Frm (fun _ => False) wr V := by rw [hV]; exact (Frm.refl _ _).drewN q
        rw [← hV]
        clear hV c2
        obtain ⟨v0, vf, v2⟩ := HOB.out V hVF
        have vq := HQB.out V hVF
        go_wp2
        go_cut [] from 29 to 39 (fun wx => FdTo wr fb s (.slice (some ⟨pb, 0, none⟩) n pcap) (.slice (some ⟨ob, 0, none⟩) z oc) ((bornL s k).map (prtK s (k + 1))) (OKi s k (j + 1) ++ [o]) wx)
        case first =>
          go_region_with (first
            | (go_at_call 171; refine (HLA.out _ (by first | exact hVF.drew | exact hVF)).mono ?_; rintro e w4 ⟨rfl, q4, rfl⟩)
            | (go_at_call 170; refine (HCO.out _).mono ?_; rintro e w5 ⟨rfl, rfl⟩))
          all_goals
            go_wp2_with fail
            go_meet
            case rel => exact HMO.out _ (hVF.drewN _)
        case rest =>
          have HWC := Lib.hid (FdTo.trans HFr2.out HFF.out hcut)
          clear hcut v0 vf v2 vq
          rcases HN0.out with hn | ⟨m3, hn, hop, _⟩
          · -- nothing opens
            have hln : len = r + 1 := by have := HFLR.out.len; rw [hn, HT.out] at this; simp at this; rw [HR.out] at this; exact this
            have t5 : ¬ (z : Int) < (len : Int) := by have := HZR.out; omega
            have HNN := Lib.hid hn
            have HNB := Lib.hid (not_born HS.out hn)
            clear hn hln
            go_wp2
            refine bodyPost_end (results_none rfl _ _ _) rfl ?_
            refine ⟨⟨_, rfl⟩, ?_⟩
            rw [LK_next, if_neg (by rw [HNB.out]; simp), List.append_nil]
            have e : OKi s (k + 1) 0 = OKi s k (j + 1) ++ [o] := by
              rw [← HO.out, ← HOL.out, ← OK_same HS.out]
              unfold OKi
              rw [List.drop_zero, HNN.out]
            rw [e]
            exact HWC.out
          · -- a frame opens
            have hln : len = r + 1 + 1 := by have := HFLR.out.len; rw [hn, HT.out] at this; simp at this; rw [HR.out] at this; exact this
            have t5 : (z : Int) < (len : Int) := by have := HZR.out; omega
            obtain ⟨hb, hp, hbl⟩ := is_born hn hop
            have hup : upI s k = (o : Nat) := by unfold upI; rw [hbl, HT.out]; simp [HO.out]
            rw [hup] at hp
            obtain ⟨pv3, ov3, hF3, hFr3, hk3⟩ := HWC.out
            have hfl3 := HFL.out.frm hFr3 HFR.out
            obtain ⟨b', off', hbe, hblt', q0, q1⟩ := hfl3.cells z (m3, k) (by rw [HZR.out, ← HR.out, hn, HT.out]; simp)
            cases hbe
            simp only at q0 q1
            have hlen : ((bornL s k).map (prtK s (k + 1))).length ≤ 900000 := by have := bornL_len s k; simp; omega
            have hOl2 : (OKi s k (j + 1) ++ [o]).length ≤ 900000 := by
              have h1 := HON.out
              have h2 := HR.out
              rw [List.length_append, h1, h2]
              simp
              omega
            have HBE := Lib.hid (fun W hW => begin_fd W fb s pv3 ov3 _ _ m3 k (o : Nat) _ (hF3.still hW) rfl hlen hOl2 (.inr ⟨_, _, rfl, rfl⟩))
            have HNN := Lib.hid hn
            have HB := Lib.hid hb
            have HP := Lib.hid hp
            have HFr3 := Lib.hid hFr3
            have HK3 := Lib.hid hk3
            clear hF3 hFr3 hk3 hfl3 hn hb hp hbl hup hlen hOl2 hln
            go_wp2_with fail
            refine (HBE.out _ (Frm.refl _ _)).mono ?_
            rintro e w3 ⟨⟨v, rfl⟩, hT⟩
            go_wp2
            refine bodyPost_end (results_none rfl _ _ _) rfl ?_
            refine ⟨⟨_, rfl⟩, ?_⟩
            rw [LK_next, if_pos HB.out, HP.out]
            have e : OKi s (k + 1) 0 = OKi s k (j + 1) ++ [o] ++ [((bornL s k).map (prtK s (k + 1))).length] := by
              rw [← HO.out, ← HOL.out, ← OK_same HS.out]
              unfold OKi
              rw [List.drop_zero, HNN.out]
              simp [idx]
            rw [e]
            exact FdTo.trans HFr3.out HK3.out hT
    · -- one more is shut
      have hlt : j - gk < j := by omega
      cases hD : (nt s k).drop (j - gk) with
      | nil => exact absurd hD (by intro h; have := congrArg List.length h; simp at this; omega)
      | cons a R =>
        obtain ⟨m, f⟩ := a
        obtain ⟨hpr, hmd, hjl⟩ := drop_pres hD
        have hst := stands_no HS.out HN.out hD hlt
        have hRl : R.length + 1 = (nt s k).length - (j - gk) := by have := congrArg List.length hD; simp at this; omega
        have hOl := OKi_last hD
        have hOn : (OKi s k (j - gk + 1)).length = R.length := by rw [OKi_len]; omega
        have hg := LKi_get hD
        have hsu := LKi_succ hD
        rw [hOl] at hF2
        have hfk := (prtK_frm s k f).1
        have HSTA := Lib.hid (fun W hW => stands_fd W fb s pv2 oa z oc _ _ _ _ ao len fcap _ (hF2.still hW) hg (HFLR.out.frm hW (fun _ _ _ h => h)) (by omega) (by omega) false (Lib.hid (by rw [hOn, hfk]; exact hst.symm)))
        have HEND := Lib.hid (fun W hW => end_any W fb s pv2 (.slice oa z oc) _ _ _ _ (k + 1) false (hF2.still hW) hg hs (by rw [hfk]; have := pres_lt hpr; omega) (by omega))
        rw [hsu, ← hk1.out] at HEND
        have t0 : (0 : Int) < (z : Int) := by omega
        have HE := Lib.hid (show j - gk + 1 = j - (gk - 1) by omega)
        have hgg : gk - 1 < gk := by omega
        clear hF2 hzo hD hpr hmd hjl hst hRl hOl hOn hg hsu hfk
        go_wp2_with fail
        refine (HSTA.out _ (Frm.refl _ _)).mono ?_
        rintro e w3 ⟨rfl, q, rfl⟩
        obtain ⟨V, hV⟩ : ∃ V, V = wr.drewN q := ⟨_, rfl⟩
        have hVF : Frm (fun _ => False) wr V := by rw [hV]; exact (Frm.refl _ _).drewN q
        rw [← hV]
        clear hV c2
        go_wp2_with fail
        refine (HEND.out _ hVF).mono ?_
        rintro e w4 ⟨⟨v, rfl⟩, hT⟩
        go_wp2
        go_roundg (gk - 1)
        case measure => exact hgg
        case rel =>
          obtain ⟨pv3, ov3, h1, h2, h3⟩ := FdTo.trans HFr2.out HK2.out (FdTo.trans (hVF.mono (fun _ _ h => absurd h id)) (fun _ h => .inl h) hT)
          rw [HE.out] at h1
          obtain ⟨oa3, oc3, rfl⟩ := owns_slice h1.opens
          exact ⟨pv3, oa3, _, oc3, h1, h2, h3, by omega⟩
end
end Go.Proofs.YtdjcidackkogjaaGreatDoor

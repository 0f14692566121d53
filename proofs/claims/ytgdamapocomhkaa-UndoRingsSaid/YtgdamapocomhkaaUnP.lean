/- What Push of layer 2 (undo) leaves in memory: the journal with the steps that are done now, and nothing undone. Conditions: the journal at hand lies in memory as such, with at most a million steps, texts below a million. -/
import Derived.Test.YtgdamapocomhkaaUnL
import Derived.Test.YtgdamapocomhkaaUnJ
import Derived.Test.YtgdamapocomhkaaUnK
import Derived.Test.YtgdamapocomhkaaUnN
import Derived.StillTailTactics
import Derived.Deep.RegionLaw
import Derived.Deep.RegionLawGrows
import Derived.Deep.CutRange
import Derived.Deep.DeepCutAuto
namespace Go.Proofs.Ytgdamapocomhkaa
open Go.RowKit Go.Shelf
set_option linter.unusedVariables false

/-- One step for the last one that was done and s, if they are one edit, else s; and how many steps stay ahead of it. -/
def joinedSt (steps : List St) (done : Nat) (s : St) : St × Nat :=
  match done with
  | 0 => (s, 0)
  | d + 1 => match joinSt (steps[d]?.getD St.zero) s with
    | none => (s, d + 1)
    | some e => (e, d)
theorem joinedSt_le (steps : List St) (done : Nat) (s : St) : (joinedSt steps done s).2 ≤ done ∧ done ≤ (joinedSt steps done s).2 + 1 := by
  unfold joinedSt
  split
  · simp
  · split <;> simp

theorem joined_any (jb most : Nat) (sv : Value) (steps : List St) (w : World) (s : St) (done : Nat) (hJ : Jn w jb most sv steps done) (hlen : steps.length ≤ 1000000)
    (h1 : ∀ x ∈ steps, x.del.size ≤ 1000000 ∧ x.ins.size ≤ 1000000) (h3 : s.del.size ≤ 1000000) (h4 : s.ins.size ≤ 1000000) (s' : St) (n : Nat) (hj : joinedSt steps done s = (s', n)) :
    Calls Try.prog 24 #[.pointer (some ⟨jb, 0, none⟩), .agg #[.int .i64 s.pos, .string s.del, .string s.ins, .int .i64 s.ahead, .int .i64 s.behind]] w fun e w' => e = .returned (.tuple #[.agg #[.int .i64 s'.pos, .string s'.del, .string s'.ins, .int .i64 s'.ahead, .int .i64 s'.behind], .int .i64 (n : Nat)]) ∧ Below w.heap.size w w' := by
  cases done with
  | zero =>
    cases hj
    exact joined_zero jb most sv steps w s hJ
  | succ d =>
    have hle := hJ.le
    have hd : d < steps.length := by omega
    have hx : steps[d]?.getD St.zero ∈ steps := by
      rw [List.getElem?_eq_getElem hd]
      exact List.getElem_mem hd
    obtain ⟨x1, x2⟩ := h1 _ hx
    unfold joinedSt at hj
    simp only at hj
    split at hj
    · rename_i hn
      cases hj
      exact joined_none jb most sv steps w s _ hJ hlen _ rfl hn x1 x2 h3 h4
    · rename_i e he
      cases hj
      exact joined_some jb most sv steps w s _ hJ hlen _ rfl _ he x1 x2 h3 h4

/-- The steps behind a push: so many of the old ones and the new one; of more than most the first is dropped. -/
def pushL (most : Nat) (steps : List St) (n : Nat) (s : St) : List St := if most < n + 1 then (steps.take n ++ [s]).drop 1 else steps.take n ++ [s]

set_option maxRecDepth 100000 in
set_option maxHeartbeats 4000000 in
theorem push_core (jb most : Nat) (sv : Value) (steps : List St) (w : World) (s : St) (done : Nat) (hJ : Jn w jb most sv steps done) (hlen : steps.length ≤ 1000000)
    (h0m : 1 ≤ most) (hlm : steps.length ≤ most) (h1 : ∀ x ∈ steps, x.del.size ≤ 1000000 ∧ x.ins.size ≤ 1000000) (h3 : s.del.size ≤ 1000000) (h4 : s.ins.size ≤ 1000000) (join : Bool) (s' : St) (n : Nat) (hj : (if join = true then joinedSt steps done s else (s, done)) = (s', n)) :
    Calls Try.prog 9 #[.pointer (some ⟨jb, 0, none⟩), .agg #[.int .i64 s.pos, .string s.del, .string s.ins, .int .i64 s.ahead, .int .i64 s.behind], .bool join] w fun e w' => (∃ v, e = .returned v) ∧ ∃ sv', Jn w' jb most sv' (pushL most steps n s') (pushL most steps n s').length ∧ Frm (foot jb sv) w w' ∧ (∀ k, sv'.ownBlock = some k → sv.ownBlock = some k ∨ w.heap.size ≤ k) := by
  have c2 : w.cell? ⟨jb, 2, none⟩ = some (.int .i64 done) := hJ.obj.cell 2
  have hl := hJ.obj.lt
  have n1 := World.new_ne w ⟨jb, 0, none⟩ (hJ.obj.cell 0)
  go_enter Try.func9, Try.ntmps9
  go_upto_if 12 with fail
  go_cut [6] (fun a6 wx => a6 = .int .i64 (n : Nat) ∧ Frm (fun _ => False) w wx ∧ Blk wx w.heap.size #[.int .i64 s'.pos, .string s'.del, .string s'.ins, .int .i64 s'.ahead, .int .i64 s'.behind] 31)
  case first =>
    cases join
    · go_wp2_with fail
      obtain ⟨rfl, rfl⟩ : s = s' ∧ done = n := by simpa using hj
      go_meet
      case rel => exact ⟨rfl, (Frm.refl _ _).alloc _, Blk.new _ _ _⟩
    · go_wp2_with (go_at_call 24; refine (joined_any jb most sv steps _ s done (hJ.frm (Frm.of_below (p := fun _ => False) ((Below.refl _ _).alloc (Nat.le_refl _) _)) (fun _ _ h => h)) hlen h1 h3 h4 s' n (by simpa [*] using hj)).mono ?_; rintro e w1 ⟨rfl, hb⟩; obtain ⟨hc, hf⟩ := bcell hb)
      go_meet
      case rel =>
        have b0 : Blk w1 w.heap.size #[.int .i64 s.pos, .string s.del, .string s.ins, .int .i64 s.ahead, .int .i64 s.behind] 31 := Blk.below (Blk.new w _ _) hb
        exact ⟨rfl, (Frm.of_below (below_new _ hb)).five (.inr (Nat.le_refl _)) _ _ _ _ _, ((((b0.set 0 _).set 1 _).set 2 _).set 3 _).set 4 _⟩
  case rest =>
    obtain ⟨rfl, hF, b4⟩ := hcut
    have hJ1 := hJ.frm hF (fun _ _ h => h)
    obtain ⟨ao, cap, hsv⟩ := hJ1.row.form
    subst hsv
    have k1 : wc.cell? ⟨jb, 1, none⟩ = some (.slice ao steps.length cap) := hJ1.obj.cell 1
    have k2 : wc.cell? ⟨jb, 2, none⟩ = some (.int .i64 done) := hJ1.obj.cell 2
    obtain ⟨i0, hi, hz0, hz1, hz2⟩ := info_parts infoT
    have hle := hJ1.le
    have n2 : ¬ w.heap.size = jb := n1
    have hnd : n ≤ done ∧ done ≤ n + 1 := by
      cases join
      · obtain ⟨rfl, rfl⟩ : s = s' ∧ done = n := by simpa using hj
        omega
      · have hz := joinedSt_le steps done s
        have hj' : joinedSt steps done s = (s', n) := by simpa using hj
        rw [hj'] at hz
        exact hz
    by_cases hd : done < steps.length
    · rcases hJ1.row with ⟨_, h0⟩ | ⟨b, off, cap', cs, hsl, hlc, hbj, hB, hfit, hsteps⟩
      · rw [h0] at hd; simp at hd
      · obtain ⟨rfl, rfl⟩ : ao = some ⟨b, off, none⟩ ∧ cap = cap' := by simpa using hsl
        have hd' : (done : Int) < (steps.length : Int) := by omega
        go_wp2
        go_quiet (fail)
        obtain ⟨W, hW⟩ : ∃ W, W = wc.drewN nq := ⟨_, rfl⟩
        have hFW : Frm (fun _ => False) wc W := hW ▸ (Frm.refl _ _).drewN nq
        rw [← hW]
        clear hW
        have hJ2 := hJ1.frm hFW (fun _ _ h => h)
        have b5 := b4.frm hFW (fun h => h)
        have kq1 : W.cell? ⟨jb, 1, none⟩ = some (.slice (some ⟨b, off, none⟩) steps.length cap) := hJ2.obj.cell 1
        have m0 : W.cell? ⟨w.heap.size, 0, none⟩ = some (.int .i64 s'.pos) := b5.cell 0
        have m1 : W.cell? ⟨w.heap.size, 1, none⟩ = some (.string s'.del) := b5.cell 1
        have m2 : W.cell? ⟨w.heap.size, 2, none⟩ = some (.string s'.ins) := b5.cell 2
        have m3 : W.cell? ⟨w.heap.size, 3, none⟩ = some (.int .i64 s'.ahead) := b5.cell 3
        have m4 : W.cell? ⟨w.heap.size, 4, none⟩ = some (.int .i64 s'.behind) := b5.cell 4
        go_wp2
        have hq0 : (0 : Int) ≤ (n : Int) := by omega
        have hq1 : (n : Int) ≤ (cap : Int) := by omega
        have hq2 : (n : Int) ≤ (n : Int) := by omega
        have hBW := hB.frm hFW (fun h => h)
        have hsW : ∀ j, j < steps.length → StepAt W b (off + j * 5) (steps[j]?.getD St.zero) := fun j hj => (hsteps j hj).frm hFW hB.lt (fun h => h)
        have hnl : n ≤ steps.length := by omega
        have hLl : (steps.take n ++ [s']).length = n + 1 := by simp; omega
        have holds : ∀ X, Frm (fun _ => False) W X → ∀ j u, (cellsOf (steps.take n))[j]? = some u → X.cell? ((⟨b, off, none⟩ : Addr).add j) = some u := fun X hX => steps_cells (fun j hj => (hsW j (by omega)).frm hX hBW.lt (fun h => h)) hnl
        have hml : n + 1 ≤ maxLen := by unfold maxLen; omega
        have hjl2 := hJ2.obj.lt
        have n3 : ¬ W.heap.size = jb := by omega
        have n4 : ¬ W.heap.size = w.heap.size := by have := b5.lt; omega
        have hFw : Frm (foot jb (.slice (some ⟨b, off, none⟩) steps.length cap)) w W := (hF.trans hFW (fun _ _ h => h)).mono (fun _ _ h => h.elim)
        go_cut [] (fun wx => ∃ g off2 cap2, Blk wx jb #[.int .i64 most, .slice (some ⟨g, off2, none⟩) (n + 1) cap2, .int .i64 done] 65 ∧ Row wx jb (.slice (some ⟨g, off2, none⟩) (n + 1) cap2) (steps.take n ++ [s']) ∧ Frm (foot jb (.slice (some ⟨b, off, none⟩) steps.length cap)) W wx ∧ (g = b ∨ W.heap.size ≤ g))
        case first =>
          go_region_law (refine step_append_grows (by rfl) _ _ _ (by rfl) 31 i0 _ 5 56 Try.underlying27 hi hz0 hz1 hz2 rfl (by omega) (some ⟨b, off, none⟩) n n (cellsOf (steps.take n)) (by rfl) (by intro h; cases h) (cellsOf_take_length hnl) (by intro b' hb'; cases hb'; exact holds _ (((Frm.refl _ _).alloc _).drew)) ⟨W.heap.size, 0, none⟩ 1 1 s'.cells (by rfl) (by rfl) (World.news_of_block (cs := #[.int .i64 s'.pos, .string s'.del, .string s'.ins, .int .i64 s'.ahead, .int .i64 s'.behind]) (t := 31) (fr := (0, 0)) (heap_alloc_new W _)) (by simp [St.cells, Value.oneCell']) (by omega) hml (by omega) ?_; intro v' w' hown hgrow; obtain ⟨g, cap2, rfl, hg, hnc2, hRow⟩ := row_of_owns (jb := jb) (L := steps.take n ++ [s']) (by rw [cellsOf_append, cellsOf_one]; exact hown) hLl (by omega) (by simp; omega); have hFv : Frm (fun _ => False) W w' := Frm.grown (((Frm.refl _ _).alloc _).drew) hgrow (fun k h => by cases h); have o7 := hJ2.obj.frm hFv (fun h => h); have f7 := o7.frozen 1; have c7 := o7.cell 1)
          all_goals
            go_wp2_with fail
            go_meet
            case rel => exact ⟨g, 0, cap2, o7.set 1 _, hRow.frm (Frm.put (Frm.refl _ _) 1 _) (fun k hk => (hRow.lt k hk).2), (hFv.mono (fun _ _ h => h.elim)).setCell 1 (.inl (.inl rfl)) _, .inr (by simp at hg; omega)⟩
        case rest =>
          obtain ⟨g, off2, cap2, oJ, hR, hF7, hg⟩ := hcut
          have hd0 : wc.cell? ⟨jb, 0, none⟩ = some (.int .i64 most) := oJ.cell 0
          have hd1 : wc.cell? ⟨jb, 1, none⟩ = some (.slice (some ⟨g, off2, none⟩) (n + 1) cap2) := oJ.cell 1
          have hd2 : wc.cell? ⟨jb, 2, none⟩ = some (.int .i64 done) := oJ.cell 2
          have hdf1 := oJ.frozen 1
          have hdf2 := oJ.frozen 2
          have hLl : (steps.take n ++ [s']).length = n + 1 := by simp; omega
          have hgj := (hR.lt g rfl).2
          by_cases hov : most < n + 1
          · exfalso; omega
          · have hov' : ¬ (most : Int) < (n : Int) + 1 := by omega
            go_wp2
            go_quiet (fail)
            go_wp2
            have hcl := jn_close (X := wc.drewN nq) oJ hR
            have hpl : pushL most steps n s' = steps.take n ++ [s'] := by unfold pushL; rw [if_neg hov]
            rw [hLl] at hcl
            simp only [Int.natCast_add, Int.cast_ofNat_Int] at hcl
            refine bodyPost_end (results_none rfl _ _ _) rfl ?_
            refine ⟨⟨_, rfl⟩, _, by rw [hpl, hLl]; exact hcl, ((hFw.trans hF7 (fun i hi h => h)).drewN nq).setCell 2 (.inl (.inl rfl)) _, fun k hk => ?_⟩
            obtain rfl : g = k := by simpa [Value.ownBlock] using hk
            rcases hg with rfl | hg
            · exact .inl rfl
            · exact .inr (Nat.le_trans hFw.size hg)
    · by_cases hroom : n < cap
      · rcases hJ1.row with ⟨hsl, h0⟩ | ⟨b, off, cap', cs, hsl, hlc, hbj, hB, hfit, hsteps⟩
        · exfalso
          obtain ⟨_, _, rfl⟩ : ao = none ∧ steps.length = 0 ∧ cap = 0 := by simpa using hsl
          omega
        · obtain ⟨rfl, rfl⟩ : ao = some ⟨b, off, none⟩ ∧ cap = cap' := by simpa using hsl
          have hd' : ¬ (done : Int) < (steps.length : Int) := by omega
          go_wp2
          go_quiet (fail)
          obtain ⟨W, hW⟩ : ∃ W, W = wc.drewN nq := ⟨_, rfl⟩
          have hFW : Frm (fun _ => False) wc W := hW ▸ (Frm.refl _ _).drewN nq
          rw [← hW]
          clear hW
          have hJ2 := hJ1.frm hFW (fun _ _ h => h)
          have b5 := b4.frm hFW (fun h => h)
          have kq1 : W.cell? ⟨jb, 1, none⟩ = some (.slice (some ⟨b, off, none⟩) steps.length cap) := hJ2.obj.cell 1
          have m0 : W.cell? ⟨w.heap.size, 0, none⟩ = some (.int .i64 s'.pos) := b5.cell 0
          have m1 : W.cell? ⟨w.heap.size, 1, none⟩ = some (.string s'.del) := b5.cell 1
          have m2 : W.cell? ⟨w.heap.size, 2, none⟩ = some (.string s'.ins) := b5.cell 2
          have m3 : W.cell? ⟨w.heap.size, 3, none⟩ = some (.int .i64 s'.ahead) := b5.cell 3
          have m4 : W.cell? ⟨w.heap.size, 4, none⟩ = some (.int .i64 s'.behind) := b5.cell 4
          go_wp2
          have hq0 : (0 : Int) ≤ (n : Int) := by omega
          have hq1 : (n : Int) ≤ (cap : Int) := by omega
          have hq2 : (cap : Int) ≤ (cap : Int) := by omega
          have hBW := hB.frm hFW (fun h => h)
          have hsW : ∀ j, j < steps.length → StepAt W b (off + j * 5) (steps[j]?.getD St.zero) := fun j hj => (hsteps j hj).frm hFW hB.lt (fun h => h)
          have hnl : n ≤ steps.length := by omega
          have hLl : (steps.take n ++ [s']).length = n + 1 := by simp; omega
          have holds : ∀ X, Frm (fun _ => False) W X → ∀ j u, (cellsOf (steps.take n))[j]? = some u → X.cell? ((⟨b, off, none⟩ : Addr).add j) = some u := fun X hX => steps_cells (fun j hj => (hsW j (by omega)).frm hX hBW.lt (fun h => h)) hnl
          have hml : n + 1 ≤ maxLen := by unfold maxLen; omega
          have hjl2 := hJ2.obj.lt
          have n3 : ¬ W.heap.size = jb := by omega
          have n4 : ¬ W.heap.size = w.heap.size := by have := b5.lt; omega
          have hFw : Frm (foot jb (.slice (some ⟨b, off, none⟩) steps.length cap)) w W := (hF.trans hFW (fun _ _ h => h)).mono (fun _ _ h => h.elim)
          go_cut [] (fun wx => ∃ g off2 cap2, Blk wx jb #[.int .i64 most, .slice (some ⟨g, off2, none⟩) (n + 1) cap2, .int .i64 done] 65 ∧ Row wx jb (.slice (some ⟨g, off2, none⟩) (n + 1) cap2) (steps.take n ++ [s']) ∧ Frm (foot jb (.slice (some ⟨b, off, none⟩) steps.length cap)) W wx ∧ (g = b ∨ W.heap.size ≤ g))
          case first =>
            go_region_law (refine step_append_room (by rfl) _ _ _ (by rfl) 31 i0 5 Try.underlying27 hi hz1 b off n cap (by rfl) ⟨W.heap.size, 0, none⟩ 1 1 s'.cells (by rfl) (by rfl) (World.news_of_block (cs := #[.int .i64 s'.pos, .string s'.del, .string s'.ins, .int .i64 s'.ahead, .int .i64 s'.behind]) (t := 31) (fr := (0, 0)) (heap_alloc_new W _)) (by simp [St.cells, Value.oneCell']) (by omega) (fun j hj => blk_there ((hBW.alloc _).drew) hfit hroom j hj) ?_; have o7 := Blk.setsOther (Ne.symm hbj) s'.cells (off + n * 5) ((hJ2.obj.alloc (.cells #[.int .i64 s'.pos, .string s'.del, .string s'.ins, .int .i64 s'.ahead, .int .i64 s'.behind] 31)).drew); have r7 := row_put (jb := jb) (s := s') ((hBW.alloc (.cells #[.int .i64 s'.pos, .string s'.del, .string s'.ins, .int .i64 s'.ahead, .int .i64 s'.behind] 31)).drew) hfit hbj hroom hnl (fun j hj => (hsW j (by omega)).frm (((Frm.refl (fun _ => False) _).alloc _).drew) hBW.lt (fun h => h)); have F7 : Frm (foot jb (.slice (some ⟨b, off, none⟩) steps.length cap)) W _ := Frm.setCells (b := b) s'.cells (off + n * 5) (((Frm.refl _ W).alloc (.cells #[.int .i64 s'.pos, .string s'.del, .string s'.ins, .int .i64 s'.ahead, .int .i64 s'.behind] 31)).drew) (.inl (.inr rfl)); generalize World.setCells _ _ _ _ = w' at o7 r7 F7 ⊢; have f7 := o7.frozen 1; have c7 := o7.cell 1)
            all_goals
              go_wp2_with fail
              go_meet
              case rel => exact ⟨b, off, cap, o7.set 1 _, r7.frm (Frm.put (Frm.refl _ _) 1 _) (fun k hk => (r7.lt k hk).2), F7.setCell 1 (.inl (.inl rfl)) _, .inl rfl⟩
          case rest =>
            obtain ⟨g, off2, cap2, oJ, hR, hF7, hg⟩ := hcut
            have hd0 : wc.cell? ⟨jb, 0, none⟩ = some (.int .i64 most) := oJ.cell 0
            have hd1 : wc.cell? ⟨jb, 1, none⟩ = some (.slice (some ⟨g, off2, none⟩) (n + 1) cap2) := oJ.cell 1
            have hd2 : wc.cell? ⟨jb, 2, none⟩ = some (.int .i64 done) := oJ.cell 2
            have hdf1 := oJ.frozen 1
            have hdf2 := oJ.frozen 2
            have hLl : (steps.take n ++ [s']).length = n + 1 := by simp; omega
            have hgj := (hR.lt g rfl).2
            by_cases hov : most < n + 1
            · have hov' : (most : Int) < (n : Int) + 1 := by omega
              rcases hR with ⟨hbad, _⟩ | ⟨b3, off3, cap3, cs3, hsl3, hlc3, hbj3, hB3, hfit3, hsteps3⟩
              · cases hbad
              · obtain ⟨⟨rfl, rfl⟩, -, rfl⟩ : (g = b3 ∧ off2 = off3) ∧ n + 1 = (steps.take n ++ [s']).length ∧ cap2 = cap3 := by simpa using hsl3
                have hst := hsteps3 0 (by rw [hLl]; omega)
                simp only [Nat.zero_mul, Nat.add_zero] at hst
                obtain ⟨t0, t1, t2, t3, t4⟩ := hst
                have tf0 := hB3.frozen off2
                have tf1 := hB3.frozen (off2 + 1)
                have tf2 := hB3.frozen (off2 + 2)
                have tf3 := hB3.frozen (off2 + 3)
                have tf4 := hB3.frozen (off2 + 4)
                have hcap : 0 < cap2 - 1 := by rw [hLl] at hlc3; have hm1 := h0m; omega
                have hq5 : (0 : Int) < (n : Int) + 1 := by omega
                have hq6 : (1 : Int) ≤ (n : Int) + 1 := by omega
                have hjg : ¬ jb = g := fun e => hgj e.symm
                have Hst := Lib.hid hsteps3
                have Hsl := Lib.hid hLl
                clear hsteps3 hsl3
                go_wp2
                go_quiet (fail)
                go_wp2
                have hst3 := Hst.out
                have hrow := row_drop (W := wc.drewN nq) hB3 hfit3 hbj3 hlc3 (by rw [hLl]; omega) hst3 (.int .i64 0) (.string ⟨#[]⟩) (.string ⟨#[]⟩) (.int .i64 0) (.int .i64 0)
                have hdl : ((steps.take n ++ [s']).drop 1).length = n := by rw [List.length_drop, hLl]; omega
                have hl1 : (steps.take n ++ [s']).length - 1 = n := by omega
                have hpl : pushL most steps n s' = (steps.take n ++ [s']).drop 1 := by unfold pushL; rw [if_pos hov]
                have ob := (Blk.five_at (w := wc.drewN nq) oJ hjg off2 (off2 + 1) (off2 + 2) (off2 + 3) (off2 + 4) (.int .i64 0) (.string ⟨#[]⟩) (.string ⟨#[]⟩) (.int .i64 0) (.int .i64 0)).set 1 (.slice (some ⟨g, off2 + 5, none⟩) n (cap2 - 1))
                rw [hl1] at hrow
                have hgf : foot jb (.slice (some ⟨b, off, none⟩) steps.length cap) g ∨ w.heap.size ≤ g := by
                  rcases hg with rfl | hg
                  · exact .inl (.inr rfl)
                  · exact .inr (Nat.le_trans hFw.size hg)
                have hf5 := Frm.five_at ((hFw.trans hF7 (fun i hi h => h)).drewN nq) hgf off2 (off2 + 1) (off2 + 2) (off2 + 3) (off2 + 4) (.int .i64 0) (.string ⟨#[]⟩) (.string ⟨#[]⟩) (.int .i64 0) (.int .i64 0)
                generalize World.setCell (World.setCell (World.setCell (World.setCell (World.setCell (wc.drewN nq) _ _) _ _) _ _) _ _) _ _ = X5 at hrow ob hf5 ⊢
                have hcl := jn_close ob (hrow.frm (Frm.put (Frm.refl _ _) 1 (.slice (some ⟨g, off2 + 5, none⟩) n (cap2 - 1))) (fun k hk => (hrow.lt k hk).2))
                rw [hdl] at hcl
                refine bodyPost_end (results_none rfl _ _ _) rfl ?_
                refine ⟨⟨_, rfl⟩, _, by rw [hpl, hdl]; exact hcl, (hf5.setCell 1 (.inl (.inl rfl)) _).setCell 2 (.inl (.inl rfl)) _, fun k hk => ?_⟩
                obtain rfl : g = k := by simpa [Value.ownBlock] using hk
                rcases hg with rfl | hg
                · exact .inl rfl
                · exact .inr (Nat.le_trans hFw.size hg)
            · have hov' : ¬ (most : Int) < (n : Int) + 1 := by omega
              go_wp2
              go_quiet (fail)
              go_wp2
              have hcl := jn_close (X := wc.drewN nq) oJ hR
              have hpl : pushL most steps n s' = steps.take n ++ [s'] := by unfold pushL; rw [if_neg hov]
              rw [hLl] at hcl
              simp only [Int.natCast_add, Int.cast_ofNat_Int] at hcl
              refine bodyPost_end (results_none rfl _ _ _) rfl ?_
              refine ⟨⟨_, rfl⟩, _, by rw [hpl, hLl]; exact hcl, ((hFw.trans hF7 (fun i hi h => h)).drewN nq).setCell 2 (.inl (.inl rfl)) _, fun k hk => ?_⟩
              obtain rfl : g = k := by simpa [Value.ownBlock] using hk
              rcases hg with rfl | hg
              · exact .inl rfl
              · exact .inr (Nat.le_trans hFw.size hg)
      · rcases hJ1.row with ⟨hsl, h0⟩ | ⟨b, off, cap', cs, hsl, hlc, hbj, hB, hfit, hsteps⟩
        · obtain ⟨rfl, _, rfl⟩ : ao = none ∧ steps.length = 0 ∧ cap = 0 := by simpa using hsl
          subst h0
          obtain rfl : done = 0 := by simpa using hle
          obtain rfl : n = 0 := by omega
          go_wp2
          go_quiet (fail)
          obtain ⟨W, hW⟩ : ∃ W, W = wc.drewN nq := ⟨_, rfl⟩
          have hFW : Frm (fun _ => False) wc W := hW ▸ (Frm.refl _ _).drewN nq
          rw [← hW]
          clear hW
          have hJ2 := hJ1.frm hFW (fun _ _ h => h)
          have b5 := b4.frm hFW (fun h => h)
          have kq1 : W.cell? ⟨jb, 1, none⟩ = some (.slice none 0 0) := hJ2.obj.cell 1
          have m0 : W.cell? ⟨w.heap.size, 0, none⟩ = some (.int .i64 s'.pos) := b5.cell 0
          have m1 : W.cell? ⟨w.heap.size, 1, none⟩ = some (.string s'.del) := b5.cell 1
          have m2 : W.cell? ⟨w.heap.size, 2, none⟩ = some (.string s'.ins) := b5.cell 2
          have m3 : W.cell? ⟨w.heap.size, 3, none⟩ = some (.int .i64 s'.ahead) := b5.cell 3
          have m4 : W.cell? ⟨w.heap.size, 4, none⟩ = some (.int .i64 s'.behind) := b5.cell 4
          go_wp2
          have hLl : (([] : List St).take 0 ++ [s']).length = 0 + 1 := by simp
          have hml : 0 + 1 ≤ maxLen := by unfold maxLen; omega
          have hjl2 := hJ2.obj.lt
          have n3 : ¬ W.heap.size = jb := by omega
          have n4 : ¬ W.heap.size = w.heap.size := by have := b5.lt; omega
          have hFw : Frm (foot jb (.slice none 0 0)) w W := (hF.trans hFW (fun _ _ h => h)).mono (fun _ _ h => h.elim)
          go_cut [] (fun wx => ∃ g off2 cap2, Blk wx jb #[.int .i64 most, .slice (some ⟨g, off2, none⟩) (0 + 1) cap2, .int .i64 (0 : Nat)] 65 ∧ Row wx jb (.slice (some ⟨g, off2, none⟩) (0 + 1) cap2) (([] : List St).take 0 ++ [s']) ∧ Frm (foot jb (.slice none 0 0)) W wx ∧ (W.heap.size ≤ g))
          case first =>
            go_region_law (refine step_append_grows (by rfl) _ _ _ (by rfl) 31 i0 _ 5 56 Try.underlying27 hi hz0 hz1 hz2 rfl (by omega) none 0 0 [] (by rfl) (fun _ => ⟨rfl, rfl⟩) (by simp) (by intro b' hb'; cases hb') ⟨W.heap.size, 0, none⟩ 1 1 s'.cells (by rfl) (by rfl) (World.news_of_block (cs := #[.int .i64 s'.pos, .string s'.del, .string s'.ins, .int .i64 s'.ahead, .int .i64 s'.behind]) (t := 31) (fr := (0, 0)) (heap_alloc_new W _)) (by simp [St.cells, Value.oneCell']) (by omega) hml (by omega) ?_; intro v' w' hown hgrow; obtain ⟨g, cap2, rfl, hg, hnc2, hRow⟩ := row_of_owns (jb := jb) (L := ([] : List St).take 0 ++ [s']) (by simpa [cellsOf] using hown) hLl (by omega) (by first | omega | (simp; omega)); have hFv : Frm (fun _ => False) W w' := Frm.grown (((Frm.refl _ _).alloc _).drew) hgrow (fun k h => by cases h); have o7 := hJ2.obj.frm hFv (fun h => h); have f7 := o7.frozen 1; have c7 := o7.cell 1)
            all_goals
              go_wp2_with fail
              go_meet
              case rel => exact ⟨g, 0, cap2, o7.set 1 _, hRow.frm (Frm.put (Frm.refl _ _) 1 _) (fun k hk => (hRow.lt k hk).2), (hFv.mono (fun _ _ h => h.elim)).setCell 1 (.inl (.inl rfl)) _, (by first | omega | (simp at hg; omega))⟩
          case rest =>
            obtain ⟨g, off2, cap2, oJ, hR, hF7, hg⟩ := hcut
            have hd0 : wc.cell? ⟨jb, 0, none⟩ = some (.int .i64 most) := oJ.cell 0
            have hd1 : wc.cell? ⟨jb, 1, none⟩ = some (.slice (some ⟨g, off2, none⟩) (0 + 1) cap2) := oJ.cell 1
            have hd2 : wc.cell? ⟨jb, 2, none⟩ = some (.int .i64 (0 : Nat)) := oJ.cell 2
            have hdf1 := oJ.frozen 1
            have hdf2 := oJ.frozen 2
            have hLl : (([] : List St).take 0 ++ [s']).length = 0 + 1 := by simp
            have hgj := (hR.lt g rfl).2
            by_cases hov : most < 0 + 1
            · exfalso; omega
            · have hov' : ¬ (most : Int) < (0 : Int) + 1 := by omega
              go_wp2
              go_quiet (fail)
              go_wp2
              have hcl := jn_close (X := wc.drewN nq) oJ hR
              have hpl : pushL most [] 0 s' = ([] : List St).take 0 ++ [s'] := by unfold pushL; rw [if_neg hov]
              rw [hLl] at hcl
              simp only [Int.natCast_add, Int.cast_ofNat_Int] at hcl
              refine bodyPost_end (results_none rfl _ _ _) rfl ?_
              refine ⟨⟨_, rfl⟩, _, by rw [hpl, hLl]; exact hcl, ((hFw.trans hF7 (fun i hi h => h)).drewN nq).setCell 2 (.inl (.inl rfl)) _, fun k hk => ?_⟩
              obtain rfl : g = k := by simpa [Value.ownBlock] using hk
              exact .inr (Nat.le_trans hFw.size hg)
        · obtain ⟨rfl, rfl⟩ : ao = some ⟨b, off, none⟩ ∧ cap = cap' := by simpa using hsl
          obtain rfl : n = cap := by omega
          have hd' : ¬ (done : Int) < (steps.length : Int) := by omega
          go_wp2
          go_quiet (fail)
          obtain ⟨W, hW⟩ : ∃ W, W = wc.drewN nq := ⟨_, rfl⟩
          have hFW : Frm (fun _ => False) wc W := hW ▸ (Frm.refl _ _).drewN nq
          rw [← hW]
          clear hW
          have hJ2 := hJ1.frm hFW (fun _ _ h => h)
          have b5 := b4.frm hFW (fun h => h)
          have kq1 : W.cell? ⟨jb, 1, none⟩ = some (.slice (some ⟨b, off, none⟩) steps.length n) := hJ2.obj.cell 1
          have m0 : W.cell? ⟨w.heap.size, 0, none⟩ = some (.int .i64 s'.pos) := b5.cell 0
          have m1 : W.cell? ⟨w.heap.size, 1, none⟩ = some (.string s'.del) := b5.cell 1
          have m2 : W.cell? ⟨w.heap.size, 2, none⟩ = some (.string s'.ins) := b5.cell 2
          have m3 : W.cell? ⟨w.heap.size, 3, none⟩ = some (.int .i64 s'.ahead) := b5.cell 3
          have m4 : W.cell? ⟨w.heap.size, 4, none⟩ = some (.int .i64 s'.behind) := b5.cell 4
          go_wp2
          have hq0 : (0 : Int) ≤ (n : Int) := by omega
          have hq1 : (n : Int) ≤ (n : Int) := by omega
          have hq2 : (n : Int) ≤ (n : Int) := by omega
          have hBW := hB.frm hFW (fun h => h)
          have hsW : ∀ j, j < steps.length → StepAt W b (off + j * 5) (steps[j]?.getD St.zero) := fun j hj => (hsteps j hj).frm hFW hB.lt (fun h => h)
          have hnl : n ≤ steps.length := by omega
          have hLl : (steps.take n ++ [s']).length = n + 1 := by simp; omega
          have holds : ∀ X, Frm (fun _ => False) W X → ∀ j u, (cellsOf (steps.take n))[j]? = some u → X.cell? ((⟨b, off, none⟩ : Addr).add j) = some u := fun X hX => steps_cells (fun j hj => (hsW j (by omega)).frm hX hBW.lt (fun h => h)) hnl
          have hml : n + 1 ≤ maxLen := by unfold maxLen; omega
          have hjl2 := hJ2.obj.lt
          have n3 : ¬ W.heap.size = jb := by omega
          have n4 : ¬ W.heap.size = w.heap.size := by have := b5.lt; omega
          have hFw : Frm (foot jb (.slice (some ⟨b, off, none⟩) steps.length n)) w W := (hF.trans hFW (fun _ _ h => h)).mono (fun _ _ h => h.elim)
          go_cut [] (fun wx => ∃ g off2 cap2, Blk wx jb #[.int .i64 most, .slice (some ⟨g, off2, none⟩) (n + 1) cap2, .int .i64 done] 65 ∧ Row wx jb (.slice (some ⟨g, off2, none⟩) (n + 1) cap2) (steps.take n ++ [s']) ∧ Frm (foot jb (.slice (some ⟨b, off, none⟩) steps.length n)) W wx ∧ (g = b ∨ W.heap.size ≤ g))
          case first =>
            go_region_law (refine step_append_grows (by rfl) _ _ _ (by rfl) 31 i0 _ 5 56 Try.underlying27 hi hz0 hz1 hz2 rfl (by omega) (some ⟨b, off, none⟩) n n (cellsOf (steps.take n)) (by rfl) (by intro h; cases h) (cellsOf_take_length hnl) (by intro b' hb'; cases hb'; exact holds _ (((Frm.refl _ _).alloc _).drew)) ⟨W.heap.size, 0, none⟩ 1 1 s'.cells (by rfl) (by rfl) (World.news_of_block (cs := #[.int .i64 s'.pos, .string s'.del, .string s'.ins, .int .i64 s'.ahead, .int .i64 s'.behind]) (t := 31) (fr := (0, 0)) (heap_alloc_new W _)) (by simp [St.cells, Value.oneCell']) (by omega) hml (by omega) ?_; intro v' w' hown hgrow; obtain ⟨g, cap2, rfl, hg, hnc2, hRow⟩ := row_of_owns (jb := jb) (L := steps.take n ++ [s']) (by rw [cellsOf_append, cellsOf_one]; exact hown) hLl (by omega) (by simp; omega); have hFv : Frm (fun _ => False) W w' := Frm.grown (((Frm.refl _ _).alloc _).drew) hgrow (fun k h => by cases h); have o7 := hJ2.obj.frm hFv (fun h => h); have f7 := o7.frozen 1; have c7 := o7.cell 1)
            all_goals
              go_wp2_with fail
              go_meet
              case rel => exact ⟨g, 0, cap2, o7.set 1 _, hRow.frm (Frm.put (Frm.refl _ _) 1 _) (fun k hk => (hRow.lt k hk).2), (hFv.mono (fun _ _ h => h.elim)).setCell 1 (.inl (.inl rfl)) _, .inr (by simp at hg; omega)⟩
          case rest =>
            obtain ⟨g, off2, cap2, oJ, hR, hF7, hg⟩ := hcut
            have hd0 : wc.cell? ⟨jb, 0, none⟩ = some (.int .i64 most) := oJ.cell 0
            have hd1 : wc.cell? ⟨jb, 1, none⟩ = some (.slice (some ⟨g, off2, none⟩) (n + 1) cap2) := oJ.cell 1
            have hd2 : wc.cell? ⟨jb, 2, none⟩ = some (.int .i64 done) := oJ.cell 2
            have hdf1 := oJ.frozen 1
            have hdf2 := oJ.frozen 2
            have hLl : (steps.take n ++ [s']).length = n + 1 := by simp; omega
            have hgj := (hR.lt g rfl).2
            by_cases hov : most < n + 1
            · have hov' : (most : Int) < (n : Int) + 1 := by omega
              rcases hR with ⟨hbad, _⟩ | ⟨b3, off3, cap3, cs3, hsl3, hlc3, hbj3, hB3, hfit3, hsteps3⟩
              · cases hbad
              · obtain ⟨⟨rfl, rfl⟩, -, rfl⟩ : (g = b3 ∧ off2 = off3) ∧ n + 1 = (steps.take n ++ [s']).length ∧ cap2 = cap3 := by simpa using hsl3
                have hst := hsteps3 0 (by rw [hLl]; omega)
                simp only [Nat.zero_mul, Nat.add_zero] at hst
                obtain ⟨t0, t1, t2, t3, t4⟩ := hst
                have tf0 := hB3.frozen off2
                have tf1 := hB3.frozen (off2 + 1)
                have tf2 := hB3.frozen (off2 + 2)
                have tf3 := hB3.frozen (off2 + 3)
                have tf4 := hB3.frozen (off2 + 4)
                have hcap : 0 < cap2 - 1 := by rw [hLl] at hlc3; have hm1 := h0m; omega
                have hq5 : (0 : Int) < (n : Int) + 1 := by omega
                have hq6 : (1 : Int) ≤ (n : Int) + 1 := by omega
                have hjg : ¬ jb = g := fun e => hgj e.symm
                have Hst := Lib.hid hsteps3
                have Hsl := Lib.hid hLl
                clear hsteps3 hsl3
                go_wp2
                go_quiet (fail)
                go_wp2
                have hst3 := Hst.out
                have hrow := row_drop (W := wc.drewN nq) hB3 hfit3 hbj3 hlc3 (by rw [hLl]; omega) hst3 (.int .i64 0) (.string ⟨#[]⟩) (.string ⟨#[]⟩) (.int .i64 0) (.int .i64 0)
                have hdl : ((steps.take n ++ [s']).drop 1).length = n := by rw [List.length_drop, hLl]; omega
                have hl1 : (steps.take n ++ [s']).length - 1 = n := by omega
                have hpl : pushL most steps n s' = (steps.take n ++ [s']).drop 1 := by unfold pushL; rw [if_pos hov]
                have ob := (Blk.five_at (w := wc.drewN nq) oJ hjg off2 (off2 + 1) (off2 + 2) (off2 + 3) (off2 + 4) (.int .i64 0) (.string ⟨#[]⟩) (.string ⟨#[]⟩) (.int .i64 0) (.int .i64 0)).set 1 (.slice (some ⟨g, off2 + 5, none⟩) n (cap2 - 1))
                rw [hl1] at hrow
                have hgf : foot jb (.slice (some ⟨b, off, none⟩) steps.length n) g ∨ w.heap.size ≤ g := by
                  rcases hg with rfl | hg
                  · exact .inl (.inr rfl)
                  · exact .inr (Nat.le_trans hFw.size hg)
                have hf5 := Frm.five_at ((hFw.trans hF7 (fun i hi h => h)).drewN nq) hgf off2 (off2 + 1) (off2 + 2) (off2 + 3) (off2 + 4) (.int .i64 0) (.string ⟨#[]⟩) (.string ⟨#[]⟩) (.int .i64 0) (.int .i64 0)
                generalize World.setCell (World.setCell (World.setCell (World.setCell (World.setCell (wc.drewN nq) _ _) _ _) _ _) _ _) _ _ = X5 at hrow ob hf5 ⊢
                have hcl := jn_close ob (hrow.frm (Frm.put (Frm.refl _ _) 1 (.slice (some ⟨g, off2 + 5, none⟩) n (cap2 - 1))) (fun k hk => (hrow.lt k hk).2))
                rw [hdl] at hcl
                refine bodyPost_end (results_none rfl _ _ _) rfl ?_
                refine ⟨⟨_, rfl⟩, _, by rw [hpl, hdl]; exact hcl, (hf5.setCell 1 (.inl (.inl rfl)) _).setCell 2 (.inl (.inl rfl)) _, fun k hk => ?_⟩
                obtain rfl : g = k := by simpa [Value.ownBlock] using hk
                rcases hg with rfl | hg
                · exact .inl rfl
                · exact .inr (Nat.le_trans hFw.size hg)
            · have hov' : ¬ (most : Int) < (n : Int) + 1 := by omega
              go_wp2
              go_quiet (fail)
              go_wp2
              have hcl := jn_close (X := wc.drewN nq) oJ hR
              have hpl : pushL most steps n s' = steps.take n ++ [s'] := by unfold pushL; rw [if_neg hov]
              rw [hLl] at hcl
              simp only [Int.natCast_add, Int.cast_ofNat_Int] at hcl
              refine bodyPost_end (results_none rfl _ _ _) rfl ?_
              refine ⟨⟨_, rfl⟩, _, by rw [hpl, hLl]; exact hcl, ((hFw.trans hF7 (fun i hi h => h)).drewN nq).setCell 2 (.inl (.inl rfl)) _, fun k hk => ?_⟩
              obtain rfl : g = k := by simpa [Value.ownBlock] using hk
              rcases hg with rfl | hg
              · exact .inl rfl
              · exact .inr (Nat.le_trans hFw.size hg)
end Go.Proofs.Ytgdamapocomhkaa

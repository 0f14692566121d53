/- The walk of the statement UndoPlays: it returns true, and what lay in memory before stays as it was: condition: each text of the acts at most 2^47 bytes, which the reach of every statement gives. -/
import Derived.Test.YtgdamapocomhkaaUnW3
import Derived.Test.YtgdamapocomhkaaUnW4
import Derived.Test.YtgdamapocomhkaaUnW5
namespace Go.Proofs.Ytgdamapocomhkaa
open Go.RowKit Go.Shelf
set_option linter.unusedVariables false

set_option maxRecDepth 100000 in
set_option maxHeartbeats 40000000 in
theorem plays_loop (kv : Nat → Int) (sv : Nat → St) (M : Nat) (A : Option Addr) (len cap : Nat) (w : World) (hm1 : 1 ≤ M) (hm2 : M ≤ 60)
    (hrow : 0 < len → ∃ b off, A = some ⟨b, off, none⟩ ∧ ActRow w b off len kv sv) (hd : ∀ i, i < len → (sv i).del.size ≤ 140737488351232 ∧ (sv i).ins.size ≤ 140737488351232) :
    Calls Try.prog 3 #[.int .i64 M, .slice A len cap] w fun e w' => e = .returned (.bool true) ∧ Below w.heap.size w w' := by
  have HROW := Lib.hid hrow
  have HD := Lib.hid hd
  clear hrow hd
  have m1 : ¬ (60 : Int) < M := by omega
  have m2 : ¬ (M : Int) < 1 := by omega
  have m3 : ¬ (100000 : Int) < M := by omega
  go_enter Try.func3, Try.ntmps3
  go_wp2_with fail
  refine (awake_any _).mono ?_
  rintro e w1 ⟨rfl, hb1⟩
  go_wp2_with fail
  refine (few_any kv sv A len cap _ (fun h => by obtain ⟨b, off, e, hr⟩ := HROW.out h; exact ⟨b, off, e, hr.below hb1⟩) HD.out).mono ?_
  rintro e w2 ⟨hp, rfl⟩
  rcases hp with rfl | ⟨rfl, hl40, hsm⟩
  · go_wp2
    go_ret
    exact ⟨rfl, hb1⟩
  · have HSM := Lib.hid hsm
    clear hsm
    go_wp2_with fail
    refine (new_good M _ hm1 (by omega)).mono ?_
    rintro e w3 ⟨rfl, hJ2, hb2⟩
    obtain ⟨jb, hjb⟩ : ∃ jb, w2.heap.size = jb := ⟨_, rfl⟩
    have hB2 : Below w.heap.size w w3 := hb1.trans (hb2.mono hb1.size)
    have hjw : w.heap.size ≤ jb := by rw [← hjb]; exact hb1.size
    rw [hjb] at hJ2 ⊢
    clear hb1 hb2 hjb
    go_wp2
    go_loopw [6, 7, 8] (fun v6 v7 v8 wr => RelP w jb M len v6 v7 v8 wr) (fun _ _ v8 _ => len - (intOf v8).toNat)
    case atStart => exact ⟨0, [], [], .slice none 0 0, rfl, Nat.zero_le _, ⟨hJ2, .inl ⟨rfl, rfl⟩, .inl ⟨rfl, rfl⟩, by simp, by simp, by simp, hB2, by simp [Value.ownBlock]⟩⟩
    case round =>
      obtain ⟨i, dl, ul, js, rfl, hi, hP⟩ := hrel
      have HP := Lib.hid hP
      have hbel := hP.below
      clear hP hJ2 hB2
      by_cases hlt : i < len
      · obtain ⟨b, off, rfl, hr0⟩ := HROW.out (by omega)
        obtain ⟨g0, g1, g2, g3, g4, g5⟩ := (hr0.below hbel).2 i hlt
        have g2' : wr.cell? ⟨b, off + i * 6 + 2, none⟩ = some (.string (sv i).del) := g2
        have g3' : wr.cell? ⟨b, off + i * 6 + 3, none⟩ = some (.string (sv i).ins) := g3
        have g4' : wr.cell? ⟨b, off + i * 6 + 4, none⟩ = some (.int .i64 (sv i).ahead) := g4
        have g5' : wr.cell? ⟨b, off + i * 6 + 5, none⟩ = some (.int .i64 (sv i).behind) := g5
        obtain ⟨z1, z2⟩ := HSM.out i hlt
        have HR0 := Lib.hid hr0
        have hbl := hr0.1
        have hx : (i : Int) < len := by omega
        have hz1 := hbel.size
        have hbw : b < wr.heap.size := Nat.lt_of_lt_of_le hbl hz1
        clear hr0
        go_upto_block 2 with fail
        go_cut [6, 7] from 42 to 217 (fun v6 v7 wx => RelQ w jb M i v6 v7 wx)
        case first =>
          have hPa := HP.out.ext ((Below.refl _ _).alloc (Nat.le_refl _) (.cells #[.int .i64 (sv i).pos, .string (sv i).del, .string (sv i).ins, .int .i64 (sv i).ahead, .int .i64 (sv i).behind] 31))
          have hbB := Blk.new wr #[.int .i64 (sv i).pos, .string (sv i).del, .string (sv i).ins, .int .i64 (sv i).ahead, .int .i64 (sv i).behind] 31
          have hpa := hPa.below
          have hr0 := HR0.out.below hpa
          have hBj : jb < wr.heap.size := HP.out.jn.obj.lt
          have hBs : ∀ k, js.ownBlock = some k → k < wr.heap.size := fun k hk => (HP.out.jn.row.lt k hk).1
          have hBw : w.heap.size ≤ wr.heap.size := hz1
          have HBS := Lib.hid hBs
          have HB6 := Lib.hid (HP.out.d.lt)
          clear hBs
          generalize hBB : wr.heap.size = B at *
          generalize World.alloc wr _ = W at hPa hbB hpa hr0 ⊢
          have HPA := Lib.hid hPa
          have HBB := Lib.hid hbB
          have HRR := Lib.hid hr0
          clear hPa hbB hr0 g0 g1 g2 g3 g4 g5 g2' g3' g4' g5' hBB hz1 hbw
          by_cases e3 : kv i = 3
          · exact plays_undo kv sv M len cap w hm1 hm2 hl40 jb hjw u6 u7 i dl ul js hi hlt b off z1 z2 hbl hx _ _ _ (by assumption) B _ _ _ _ _ _ _ _ _ _ _ _ _ _ _ _ _ _ _ _ _ _ _ _ _ _ _ _ _ _ _ _ _ _ _ _ _ _ _ _ _ _ _ _ _ _ _ _ _ _ (.bool true) _ _ _ _ _ _ _ _ _ _ _ _ _ _ _ _ _ _ _ _ _ _ _ _ _ _ _ _ _ _ _ _ _ _ _ _ _ _ _ _ _ _ _ _ _ _ _ _ _ _ _ _ _ _ _ _ _ _ _ _ _ _ _ _ _ _ _ _ _ _ _ _ _ _ _ _ _ _ _ _ _ _ _ _ _ _ _ _ _ _ _ _ _ _ _ _ _ _ _ _ _ _ _ _ _ _ _ _ _ _ _ _ _ _ _ _ _ _ _ _ _ _ _ _ _ _ _ _ _ _ _ _ _ _ _ _ _ _ _ _ _ _ _ _ _ _ _ _ _ _ _ _ _ _ _ _ _ _ _ _ (by assumption) hBj hBw HBS HB6 W hpa HPA HBB HRR e3
          · by_cases e4 : kv i = 4
            · exact plays_redo kv sv M len cap w hm1 hm2 hl40 jb hjw u6 u7 i dl ul js hi hlt b off z1 z2 hbl hx _ _ _ (by assumption) B _ _ _ _ _ _ _ _ _ _ _ _ _ _ _ _ _ _ _ _ _ _ _ _ _ _ _ _ _ _ _ _ _ _ _ _ _ _ _ _ _ _ _ _ _ _ _ _ _ _ (.bool true) _ _ _ _ _ _ _ _ _ _ _ _ _ _ _ _ _ _ _ _ _ _ _ _ _ _ _ _ _ _ _ _ _ _ _ _ _ _ _ _ _ _ _ _ _ _ _ _ _ _ _ _ _ _ _ _ _ _ _ _ _ _ _ _ _ _ _ _ _ _ _ _ _ _ _ _ _ _ _ _ _ _ _ _ _ _ _ _ _ _ _ _ _ _ _ _ _ _ _ _ _ _ _ _ _ _ _ _ _ _ _ _ _ _ _ _ _ _ _ _ _ _ _ _ _ _ _ _ _ _ _ _ _ _ _ _ _ _ _ _ _ _ _ _ _ _ _ _ _ _ _ _ _ _ _ _ _ _ _ _ (by assumption) hBj hBw HBS HB6 W hpa HPA HBB HRR e3 e4
            · by_cases e012 : kv i = 0 ∨ kv i = 1 ∨ kv i = 2
              · exact plays_push kv sv M len cap w hm1 hm2 hl40 jb hjw u6 u7 i dl ul js hi hlt b off z1 z2 hbl hx _ _ _ (by assumption) B _ _ _ _ _ _ _ _ _ _ _ _ _ _ _ _ _ _ _ _ _ _ _ _ _ _ _ _ _ _ _ _ _ _ _ _ _ _ _ _ _ _ _ _ _ _ _ _ _ _ (.bool true) _ _ _ _ _ _ _ _ _ _ _ _ _ _ _ _ _ _ _ _ _ _ _ _ _ _ _ _ _ _ _ _ _ _ _ _ _ _ _ _ _ _ _ _ _ _ _ _ _ _ _ _ _ _ _ _ _ _ _ _ _ _ _ _ _ _ _ _ _ _ _ _ _ _ _ _ _ _ _ _ _ _ _ _ _ _ _ _ _ _ _ _ _ _ _ _ _ _ _ _ _ _ _ _ _ _ _ _ _ _ _ _ _ _ _ _ _ _ _ _ _ _ _ _ _ _ _ _ _ _ _ _ _ _ _ _ _ _ _ _ _ _ _ _ _ _ _ _ _ _ _ _ _ _ _ _ _ _ _ _ (by assumption) hBj hBw HBS HB6 W hpa HPA HBB HRR e3 e4 e012
              · have f0 : (kv i == 0) = false := by simp; omega
                have f1 : (kv i == 1) = false := by simp; omega
                have f2 : (kv i == 2) = false := by simp; omega
                have f3 : (kv i == 3) = false := by simp; omega
                have f4 : (kv i == 4) = false := by simp; omega
                go_wp2
                go_meet
                case rel => exact ⟨dl, ul, js, HPA.out.succ⟩
        case rest =>
          skip
          obtain ⟨dl2, ul2, js2, hQ⟩ := hcut
          have hc2 := hQ.cap
          have hbc := hQ.below
          have HQ := Lib.hid hQ
          clear hQ
          go_wp2_with fail
          refine (done_row HQ.out.jn (by omega)).mono ?_
          rintro e wd ⟨⟨vd, rfl, rd⟩, hbd⟩
          go_wp2_with fail
          refine (same_yes vd _ dl2 (by omega) _ rd (HQ.out.d.rowS.below hbd)).mono ?_
          rintro e ws ⟨rfl, hbs⟩
          go_wp2_with fail
          refine (undone_row (jn_below (jn_below HQ.out.jn hbd) hbs) (by omega)).mono ?_
          rintro e wu ⟨⟨vu, rfl, ru⟩, hbu⟩
          go_wp2_with fail
          refine (same_yes vu _ ul2 (by omega) _ ru (((HQ.out.u.rowS.below hbd).below hbs).below hbu)).mono ?_
          rintro e wt ⟨rfl, hbt⟩
          go_wp2
          go_roundw
          case rel => exact ⟨i + 1, dl2, ul2, js2, by push_cast; rfl, hlt, (((HQ.out.ext hbd).ext hbs).ext hbu).ext hbt⟩
          case measure => simp [intOf]; omega
      · obtain rfl : i = len := by omega
        go_wp2
        go_ret
        exact ⟨rfl, hbel⟩
end Go.Proofs.Ytgdamapocomhkaa

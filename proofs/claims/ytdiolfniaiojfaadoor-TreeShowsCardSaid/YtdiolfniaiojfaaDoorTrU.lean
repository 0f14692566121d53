/- What a reader's number of layer 11 (tree) returns. Condition: texts of at most 100,000 bytes. -/
import Derived.Test.YtdiolfniaiojfaaDoorTrT
namespace Go.Proofs.YtdiolfniaiojfaaDoor
open Go.RowKit
set_option linter.unusedVariables false

section
variable (w : World)
def atW (R : Nat) (W : World) : Nat := match W.cell? ⟨R, 1, none⟩ with | some v => (intOf v).toNat | none => 0
theorem atW_of {W : World} {R : Nat} {s : ByteArray} {a : Nat} {v : Value} {T : TypeId} (h : Blk W R (rdC s a v) T) : atW R W = a := by
  have h1 : W.cell? ⟨R, 1, none⟩ = some (.int .i64 (a : Int)) := h.cell 1
  unfold atW
  rw [h1]
  simp [intOf]
def NmRl (R N o : Nat) (s : ByteArray) (a : Nat) (v : Value) (cs : Array Value) (w wr : World) : Prop :=
  ∃ k : Nat, (∀ j, j < k → cont s a j = true) ∧ a + k ≤ s.size ∧ Blk wr R (rdC s (a + k) v) 49 ∧ Blk wr N (cs.setIfInBounds o (.int .i64 (nval s a k : Int))) 27 ∧ Frm (fun b => b = R ∨ b = N) w wr
set_option maxRecDepth 100000 in
set_option maxHeartbeats 8000000 in
theorem number_any (R N o : Nat) (s : ByteArray) (a : Nat) (v : Value) (cs : Array Value) (ho : o < cs.size) (hR : Blk w R (rdC s a v) 49) (hN : Blk w N (cs.setIfInBounds o (.int .i64 0)) 27) (hne : N ≠ R) (hs : s.size ≤ 100000) (ha : a ≤ s.size) (b : Bool) (hb : b = (decide (nlen s a ≠ 0) && !dg s (a + nlen s a))) :
    Calls Tryd.prog 30 #[.pointer (some ⟨R, 0, none⟩), .pointer (some ⟨N, o, none⟩)] w fun e w' => e = .returned (.bool b) ∧ Blk w' R (rdC s (a + nlen s a) v) 49 ∧ Blk w' N (cs.setIfInBounds o (.int .i64 (nval s a (nlen s a) : Int))) 27 ∧ Frm (fun b => b = R ∨ b = N) w w' := by
  have h1 : w.cell? ⟨R, 1, none⟩ = some (.int .i64 (a : Int)) := hR.cell 1
  have HB := Lib.hid hb
  have HR := Lib.hid hR
  have HN := Lib.hid hN
  clear hR hN hb
  go_enter Tryd.func30, Tryd.ntmps30
  go_wp2
  go_loopw [] (fun wr => NmRl R N o s a v cs w wr) (fun wr => s.size - atW R wr)
  case atStart => exact ⟨0, fun j h => by omega, ha, HR.out, HN.out, Frm.refl _ _⟩
  case round =>
    obtain ⟨k, hk, hik, hRk, hNk, hF⟩ := hrel
    have hk7 := cont_lt hk
    have hnv := nval_7 hk
    have hat := atW_of hRk
    obtain ⟨i, hi⟩ : ∃ i, a + k = i := ⟨_, rfl⟩
    obtain ⟨n, hn⟩ : ∃ n, nval s a k = n := ⟨_, rfl⟩
    rw [hi] at hik hRk hat
    rw [hn] at hNk hnv
    have h0 : wr.cell? ⟨R, 0, none⟩ = some (.string s) := hRk.cell 0
    have h2 : wr.cell? ⟨R, 1, none⟩ = some (.int .i64 (i : Int)) := hRk.cell 1
    have HK := Lib.hid hk
    have HI := Lib.hid hi
    have HNV := Lib.hid hn
    have HRK := Lib.hid hRk
    have HNK := Lib.hid hNk
    have HAT := Lib.hid hat
    have hai : a ≤ i := by omega
    have hi100 : i ≤ 100000 := by omega
    have hk1 : i - a ≤ 7 := by omega
    clear hk hi hn hRk hNk hat h1
    by_cases hd : dg s i = true
    · have hlt := dg_lt hd
      have hd' := hd
      unfold dg at hd'
      rw [decide_eq_true_iff, bt_eq hlt] at hd'
      obtain ⟨d, hdd⟩ : ∃ d, s[i].toNat = d := ⟨_, rfl⟩
      have HDD := Lib.hid hdd
      rw [hdd] at hd'
      have t1 : decide ((i : Int) < (s.size : Int)) = true := by simp; omega
      have t1' : (i : Int) < (s.size : Int) := by omega
      have t2 : decide ((48 : Int) ≤ (s[i].toNat : Int)) = true := by simp; omega
      have t3 : decide ((s[i].toNat : Int) ≤ 57) = true := by simp; omega
      have HD := Lib.hid hd
      clear hd hdd
      go_wp2
      go_quiet (fail)
      obtain ⟨V, hV⟩ : ∃ V, V = wr.drewN nq := ⟨_, rfl⟩
      have hRV : Blk V R (rdC s i v) 49 := by rw [hV]; exact HRK.out.drewN _
      have hNV : Blk V N (cs.setIfInBounds o (.int .i64 (n : Int))) 27 := by rw [hV]; exact HNK.out.drewN _
      have hFV : Frm (fun b => b = R ∨ b = N) w V := by rw [hV]; exact hF.drewN _
      have f0 : V.cell? ⟨R, 0, none⟩ = some (.string s) := hRV.cell 0
      have f1 : V.cell? ⟨R, 1, none⟩ = some (.int .i64 (i : Int)) := hRV.cell 1
      have g0 : V.cell? ⟨N, o, none⟩ = some (.int .i64 (n : Int)) := by
        rw [hNV.cell o, Array.getElem?_setIfInBounds_self_of_lt ho]
      have y0 : V.frozen? ⟨N, o, none⟩ = false := hNV.frozen o
      have y1 : V.frozen? ⟨R, 1, none⟩ = false := hRV.frozen 1
      rw [← hV]
      have HRV := Lib.hid hRV
      have HNVV := Lib.hid hNV
      clear hV h0 h2 hRV hNV t1 t2 t3
      by_cases h7 : k = 7
      · have t4 : ((i : Int) - (a : Int) == 7) = true := by have := HI.out; simp; omega
        have hnl : nlen s a = k := nlen_of HK.out (cont_no (.inr (.inl h7)))
        have HNL := Lib.hid hnl
        clear hnl h7
        go_wp2
        go_ret
        refine ⟨ret_bool ?_, by rw [HNL.out, HI.out]; exact HRV.out, by rw [HNL.out, HNV.out]; exact HNVV.out, hFV⟩
        rw [HB.out, HNL.out, HI.out, HD.out]
        simp
      · have t4 : ((i : Int) - (a : Int) == 7) = false := by have := HI.out; simp; omega
        by_cases hz : k ≠ 0 ∧ n = 0
        · obtain ⟨hz1, hz2⟩ := hz
          have h48 := (nval_0 k HK.out (by omega)).1 (by rw [HNV.out]; exact hz2)
          have hnl : nlen s a = k := nlen_of HK.out (cont_no (.inr (.inr ⟨hz1, h48⟩)))
          have HNL := Lib.hid hnl
          have t5 : (a : Int) < (i : Int) := by have := HI.out; omega
          have HH := Lib.hid h48
          have HZ := Lib.hid hz2
          subst hz2
          clear hnl h7 hz1 h48
          go_wp2
          go_ret
          refine ⟨ret_bool ?_, by rw [HNL.out, HI.out]; exact HRV.out, by rw [HNL.out, HNV.out]; exact HNVV.out, hFV⟩
          rw [HB.out, HNL.out, HI.out, HD.out]
          simp
        · have hcn : cont s a k = true := cont_mk (by rw [HI.out]; exact HD.out) h7 (by
            rcases Nat.eq_zero_or_pos k with g | g
            · exact .inl g
            · exact .inr (fun h => hz ⟨by omega, by rw [← HNV.out]; exact (nval_0 k HK.out g).2 h⟩))
          have HCN := Lib.hid hcn
          have HZ := Lib.hid hz
          have HI2 := Lib.hid (show a + (k + 1) = i + 1 by have := HI.out; omega)
          have hnx : nval s a (k + 1) = n * 10 + (d - 48) := by
            show nval s a k * 10 + ((bt s (a + k)).toNat - 48) = _
            rw [HNV.out, HI.out, bt_eq hlt, HDD.out]
          have HNX := Lib.hid hnx
          have r1 : IntKind.u8.wrap ((s[i].toNat : Int) - 48) = ((d - 48 : Nat) : Int) := by
            rw [HDD.out, IntWalk.u8_in _ (by omega)]
            omega
          have r2 : IntKind.i64.wrap ((d - 48 : Nat) : Int) = ((d - 48 : Nat) : Int) := IntWalk.i64_in _ (by omega)
          have r3 : IntKind.i64.wrap ((n : Int) * 10) = ((n * 10 : Nat) : Int) := by rw [IntWalk.i64_in _ (by omega)]; omega
          have r4 : IntKind.i64.wrap (((n * 10 : Nat) : Int) + ((d - 48 : Nat) : Int)) = ((n * 10 + (d - 48) : Nat) : Int) := by rw [IntWalk.i64_in _ (by omega)]; omega
          clear hcn hz h7 hnx
          obtain ⟨NN, hNN⟩ : ∃ NN, n * 10 + (d - 48) = NN := ⟨_, rfl⟩
          rw [hNN] at r4
          have HNN := Lib.hid hNN
          clear hNN
          rcases Nat.eq_zero_or_pos k with g | g
          · have HG := Lib.hid g
            have t5 : ¬ (a : Int) < (i : Int) := by have := HI.out; omega
            clear g
            go_upto_region 5 with fail
            go_cut [] from 65 to 82 (fun wx => Blk wx R (rdC s i v) 49 ∧ Blk wx N (cs.setIfInBounds o (.int .i64 (NN : Int))) 27 ∧ Frm (fun b => b = R ∨ b = N) w wx)
            case first =>
              go_region
              all_goals
                go_wp2_with fail
                go_meet
                case rel =>
                  have hk := HNVV.out.set o (.int .i64 ((n : Int) * 10 + ((d - 48 : Nat) : Int)))
                  rw [Array.setIfInBounds_setIfInBounds] at hk
                  have hnn := HNN.out
                  refine ⟨(HRV.out.other o _ (Ne.symm hne)).drew, ?_, (hFV.setCell o (.inl (.inr rfl)) _).drew⟩
                  rw [show (NN : Int) = (n : Int) * 10 + ((d - 48 : Nat) : Int) from by omega]
                  exact hk.drew
            case rest =>
              obtain ⟨hR2, hN2, hF2⟩ := hcut
              have m1 : wc.cell? ⟨R, 1, none⟩ = some (.int .i64 (i : Int)) := hR2.cell 1
              have m2 : wc.frozen? ⟨R, 1, none⟩ = false := hR2.frozen 1
              have hR3 : Blk (wc.setCell ⟨R, 1, none⟩ (.int .i64 ((i : Int) + 1))) R (rdC s (i + 1) v) 49 := by
                have := hR2.set 1 (.int .i64 ((i : Int) + 1))
                simpa [rdC] using this
              have hm1 : atW R (wc.setCell ⟨R, 1, none⟩ (.int .i64 ((i : Int) + 1))) = i + 1 := atW_of hR3
              have HR3 := Lib.hid hR3
              have HN2 := Lib.hid hN2
              have HM1 := Lib.hid hm1
              clear hR2 hN2 hR3 f0 f1 g0 y0 y1 hm1
              go_wp2
              go_roundw
              case rel =>
                refine ⟨k + 1, fun j hj => ?_, by rw [HI2.out]; omega, by rw [HI2.out]; exact HR3.out, by rw [HNX.out, HNN.out]; exact HN2.out.other 1 _ hne, hF2.setCell 1 (.inl (.inl rfl)) _⟩
                rcases Nat.lt_or_ge j k with g' | g'
                · exact HK.out j g'
                · obtain rfl : j = k := by omega
                  exact HCN.out
              case measure => rw [HM1.out, HAT.out]; omega

          · have HG := Lib.hid g
            have t5 : (a : Int) < (i : Int) := by have := HI.out; omega
            have t6 : ((n : Int) == 0) = false := by
              have := HZ.out
              simp
              intro h
              exact this ⟨by omega, by omega⟩
            clear g
            go_upto_region 5 with fail
            go_cut [] from 65 to 82 (fun wx => Blk wx R (rdC s i v) 49 ∧ Blk wx N (cs.setIfInBounds o (.int .i64 (NN : Int))) 27 ∧ Frm (fun b => b = R ∨ b = N) w wx)
            case first =>
              go_region
              all_goals
                go_wp2_with fail
                go_meet
                case rel =>
                  have hk := HNVV.out.set o (.int .i64 ((n : Int) * 10 + ((d - 48 : Nat) : Int)))
                  rw [Array.setIfInBounds_setIfInBounds] at hk
                  have hnn := HNN.out
                  refine ⟨(HRV.out.other o _ (Ne.symm hne)).drew, ?_, (hFV.setCell o (.inl (.inr rfl)) _).drew⟩
                  rw [show (NN : Int) = (n : Int) * 10 + ((d - 48 : Nat) : Int) from by omega]
                  exact hk.drew
            case rest =>
              obtain ⟨hR2, hN2, hF2⟩ := hcut
              have m1 : wc.cell? ⟨R, 1, none⟩ = some (.int .i64 (i : Int)) := hR2.cell 1
              have m2 : wc.frozen? ⟨R, 1, none⟩ = false := hR2.frozen 1
              have hR3 : Blk (wc.setCell ⟨R, 1, none⟩ (.int .i64 ((i : Int) + 1))) R (rdC s (i + 1) v) 49 := by
                have := hR2.set 1 (.int .i64 ((i : Int) + 1))
                simpa [rdC] using this
              have hm1 : atW R (wc.setCell ⟨R, 1, none⟩ (.int .i64 ((i : Int) + 1))) = i + 1 := atW_of hR3
              have HR3 := Lib.hid hR3
              have HN2 := Lib.hid hN2
              have HM1 := Lib.hid hm1
              clear hR2 hN2 hR3 f0 f1 g0 y0 y1 hm1
              go_wp2
              go_roundw
              case rel =>
                refine ⟨k + 1, fun j hj => ?_, by rw [HI2.out]; omega, by rw [HI2.out]; exact HR3.out, by rw [HNX.out, HNN.out]; exact HN2.out.other 1 _ hne, hF2.setCell 1 (.inl (.inl rfl)) _⟩
                rcases Nat.lt_or_ge j k with g' | g'
                · exact HK.out j g'
                · obtain rfl : j = k := by omega
                  exact HCN.out
              case measure => rw [HM1.out, HAT.out]; omega
    · have hd0 : dg s i = false := by simpa using hd
      have hnl : nlen s a = k := nlen_of HK.out (cont_no (.inl (by rw [HI.out]; exact hd0)))
      have HNL := Lib.hid hnl
      have HD := Lib.hid hd0
      have HFN := Lib.hid (fun q => hF.drewN q)
      clear hnl
      rcases Nat.lt_or_ge i s.size with hlt | hge
      · have hd2 := hd0
        unfold dg at hd2
        rw [decide_eq_false_iff_not, bt_eq hlt] at hd2
        obtain ⟨d, hdd⟩ : ∃ d, s[i].toNat = d := ⟨_, rfl⟩
        have HDD := Lib.hid hdd
        rw [hdd] at hd2
        have t1 : decide ((i : Int) < (s.size : Int)) = true := by simp; omega
        have t1' : (i : Int) < (s.size : Int) := by omega
        have HD2 := Lib.hid hd2
        clear hd hd0 hd2 hdd
        by_cases h48 : 48 ≤ d
        · have t2 : decide ((48 : Int) ≤ (s[i].toNat : Int)) = true := by have := HDD.out; simp; omega
          have t3 : decide ((s[i].toNat : Int) ≤ 57) = false := by have := HDD.out; have := HD2.out; simp; omega
          have HH := Lib.hid h48
          clear h48
          go_wp2
          go_quiet (fail)
          go_wp2
          go_ret
          refine ⟨ret_bool ?_, by rw [HNL.out, HI.out]; exact HRK.out.drewN _, by rw [HNL.out, HNV.out]; exact HNK.out.drewN _, HFN.out _⟩
          rw [HB.out, HNL.out, HI.out, HD.out, Bool.eq_iff_iff]
          have := HI.out
          simp
          omega
        · have t2 : decide ((48 : Int) ≤ (s[i].toNat : Int)) = false := by have := HDD.out; simp; omega
          have HH := Lib.hid h48
          clear h48
          go_wp2
          go_quiet (fail)
          go_wp2
          go_ret
          refine ⟨ret_bool ?_, by rw [HNL.out, HI.out]; exact HRK.out.drewN _, by rw [HNL.out, HNV.out]; exact HNK.out.drewN _, HFN.out _⟩
          rw [HB.out, HNL.out, HI.out, HD.out, Bool.eq_iff_iff]
          have := HI.out
          simp
          omega
      · obtain rfl : i = s.size := by omega
        clear hd hd0
        go_wp2
        go_quiet (fail)
        go_wp2
        go_ret
        refine ⟨ret_bool ?_, by rw [HNL.out, HI.out]; exact HRK.out.drewN _, by rw [HNL.out, HNV.out]; exact HNK.out.drewN _, HFN.out _⟩
        rw [HB.out, HNL.out, HI.out, HD.out, Bool.eq_iff_iff]
        have := HI.out
        simp
        omega
end
end Go.Proofs.YtdiolfniaiojfaaDoor

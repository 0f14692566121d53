/- What the document's own number of layer 11 (tree) returns. Condition: texts of at most 100,000 bytes. -/
import Derived.Test.YtppipngdakfbpaaTrC
import Derived.Test.YtppipngdakfbpaaTrR
namespace Go.Proofs.Ytppipngdakfbpaa
open Go.RowKit
set_option linter.unusedVariables false

theorem cls_dg (s : ByteArray) (i : Nat) : (cls (bt s i).toNat = 6) ↔ dg s i = true := by
  unfold cls dg
  rw [decide_eq_true_iff]
  (repeat' split) <;> omega
section
variable (w : World)
def NuRl (s : ByteArray) (a : Nat) (w : World) (v6 v7 : Value) (wr : World) : Prop :=
  wr = w ∧ ∃ k : Nat, v7 = .int .i64 ((a + k : Nat) : Int) ∧ v6 = .int .i64 (nval s a k : Int) ∧ a + k ≤ s.size ∧ ∀ j, j < k → cont s a j = true
set_option maxRecDepth 100000 in
set_option maxHeartbeats 4000000 in
theorem refnumber_any (s : ByteArray) (a : Nat) (hs : s.size ≤ 100000) (ha : a ≤ s.size) :
    Calls Try.prog 34 #[.string s, .int .i64 (a : Int)] w fun e w' => e = .returned (.tuple #[.int .i64 (nval s a (nlen s a) : Int), .int .i64 ((a + nlen s a : Nat) : Int)]) ∧ w' = w := by
  go_enter Try.func34, Try.ntmps34
  go_wp2
  go_loopw [6, 7] (fun v6 v7 wr => NuRl s a w v6 v7 wr) (fun _ v7 _ => s.size - (intOf v7).toNat)
  case atStart => exact ⟨rfl, 0, by go_num, rfl, ha, fun j h => by omega⟩
  case round =>
    obtain ⟨hwr, k, rfl, rfl, hik, hk⟩ := hrel
    obtain rfl : w = wr := hwr.symm
    clear hwr
    have hk7 := cont_lt hk
    have hnv := nval_7 hk
    have hdone := fun (h : cont s a k = false) => nlen_of hk h
    have HD := Lib.hid hdone
    have HK := Lib.hid hk
    obtain ⟨i, hi⟩ : ∃ i, a + k = i := ⟨_, rfl⟩
    obtain ⟨n, hn⟩ : ∃ n, nval s a k = n := ⟨_, rfl⟩
    rw [hi] at hik ⊢
    rw [hn] at hnv ⊢
    have HI := Lib.hid hi
    have HN := Lib.hid hn
    have hai : a ≤ i := by omega
    have hai7 : i ≤ a + 7 := by omega
    have r7 : IntKind.i64.wrap ((a : Int) + 7) = (a : Int) + 7 := IntWalk.i64_in _ (by omega)
    have hfin : cont s a k = false → (Value.tuple #[.int .i64 (n : Int), .int .i64 (i : Int)]) = .tuple #[.int .i64 (nval s a (nlen s a) : Int), .int .i64 ((a + nlen s a : Nat) : Int)] := fun h => by rw [HD.out h, HN.out, HI.out]
    have HF := Lib.hid hfin
    clear hi hn hk hdone hfin
    by_cases hlt : i < s.size
    · have t1 : (i : Int) < (s.size : Int) := by omega
      by_cases h7 : k = 7
      · have t2 : ¬ (i : Int) < (a : Int) + 7 := by have := HI.out; omega
        have HC := Lib.hid (HF.out (cont_no (.inr (.inl h7))))
        clear h7
        go_wp2
        go_ret2
        exact ⟨congrArg Ending.returned HC.out, rfl⟩
      · have t2 : (i : Int) < (a : Int) + 7 := by have := HI.out; omega
        have HCL := Lib.hid (class_any (bt s i).toNat w)
        rw [bt_eq hlt] at HCL
        have hcd := cls_dg s i
        rw [bt_eq hlt] at hcd
        obtain ⟨c, hc⟩ : ∃ c, cls s[i].toNat = c := ⟨_, rfl⟩
        rw [hc] at HCL hcd
        have HCD := Lib.hid hcd
        clear hcd hc
        by_cases h6 : c = 6
        · have t3 : ((c : Int) == 6) = true := by simp; omega
          have hdg := HCD.out.1 h6
          have hb := hdg
          unfold dg at hb
          rw [decide_eq_true_iff, bt_eq hlt] at hb
          have HDG := Lib.hid hdg
          clear hdg h6
          obtain ⟨d, hd⟩ : ∃ d, s[i].toNat = d := ⟨_, rfl⟩
          have HDD := Lib.hid hd
          rw [hd] at hb
          have r1 : IntKind.i64.wrap ((n : Int) * 10) = (n : Int) * 10 := IntWalk.i64_in _ (by omega)
          have r2 : IntKind.i64.wrap (s[i].toNat : Int) = (s[i].toNat : Int) := by rw [hd]; exact IntWalk.i64_in _ (by omega)
          have r3 : IntKind.i64.wrap ((n : Int) * 10 + (s[i].toNat : Int)) = (n : Int) * 10 + (s[i].toNat : Int) := by rw [hd]; exact IntWalk.i64_in _ (by omega)
          have r4 : IntKind.i64.wrap ((n : Int) * 10 + (s[i].toNat : Int) - 48) = ((n * 10 + (d - 48) : Nat) : Int) := by rw [hd, IntWalk.i64_in _ (by omega)]; omega
          have hnx : nval s a (k + 1) = n * 10 + (d - 48) := by
            show nval s a k * 10 + ((bt s (a + k)).toNat - 48) = _
            rw [HN.out, HI.out, bt_eq hlt, hd]
          have HNX := Lib.hid hnx
          obtain ⟨NN, hNN⟩ : ∃ NN, n * 10 + (d - 48) = NN := ⟨_, rfl⟩
          rw [hNN] at r4 HNX
          clear hnx hd hNN
          by_cases hc : cont s a k = true
          · have HCN := Lib.hid hc
            rcases Nat.eq_zero_or_pos k with g | g
            · have t4 : ((i : Int) == (a : Int)) = true := by have := HI.out; simp; omega
              have HG := Lib.hid g
              clear g hc
              go_wp2_with fail
              refine HCL.out.mono ?_
              rintro e w2 ⟨rfl, rfl⟩
              go_wp2
              go_roundw
              case rel =>
                refine ⟨by first | rfl | trivial, k + 1, by have := HI.out; go_num, by rw [HNX.out], by have := HI.out; omega, fun j hj => ?_⟩
                rcases Nat.lt_or_ge j k with g' | g'
                · exact HK.out j g'
                · obtain rfl : j = k := by omega
                  exact HCN.out
              case measure => simp [intOf]; omega
            · have t4 : ((i : Int) == (a : Int)) = false := by have := HI.out; simp; omega
              have ha' : a < s.size := by have := HI.out; omega
              have h48 : (bt s a).toNat ≠ 48 := by
                rcases (cont_dg hc).2.2 with h | h
                · omega
                · exact h
              have t5 : ((s[a].toNat : Int) != 48) = true := by rw [bt_eq ha'] at h48; simp; omega
              have u1 : (a : Int) < (s.size : Int) := by omega
              have HG := Lib.hid g
              clear g hc h48
              go_wp2_with fail
              refine HCL.out.mono ?_
              rintro e w2 ⟨rfl, rfl⟩
              go_wp2
              go_roundw
              case rel =>
                refine ⟨by first | rfl | trivial, k + 1, by have := HI.out; go_num, by rw [HNX.out], by have := HI.out; omega, fun j hj => ?_⟩
                rcases Nat.lt_or_ge j k with g' | g'
                · exact HK.out j g'
                · obtain rfl : j = k := by omega
                  exact HCN.out
              case measure => simp [intOf]; omega
          · have hcf : cont s a k = false := by simpa using hc
            have hz : k ≠ 0 ∧ (bt s a).toNat = 48 := by
              constructor
              · intro h; exact hc (cont_mk (by rw [HI.out]; exact HDG.out) h7 (.inl h))
              · rcases Classical.em ((bt s a).toNat = 48) with h | h
                · exact h
                · exact absurd (cont_mk (by rw [HI.out]; exact HDG.out) h7 (.inr h)) hc
            have ha' : a < s.size := by have := HI.out; omega
            have t4 : ((i : Int) == (a : Int)) = false := by have := HI.out; simp; omega
            have t5 : ((s[a].toNat : Int) != 48) = false := by have h := hz.2; rw [bt_eq ha'] at h; simp; omega
            have u1 : (a : Int) < (s.size : Int) := by omega
            have HC := Lib.hid (HF.out hcf)
            clear hcf hc hz
            go_wp2_with fail
            refine HCL.out.mono ?_
            rintro e w2 ⟨rfl, rfl⟩
            go_wp2
            go_ret2
            exact ⟨congrArg Ending.returned HC.out, rfl⟩
        · have t3 : ((c : Int) == 6) = false := by simp; omega
          have hdg : dg s i = false := by
            rcases hd : dg s i with _ | _
            · rfl
            · exact absurd (HCD.out.2 hd) h6
          have HC := Lib.hid (HF.out (cont_no (.inl (by rw [HI.out]; exact hdg))))
          clear hdg h6
          go_wp2_with fail
          refine HCL.out.mono ?_
          rintro e w2 ⟨rfl, rfl⟩
          go_wp2
          go_ret2
          exact ⟨congrArg Ending.returned HC.out, rfl⟩
    · obtain rfl : i = s.size := by omega
      have HC := Lib.hid (HF.out (cont_no (.inl (by
        rw [HI.out]
        rcases hd : dg s s.size with _ | _
        · rfl
        · exact absurd (dg_lt hd) (Nat.lt_irrefl _)))))
      clear hlt
      go_wp2
      go_ret2
      exact ⟨congrArg Ending.returned HC.out, rfl⟩
end
end Go.Proofs.Ytppipngdakfbpaa

/- What the statements' SameTokens; the statements TokenLex and TokenSame. Condition: texts of at most 900 bytes; the program's table of operators lies as start-up lays it. -/
import Derived.Test.YtgfkbfojeohlkaaGreatDoorTkWq
import Derived.Test.YtgfkbfojeohlkaaGreatDoorTkK
namespace Go.Proofs.YtgfkbfojeohlkaaGreatDoor
open Go.RowKit
set_option linter.unusedVariables false
set_option linter.unusedSectionVars false

def StRl (W : World) (n : Nat) (v : Value) (wr : World) : Prop := ∃ i : Nat, i ≤ n ∧ v = .int .i64 (i : Int) ∧ Below W.heap.size W wr
section
variable (w : World) (l : List Tk) (oa ob : Option Addr) (n c e : Nat) (ha : RdK w oa n l) (hb : RdK w ob n l) (hn : n ≤ 1000000)
include ha hb hn
set_option maxRecDepth 100000 in
set_option maxHeartbeats 4000000 in
theorem sameT_any : Calls Tryz.prog 20 #[.slice oa n c, .slice ob n e] w fun e w' => e = .returned (.bool true) ∧ Below w.heap.size w w' := by
  have hla := ha.len
  have HA := Lib.hid ha
  have HB := Lib.hid hb
  have HLA := Lib.hid hla
  clear ha hb hla
  go_enter Tryz.func20, Tryz.ntmps20
  go_wp2
  go_loopw [5] (fun v wr => StRl w n v wr) (fun v _ => n - (intOf v).toNat)
  case atStart => exact ⟨0, Nat.zero_le _, rfl, Below.refl _ _⟩
  case round =>
    obtain ⟨i, hi, rfl, hbl⟩ := hrel
    have HBL := Lib.hid hbl
    by_cases hlt : i < n
    · have q1 : (i : Int) < (n : Int) := by omega
      have q0 : (0 : Int) ≤ (i : Int) := by omega
      have hxa : l[i]? = some (l[i]'(by have := HLA.out; omega)) := List.getElem?_eq_getElem _
      generalize l[i]'(by have := HLA.out; omega) = x at hxa
      obtain ⟨g1, o1, rfl, h1, c0, c1, c2, c3⟩ := (HA.out.below hbl).cells i x hxa
      obtain ⟨g2, o2, rfl, h2, d0, d1, d2, d3⟩ := (HB.out.below hbl).cells i x hxa
      obtain ⟨tk, tf, te, top⟩ := x
      have hneq := neq_tk tk tf te top
      dsimp only at c0 c1 c2 c3 d0 d1 d2 d3
      clear hxa hbl
      go_wp2
      go_quiet (fail)
      go_wp2
      go_roundw
      case rel => exact ⟨i + 1, by omega, by go_num, below_drewN HBL.out _⟩
      case measure => simp [intOf]; omega
    · have q1 : ¬ (i : Int) < (n : Int) := by omega
      clear hlt hbl
      go_wp2
      go_ret
      exact ⟨rfl, HBL.out⟩
end
section
variable (w : World) (hT : Tx w)
include hT
set_option maxRecDepth 100000 in
set_option maxHeartbeats 8000000 in
theorem tokenLex_law (s : ByteArray) (hz : s.size ≤ 9223372036854775807) :
    Calls Tryz.prog 3 #[.string s] w fun e w' => e = .returned (.bool true) ∧ Below w.heap.size w w' := by
  have HAW := Lib.hid (awake9_any w hT)
  by_cases hs : s.size ≤ 150
  · have hi : ¬ (150 : Int) < (s.size : Int) := by omega
    have HLX := Lib.hid (fun W (hW : Below w.heap.size w W) => lex_any W s (by omega) (hT.b hW))
    have HRL := Lib.hid (fun W => reflex_any W s (by omega))
    have hlen := tksF_len s s.size 0 Lx.zero
    have e : TKs s = tksF s s.size 0 Lx.zero := rfl
    rw [← e] at hlen
    have hlp := (lstX_pend s).1
    clear hT e
    generalize lstX (TKs s) = X at *
    obtain ⟨L, hL⟩ : ∃ L, (TKs s).map Prod.fst = L := ⟨_, rfl⟩
    obtain ⟨N, hN⟩ : ∃ N, (TKs s).length = N := ⟨_, rfl⟩
    have hLN : N = L.length := by rw [← hL, List.length_map, hN]
    rw [hL, hN] at HLX HRL
    rw [hN] at hlen
    have HLN := Lib.hid hLN
    clear hL hN hLN
    go_enter Tryz.func3, Tryz.ntmps3
    go_wp2_with fail
    refine (HAW.out).mono ?_
    rintro e w1 ⟨rfl, hb1⟩
    go_wp2_with fail
    refine (HLX.out _ hb1).mono ?_
    rintro e w2 ⟨v, oa, n, c, rfl, ho, hM, hb2⟩
    obtain ⟨ot, ct, rfl, hK⟩ := RdK.of_own HLN.out ho
    have k1 := Blk.new w2 #[.int .i64 (X.await : Int), .slice oa n c, .bool X.body] 26
    have hba := (Below.refl w2.heap.size w2).alloc (Nat.le_refl _) (.cells #[.int .i64 (X.await : Int), .slice oa n c, .bool X.body] 26)
    have hK1 := hK.below hba
    have hM1 := hM.rd.below hba
    have HB2 := Lib.hid ((hb1.trans (hb2.mono hb1.size)).alloc (Nat.le_trans hb1.size hb2.size) (.cells #[.int .i64 (X.await : Int), .slice oa n c, .bool X.body] 26))
    have HK1 := Lib.hid hK1
    have HM1 := Lib.hid hM1
    have HKA := Lib.hid k1
    clear ho hM hK hK1 hM1 k1 hba hb2
    unfold aggL
    go_wp2_with fail
    refine (HRL.out _).mono ?_
    rintro e w3 ⟨v, oa', n', c', rfl, ho', hM', hb3⟩
    obtain ⟨ot', ct', rfl, hK'⟩ := RdK.of_own HLN.out ho'
    have k2 := Blk.new w3 #[.int .i64 (X.await : Int), .slice oa' n' c', .bool X.body] 26
    have hbb := (Below.refl w3.heap.size w3).alloc (Nat.le_refl _) (.cells #[.int .i64 (X.await : Int), .slice oa' n' c', .bool X.body] 26)
    have hK2 := hK'.below hbb
    have hM2 := hM'.below hbb
    have k1' := (HKA.out.below hb3).below hbb
    have hKa := (HK1.out.below hb3).below hbb
    have hMa := (HM1.out.below hb3).below hbb
    have HB3 := Lib.hid ((HB2.out.trans (hb3.mono HB2.out.size)).trans (hbb.mono (Nat.le_trans HB2.out.size hb3.size)))
    have hst := sameT_any _ L ot ot' N ct ct' hKa hK2 (by omega)
    have HST := Lib.hid hst
    have HMa := Lib.hid hMa
    have HM2 := Lib.hid hM2
    have HK2 := Lib.hid k2
    have HK1' := Lib.hid k1'
    clear ho' hM' hK' hK2 hM2 k2 k1' hKa hMa hst hbb hb3
    unfold aggL
    go_wp2_with fail
    refine (HST.out).mono ?_
    rintro e w4 ⟨rfl, hb4⟩
    have g1 := HK1'.out.below hb4
    have g2 := HK2.out.below hb4
    have x0 := g1.cell 0
    have x1 := g1.cell 1
    have x2 := g1.cell 2
    have y0 := g2.cell 0
    have y1 := g2.cell 1
    have y2 := g2.cell 2
    have hna := HMa.out.len
    have hnb := HM2.out.len
    have hsm := rsame_any _ X.pend X.pend oa oa' n n' c c' (HMa.out.below hb4).rdd (HM2.out.below hb4).rdd (by omega) (by omega) (X.await : Int) (X.await : Int) X.body X.body
    rw [sameX_refl] at hsm
    have HSM := Lib.hid hsm
    have HB4 := Lib.hid (HB3.out.trans (hb4.mono HB3.out.size))
    clear hsm hna hnb hb4 g1 g2
    go_wp2_with fail
    refine (HSM.out).mono ?_
    rintro e w5 ⟨rfl, hb5⟩
    go_wp2
    go_ret
    exact ⟨rfl, HB4.out.trans (hb5.mono HB4.out.size)⟩
  · have hi : (150 : Int) < (s.size : Int) := by omega
    clear hT
    go_enter Tryz.func3, Tryz.ntmps3
    go_wp2_with fail
    refine (HAW.out).mono ?_
    rintro e w1 ⟨rfl, hb1⟩
    go_wp2
    go_ret
    exact ⟨rfl, hb1⟩
end
end Go.Proofs.YtgfkbfojeohlkaaGreatDoor

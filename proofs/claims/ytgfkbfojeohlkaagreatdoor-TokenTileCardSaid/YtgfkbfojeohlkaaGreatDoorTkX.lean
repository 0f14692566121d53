/- The statement TokenTile's walk: the tokens of a text tile it. Condition: the program's table of operators lies as start-up lays it. -/
import Derived.Test.YtgfkbfojeohlkaaGreatDoorTkL
namespace Go.Proofs.YtgfkbfojeohlkaaGreatDoor
open Go.RowKit
set_option linter.unusedVariables false
set_option linter.unusedSectionVars false

theorem tkN_kind {s : ByteArray} {a : Nat} (x : Lx) : 1 ≤ (tkN s a x).kind ∧ (tkN s a x).kind ≤ 7 := by
  unfold tkN
  split
  · exact ⟨by show 1 ≤ 7; omega, Nat.le_refl _⟩
  · have := meK_le s a
    show 1 ≤ meK s a ∧ meK s a ≤ 7
    omega
def TiR (s : ByteArray) (w : World) (v5 v6 v7 : Value) (wr : World) : Prop :=
  ∃ (j a : Nat) (x : Lx) (pre : List (Tk × Lx)), TKs s = pre ++ tksF s (s.size - a) a x ∧ pre.length = j ∧ a ≤ s.size ∧ v5 = .int .i64 (a : Int) ∧ v6 = .string (s.extract 0 a) ∧ v7 = .int .i64 (j : Int) ∧ Below w.heap.size w wr
theorem ext_cat {s : ByteArray} {a b : Nat} (h1 : a ≤ b) (h2 : b ≤ s.size) : s.extract 0 a ++ s.extract a b = s.extract 0 b := by
  have := ByteArray.extract_append_extract (a := s) (i := 0) (j := a) (k := b)
  rw [this]
  congr 1 <;> omega
section
variable (w : World) (hT : Tx w)
include hT
set_option maxRecDepth 100000 in
set_option maxHeartbeats 8000000 in
theorem tokenTile_law (s : ByteArray) (hz : s.size ≤ 9223372036854775807) :
    Calls Tryz.prog 4 #[.string s] w fun e w' => e = .returned (.bool true) ∧ Below w.heap.size w w' := by
  have HAW := Lib.hid (awake9_any w hT)
  by_cases hs : s.size ≤ 150
  · have hi : ¬ (150 : Int) < (s.size : Int) := by omega
    have hlx := fun W (hW : Below w.heap.size w W) => lex_any W s (by omega) (hT.b hW)
    have HLX := Lib.hid hlx
    clear hlx hT
    go_enter Tryz.func4, Tryz.ntmps4
    go_wp2_with fail
    refine (HAW.out).mono ?_
    rintro e w1 ⟨rfl, hb1⟩
    go_wp2_with fail
    refine (HLX.out _ hb1).mono ?_
    rintro e w2 ⟨v, oa, n, c, rfl, ho, hM, hB2⟩
    have hR := RdT.of_own (by rw [List.length_map]; exact ho)
    generalize lstX (TKs s) = X at *
    clear ho hM
    unfold aggL
    have hB := hb1.trans (hB2.mono hb1.size)
    have hB3 : ∀ o, Below w.heap.size w (w2.alloc o) := fun o => hB.alloc hB.size o
    have hR3 : ∀ o, RdT (w2.alloc o) v ((TKs s).map Prod.fst) := fun o => hR.below ((Below.refl _ _).alloc (Nat.le_refl _) o)
    have HB3 := Lib.hid hB3
    have hst : ∀ o, TiR s (w2.alloc o) (.int .i64 ((0 : Nat) : Int)) (.string ⟨#[]⟩) (.int .i64 ((0 : Nat) : Int)) (w2.alloc o) := fun o =>
      ⟨0, 0, Lx.zero, [], rfl, rfl, Nat.zero_le _, rfl, by rw [show s.extract 0 0 = (⟨#[]⟩ : ByteArray) from ByteArray.ext (Array.eq_empty_of_size_eq_zero (by show (s.extract 0 0).size = 0; rw [ByteArray.size_extract]; omega))], rfl, Below.refl _ _⟩
    have HST := Lib.hid hst
    have HR3 := Lib.hid hR3
    clear hst hR3 hB3 hb1 hB2 hB HAW HLX
    have hR4 := hR
    rcases hR with ⟨h1, h2⟩ | ⟨b, off, cc, h1, h2, h3⟩
    · have hnil : TKs s = [] := List.map_eq_nil_iff.1 h2
      have hs0 : s.size = 0 := by
        rcases Nat.eq_zero_or_pos s.size with h | h
        · exact h
        · exfalso
          have := tksF_next (s := s) (a := 0) Lx.zero h
          have e : TKs s = tksF s (s.size - 0) 0 Lx.zero := rfl
          rw [← e, hnil] at this
          cases this
      subst h1
      clear hR4
      have hi0 : ¬ (0 : Int) < 0 := by omega
      go_wp2
      obtain ⟨W3, hW3⟩ : ∃ Y, w2.alloc (.cells #[.int .i64 (X.await : Int), .slice oa n c, .bool X.body] 26) = Y := ⟨_, rfl⟩
      rw [hW3]
      go_loopw [5, 6, 7] (fun v5 v6 v7 wr => TiR s W3 v5 v6 v7 wr) (fun _ _ v7 _ => 0 - (intOf v7).toNat)
      case atStart => rw [← hW3]; exact HST.out _
      case round =>
        obtain ⟨j, a, x, pre, hL, hj, ha, rfl, rfl, rfl, hbr⟩ := hrel
        have hj0 : j = 0 := by
          rw [hnil] at hL
          have := (List.append_eq_nil_iff.1 hL.symm).1
          rw [← hj, this]; rfl
        have ha0 : a = s.size := by omega
        subst hj0 ha0
        rw [ByteArray.extract_zero_size]
        have hB4 := HB3.out (.cells #[.int .i64 (X.await : Int), .slice oa n c, .bool X.body] 26)
        rw [hW3] at hB4
        have hBf := hB4.trans (hbr.mono hB4.size)
        clear hL hj hbr hnil hs0 hB4 h2
        go_wp2
        go_ret
        exact ⟨by simp, hBf⟩
    · have hN : ∃ N, ((TKs s).map Prod.fst).length = N := ⟨_, rfl⟩
      obtain ⟨N, hN⟩ := hN
      rw [hN] at h1
      have HN := Lib.hid hN
      have hN150 : N ≤ 150 := by
        rw [← hN, List.length_map]
        exact Nat.le_trans (tksF_len s s.size 0 Lx.zero) hs
      subst h1
      have H3 := Lib.hid h3
      clear hN h3 hR4
      go_wp2
      obtain ⟨W3, hW3⟩ : ∃ Y, w2.alloc (.cells #[.int .i64 (X.await : Int), .slice oa n c, .bool X.body] 26) = Y := ⟨_, rfl⟩
      rw [hW3]
      go_loopw [5, 6, 7] (fun v5 v6 v7 wr => TiR s W3 v5 v6 v7 wr) (fun _ _ v7 _ => N - (intOf v7).toNat)
      case atStart => rw [← hW3]; exact HST.out _
      case round =>
        obtain ⟨j, a, x, pre, hL, hj, ha, rfl, rfl, rfl, hbr⟩ := hrel
        have hB4 := HB3.out (.cells #[.int .i64 (X.await : Int), .slice oa n c, .bool X.body] 26)
        rw [hW3] at hB4
        have hBf := hB4.trans (hbr.mono hB4.size)
        have hB5 : Below w2.heap.size w2 W3 := by rw [← hW3]; exact (Below.refl _ _).alloc (Nat.le_refl _) _
        have hB6 := hB5.trans (hbr.mono hB5.size)
        have HBF := Lib.hid hBf
        by_cases hlt : a < s.size
        · have hlx := tksF_next x hlt
          rw [hlx] at hL
          have hok := tkN_ok x hlt
          have hkd := tkN_kind (s := s) (a := a) x
          have hget : ((TKs s).map Prod.fst)[j]? = some (tkN s a x) := by
            rw [hL, List.map_append, List.getElem?_append_right (by rw [List.length_map]; omega), List.length_map, hj, Nat.sub_self]
            rfl
          have hjN : j < N := by
            have := HN.out
            rw [← this, hL, List.length_map, List.length_append, List.length_cons]
            omega
          obtain ⟨c0, c1, c2, c3⟩ := H3.out j _ hget
          have e : ∀ o, wr.cell? ⟨b, o, none⟩ = w2.cell? ⟨b, o, none⟩ := fun o => hB6.cell (p := ⟨b, o, none⟩) h2
          rw [← e] at c0 c1 c2 c3
          have htx := fun W => text_any W s (tkN s a x) (by omega) (by omega) hok.2.2
          have hrel2 : ∀ wf, Below W3.heap.size W3 wf → TiR s W3 (.int .i64 ((tkN s a x).en : Int)) (.string (s.extract 0 (tkN s a x).en)) (.int .i64 ((j + 1 : Nat) : Int)) wf := fun wf hwf =>
            ⟨j + 1, (tkN s a x).en, nxN s a x, pre ++ [(tkN s a x, nxN s a x)], by rw [hL, List.append_assoc]; rfl, by rw [List.length_append, hj]; rfl, hok.2.2, rfl, rfl, rfl, hwf⟩
          have HREL := Lib.hid hrel2
          unfold aggT at htx
          clear hrel2 hlx hget hL hj hB4 hB5 hB6 e
          generalize tkN s a x = t at *
          obtain ⟨tk, tf, te, top⟩ := t
          obtain ⟨k1, k2, k3⟩ := hok
          dsimp only at k1 k2 k3 hkd htx HREL c0 c1 c2 c3
          subst k1
          have hcat := ext_cat (s := s) (Nat.le_of_lt k2) k3
          have hzA : (s.extract 0 tf).size = tf := by rw [ByteArray.size_extract]; omega
          have hzB : (s.extract tf te).size = te - tf := by rw [ByteArray.size_extract]; omega
          generalize s.extract 0 tf = A at *
          generalize s.extract tf te = B at *
          generalize s.extract 0 te = C at *
          have HTX := Lib.hid htx
          have HBR := Lib.hid hbr
          clear htx hbr hBf
          have hzC : C.size ≤ 1000 := by rw [← hcat, ByteArray.size_append]; omega
          have hzs : A.size + B.size ≤ 1000 := by omega
          have i1 : (j : Int) < (N : Int) := by omega
          have i2 : (0 : Int) ≤ (j : Int) := by omega
          have i3 : ¬ (te : Int) ≤ (tf : Int) := by omega
          have i4 : ¬ (tk : Int) < 1 := by omega
          have i5 : ¬ (7 : Int) < (tk : Int) := by omega
          go_wp2_with fail
          refine (HTX.out _).mono ?_
          rintro e w4 ⟨rfl, hb4⟩
          have hfin := HREL.out _ (HBR.out.trans (hb4.mono HBR.out.size))
          rw [← hcat] at hfin
          have HFIN := Lib.hid hfin
          clear hfin hcat
          go_wp2
          go_roundw
          case rel =>
            have h := HFIN.out
            push_cast at h
            first
              | exact h
              | simpa using h
          case measure => simp [intOf]; omega
        · have ha0 : a = s.size := by omega
          subst ha0
          rw [ByteArray.extract_zero_size]
          have hjN : N = j := by
            rw [tksF_end x hlt, List.append_nil] at hL
            rw [← HN.out, hL, List.length_map, hj]
          subst hjN
          have hi0 : ¬ (N : Int) < (N : Int) := by omega
          clear hL hj hbr hB4 hB5 hB6 hlt ha hBf
          go_wp2
          go_ret
          exact ⟨by simp, HBF.out⟩
  · have hi : (150 : Int) < (s.size : Int) := by omega
    clear hT
    go_enter Tryz.func4, Tryz.ntmps4
    go_wp2_with fail
    refine (HAW.out).mono ?_
    rintro e w1 ⟨rfl, hb1⟩
    go_wp2
    go_ret
    exact ⟨rfl, hb1⟩
end
end Go.Proofs.YtgfkbfojeohlkaaGreatDoor

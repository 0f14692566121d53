/- The statement TokenAhead's walk: of two texts with one beginning the tokens that end two bytes ahead of its end are the same. Condition: the program's table of operators lies as start-up lays it. -/
import Derived.Test.YtgfkbfojeohlkaaGreatDoorQk
import Derived.Test.YtgfkbfojeohlkaaGreatDoorTkK
namespace Go.Proofs.YtgfkbfojeohlkaaGreatDoor
open Go.RowKit
set_option linter.unusedVariables false
set_option linter.unusedSectionVars false

def AhR (S T : ByteArray) (n : Nat) (W : World) (v : Value) (wr : World) : Prop :=
  ∃ (i p : Nat) (x : Lx) (pre : List (Tk × Lx)), v = .int .i64 (i : Int) ∧ pre.length = i ∧ p ≤ n ∧ TKs S = pre ++ tksF S (S.size - p) p x ∧ TKs T = pre ++ tksF T (T.size - p) p x ∧ Below W.heap.size W wr
theorem by8_app {a b : ByteArray} {i : Nat} (h : i < a.size) : by8 (a ++ b) i = by8 a i := by unfold by8; rw [bt_al h]
section
variable (w : World) (hT : Tx w)
include hT
set_option maxRecDepth 100000 in
set_option maxHeartbeats 8000000 in
theorem tokenAhead_in (a b c : ByteArray) (ha : a.size ≤ 100) (hb : b.size ≤ 100) (hc : c.size ≤ 100) :
    Calls Tryz.prog 6 #[.string a, .string b, .string c] w fun e w' => e = .returned (.bool true) ∧ Below w.heap.size w w' := by
  have HAW := Lib.hid (awake9_any w hT)
  obtain ⟨S, hS⟩ : ∃ S, a ++ b = S := ⟨_, rfl⟩
  obtain ⟨T, hTt⟩ : ∃ T, a ++ c = T := ⟨_, rfl⟩
  have hSz : S.size = a.size + b.size := by rw [← hS, ByteArray.size_append]
  have hTz : T.size = a.size + c.size := by rw [← hTt, ByteArray.size_append]
  have hbeg : Beg S T a.size := ⟨by omega, by omega, fun i hi => by rw [← hS, ← hTt, by8_app hi, by8_app hi]⟩
  have hs1 : S.size ≤ 200 ∧ a.size ≤ S.size := by omega
  have hs2 : T.size ≤ 200 ∧ a.size ≤ T.size := by omega
  have HLX := Lib.hid (fun W (hW : Below w.heap.size w W) => lex_any W S (by omega) (hT.b hW))
  have HLY := Lib.hid (fun W (hW : Below w.heap.size w W) => lex_any W T (by omega) (hT.b hW))
  have hl1 := tksF_len S S.size 0 Lx.zero
  have hl2 := tksF_len T T.size 0 Lx.zero
  rw [show tksF S S.size 0 Lx.zero = TKs S from rfl] at hl1
  rw [show tksF T T.size 0 Lx.zero = TKs T from rfl] at hl2
  have HBEG := Lib.hid hbeg
  have HGS := Lib.hid (fun a x pre => @tks_get S a x pre)
  have HGT := Lib.hid (fun a x pre => @tks_get T a x pre)
  have HES := Lib.hid (fun a x pre => @tks_done S a x pre)
  have HET := Lib.hid (fun a x pre => @tks_done T a x pre)
  generalize lstX (TKs S) = X at *
  generalize lstX (TKs T) = Y at *
  obtain ⟨L, hL⟩ : ∃ L, (TKs S).map Prod.fst = L := ⟨_, rfl⟩
  obtain ⟨M, hM⟩ : ∃ M, (TKs T).map Prod.fst = M := ⟨_, rfl⟩
  obtain ⟨N1, hN1⟩ : ∃ N, (TKs S).length = N := ⟨_, rfl⟩
  obtain ⟨N2, hN2⟩ : ∃ N, (TKs T).length = N := ⟨_, rfl⟩
  have hLN : N1 = L.length := by rw [← hL, List.length_map, hN1]
  have hMN : N2 = M.length := by rw [← hM, List.length_map, hN2]
  rw [hL, hN1] at HLX HGS
  rw [hM, hN2] at HLY HGT
  rw [hN1] at hl1 HES
  rw [hN2] at hl2 HET
  have HLN := Lib.hid hLN
  have HMN := Lib.hid hMN
  have i1 : ¬ (100 : Int) < (a.size : Int) := by omega
  have i2 : ¬ (100 : Int) < (b.size : Int) := by omega
  have i3 : ¬ (100 : Int) < (c.size : Int) := by omega
  have r1 : IntKind.i64.wrap ((a.size : Int) - 2) = (a.size : Int) - 2 := IntWalk.i64_in _ (by omega)
  have z1 : ¬ (9223372036854775807 < a.size + b.size) := by omega
  have z2 : ¬ (9223372036854775807 < a.size + c.size) := by omega
  clear hbeg hL hM hN1 hN2 hLN hMN hT hSz hTz
  go_enter Tryz.func6, Tryz.ntmps6
  go_wp2_with fail
  refine (HAW.out).mono ?_
  rintro e w1 ⟨rfl, hb1⟩
  go_wp2_with fail
  refine (HLX.out _ hb1).mono ?_
  rintro e w2 ⟨v, oa, n, cc, rfl, ho, hMl, hb2⟩
  obtain ⟨ot, ct, rfl, hK⟩ := RdK.of_own HLN.out ho
  have hba := (Below.refl w2.heap.size w2).alloc (Nat.le_refl _) (.cells #[.int .i64 (X.await : Int), .slice oa n cc, .bool X.body] 26)
  have HK1 := Lib.hid (hK.below hba)
  have hB2 := (hb1.trans (hb2.mono hb1.size)).alloc (Nat.le_trans hb1.size hb2.size) (.cells #[.int .i64 (X.await : Int), .slice oa n cc, .bool X.body] 26)
  have HB2 := Lib.hid hB2
  clear ho hMl hK hba hb2 hb1 hB2
  unfold aggL
  go_wp2_with fail
  refine (HLY.out _ HB2.out).mono ?_
  rintro e w3 ⟨v, oa', n', cc', rfl, ho, hMl, hb3⟩
  obtain ⟨ot', ct', rfl, hK⟩ := RdK.of_own HMN.out ho
  have hbb := (Below.refl w3.heap.size w3).alloc (Nat.le_refl _) (.cells #[.int .i64 (Y.await : Int), .slice oa' n' cc', .bool Y.body] 26)
  have HK2 := Lib.hid (hK.below hbb)
  have HK1' := Lib.hid ((HK1.out.below hb3).below hbb)
  have HB3 := Lib.hid ((HB2.out.trans (hb3.mono HB2.out.size)).trans (hbb.mono (Nat.le_trans HB2.out.size hb3.size)))
  clear ho hMl hK hbb hb3
  unfold aggL
  go_wp2
  obtain ⟨W4, hW4⟩ : ∃ Z, w3.alloc (.cells #[.int .i64 (Y.await : Int), .slice oa' n' cc', .bool Y.body] 26) = Z := ⟨_, rfl⟩
  rw [hW4] at HK2 HK1' HB3 ⊢
  clear hW4
  go_loopw [11] (fun v wr => AhR S T a.size W4 v wr) (fun v _ => N1 - (intOf v).toNat)
  case atStart => exact ⟨0, 0, Lx.zero, [], rfl, rfl, Nat.zero_le _, rfl, rfl, Below.refl _ _⟩
  case round =>
    obtain ⟨i, p, x, pre, rfl, hpl, hpn, hLS, hLT, hbl⟩ := hrel
    have HBL := Lib.hid (HB3.out.trans (hbl.mono HB3.out.size))
    have HBL0 := Lib.hid hbl
    have HLS := Lib.hid hLS
    have HLT := Lib.hid hLT
    have HPL := Lib.hid hpl
    have hkS := HK1'.out.below hbl
    have hkT := HK2.out.below hbl
    have q0 : (0 : Int) ≤ (i : Int) := by omega
    -- the second text's token here, if there is one
    have hTok : (p < T.size ∧ M[i]? = some (tkN T p x) ∧ i < N2) ∨ (¬ p < T.size ∧ N2 = i) := by
      by_cases h : p < T.size
      · have := HGT.out p x pre HLT.out h
        rw [HPL.out] at this
        exact .inl ⟨h, this.1, this.2.1⟩
      · have := HET.out p x pre HLT.out h
        rw [HPL.out] at this
        exact .inr ⟨h, this⟩
    have HTOK := Lib.hid hTok
    clear hLS hLT hpl hbl hTok
    by_cases hlt : p < S.size
    · obtain ⟨hg, hgl, hgn⟩ := HGS.out p x pre HLS.out hlt
      rw [HPL.out] at hg hgl
      have q1 : (i : Int) < (N1 : Int) := by omega
      obtain ⟨g1, o1, rfl, h1, c0, c1, c2, c3⟩ := hkS.cells i _ hg
      have hok := tkN_ok x hlt
      have hbq := fun he => tkN_beg HBEG.out x hlt he
      have hbs := fun (ht : p < T.size) he => tkN_beg HBEG.out.symm x ht he
      generalize tkN S p x = t at c0 c1 c2 c3 hok hbq hbs hgn hg
      obtain ⟨tk, tf, te, top⟩ := t
      dsimp only at c0 c1 c2 c3 hok hbq hbs hgn
      have HGN := Lib.hid hgn
      have HBS := Lib.hid hbs
      clear hgn hbs hg
      by_cases hte : te + 2 ≤ a.size
      · obtain ⟨e1, e2⟩ := hbq hte
        have hpT : p < T.size := by omega
        rcases HTOK.out with ⟨_, hm, hi2⟩ | ⟨h, _⟩
        · rw [e1] at hm
          obtain ⟨g2, o2, rfl, h2, d0, d1, d2, d3⟩ := hkT.cells i _ hm
          dsimp only at d0 d1 d2 d3
          have hgT := (HGT.out p x pre HLT.out hpT).2.2
          rw [e1, e2] at hgT
          have HGT2 := Lib.hid hgT
          have q2 : (te : Int) ≤ (a.size : Int) - 2 := by omega
          have q3 : ¬ (N2 : Int) ≤ (i : Int) := by omega
          have q4 : (i : Int) < (N2 : Int) := by omega
          have hneq := neq_tk (tk : Int) tf te top
          have HHH := Lib.hid hok
          clear e1 e2 hm hgT hbq hok
          go_wp2
          go_quiet (fail)
          go_wp2
          go_roundw
          case rel =>
            refine ⟨i + 1, te, nxN S p x, pre ++ [(⟨tk, tf, te, top⟩, nxN S p x)], by go_num, ?_, by omega, HGN.out, HGT2.out, ?_⟩
            · rw [List.length_append, HPL.out]; rfl
            · exact below_drewN HBL0.out _
          case measure => simp [intOf]; omega
        · exact absurd hpT h
      · have q2 : ¬ (te : Int) ≤ (a.size : Int) - 2 := by omega
        clear hbq
        rcases HTOK.out with ⟨hpT, hm, hi2⟩ | ⟨h, hi2⟩
        · have hbs := HBS.out hpT
          have hokT := tkN_ok x hpT
          generalize tkN T p x = u at hm hbs hokT
          obtain ⟨uk, uf, ue, uop⟩ := u
          have hue : ¬ ue + 2 ≤ a.size := fun h => by
            have := (hbs h).1
            injection this with _ _ e3
            omega
          obtain ⟨g2, o2, rfl, h2, d0, d1, d2, d3⟩ := hkT.cells i _ hm
          dsimp only at d0 d1 d2 d3
          have q3 : ¬ (N2 : Int) ≤ (i : Int) := by omega
          have q4 : (i : Int) < (N2 : Int) := by omega
          have q5 : (a.size : Int) - 2 < (ue : Int) := by omega
          clear hm hbs hokT hue
          go_wp2
          go_ret
          exact ⟨rfl, HBL.out⟩
        · have q3 : (N2 : Int) ≤ (i : Int) := by omega
          clear hi2
          go_wp2
          go_ret
          exact ⟨rfl, HBL.out⟩
    · have hN := HES.out p x pre HLS.out hlt
      rw [HPL.out] at hN
      have q1 : ¬ (i : Int) < (N1 : Int) := by omega
      have HN := Lib.hid hN
      clear hN
      rcases HTOK.out with ⟨hpT, hm, hi2⟩ | ⟨h, hi2⟩
      · have hokT := tkN_ok x hpT
        generalize tkN T p x = u at hm hokT
        obtain ⟨uk, uf, ue, uop⟩ := u
        obtain ⟨g2, o2, rfl, h2, d0, d1, d2, d3⟩ := hkT.cells i _ hm
        dsimp only at d0 d1 d2 d3 hokT
        have q3 : ¬ (N2 : Int) ≤ (i : Int) := by omega
        have q4 : (i : Int) < (N2 : Int) := by omega
        have q5 : (a.size : Int) - 2 < (ue : Int) := by omega
        clear hm hokT
        go_wp2
        go_ret
        exact ⟨rfl, HBL.out⟩
      · have q3 : (N2 : Int) ≤ (i : Int) := by omega
        clear hi2
        go_wp2
        go_ret
        exact ⟨rfl, HBL.out⟩
set_option maxRecDepth 100000 in
set_option maxHeartbeats 4000000 in
theorem tokenAhead_law (a b c : ByteArray) (ha : a.size ≤ 9223372036854775807) (hb : b.size ≤ 9223372036854775807) (hc : c.size ≤ 9223372036854775807) :
    Calls Tryz.prog 6 #[.string a, .string b, .string c] w fun e w' => e = .returned (.bool true) ∧ Below w.heap.size w w' := by
  by_cases h1 : a.size ≤ 100
  · by_cases h2 : b.size ≤ 100
    · by_cases h3 : c.size ≤ 100
      · exact tokenAhead_in w hT a b c h1 h2 h3
      · have HAW := Lib.hid (awake9_any w hT)
        have i1 : ¬ (100 : Int) < (a.size : Int) := by omega
        have i2 : ¬ (100 : Int) < (b.size : Int) := by omega
        have i3 : (100 : Int) < (c.size : Int) := by omega
        clear hT
        go_enter Tryz.func6, Tryz.ntmps6
        go_wp2_with fail
        refine (HAW.out).mono ?_
        rintro e w1 ⟨rfl, hb1⟩
        go_wp2
        go_ret
        exact ⟨rfl, hb1⟩
    · have HAW := Lib.hid (awake9_any w hT)
      have i1 : ¬ (100 : Int) < (a.size : Int) := by omega
      have i2 : (100 : Int) < (b.size : Int) := by omega
      clear hT
      go_enter Tryz.func6, Tryz.ntmps6
      go_wp2_with fail
      refine (HAW.out).mono ?_
      rintro e w1 ⟨rfl, hb1⟩
      go_wp2
      go_ret
      exact ⟨rfl, hb1⟩
  · have HAW := Lib.hid (awake9_any w hT)
    have i1 : (100 : Int) < (a.size : Int) := by omega
    clear hT
    go_enter Tryz.func6, Tryz.ntmps6
    go_wp2_with fail
    refine (HAW.out).mono ?_
    rintro e w1 ⟨rfl, hb1⟩
    go_wp2
    go_ret
    exact ⟨rfl, hb1⟩
end
end Go.Proofs.YtgfkbfojeohlkaaGreatDoor

/- The statement TokenHere's walk: a here-document is all lines up to the first one that is its delimiter. Condition: the program's table of operators lies as start-up lays it. -/
import Derived.Test.YtgfkbfojeohlkaaGreatDoorTkR
import Derived.Test.YtgfkbfojeohlkaaGreatDoorTkK
namespace Go.Proofs.YtgfkbfojeohlkaaGreatDoor
open Go.RowKit
set_option linter.unusedVariables false
set_option linter.unusedSectionVars false

theorem by8_apl {a b : ByteArray} {i : Nat} (h : i < a.size) : by8 (a ++ b) i = by8 a i := by unfold by8; rw [bt_al h]
theorem by8_apr {a b : ByteArray} {i : Nat} (h : i < b.size) : by8 (a ++ b) (a.size + i) = by8 b i := by
  unfold by8
  rw [bt_ar (by omega) (by omega), Nat.add_sub_cancel_left]
theorem lies_left {a b c : ByteArray} {p : Nat} (h : Lies a b p) : Lies (a ++ c) b p := by
  have h1 := h.1
  refine ⟨by rw [ByteArray.size_append]; omega, fun i hi => ?_⟩
  rw [by8_apl (by omega)]
  exact h.2 i hi
theorem lies_mid (a b : ByteArray) : Lies (a ++ b) b a.size := ⟨by rw [ByteArray.size_append]; omega, fun i hi => by8_apr hi⟩
theorem lies_sub {T b c : ByteArray} {p q : Nat} (h : Lies T b p) (k : Lies b c q) : Lies T c (p + q) := by
  have h1 := h.1
  have k1 := k.1
  refine ⟨by omega, fun i hi => ?_⟩
  rw [show p + q + i = p + (q + i) by omega, h.2 _ (by omega)]
  exact k.2 i hi
theorem lies_zero (a b : ByteArray) : Lies (a ++ b) a 0 := ⟨by rw [ByteArray.size_append]; omega, fun i hi => by rw [Nat.zero_add]; exact by8_apl hi⟩
theorem nm_safe {w : ByteArray} (h : isNm w = true) : w.size ≠ 0 ∧ cl w 0 = 5 ∧ ∀ i, i < w.size → safeB (by8 w i) = true := by
  unfold isNm at h
  obtain ⟨h0, h1⟩ := of_decide_eq_true h
  refine ⟨h0, ?_, fun i hi => ?_⟩
  · have := h1 0 (by omega)
    unfold mayN at this
    have := of_decide_eq_true this
    omega
  · have := h1 i hi
    unfold mayN at this
    have h2 := of_decide_eq_true this
    have h3 : cl w i = 5 ∨ cl w i = 6 := by omega
    unfold safeB
    have h4 : cls (by8 w i) = 5 ∨ cls (by8 w i) = 6 := h3
    simp only [decide_eq_true_eq]
    omega
theorem lies_word {T w : ByteArray} {p : Nat} (h : Lies T w p) : T.extract p (p + w.size) = w := by
  have := lies_ext (i := 0) (j := w.size) h (Nat.le_refl _)
  rw [Nat.add_zero, ByteArray.extract_zero_size] at this
  exact this
theorem nm_tab {w : ByteArray} (h : isNm w = true) : by8 w 0 ≠ 9 := by
  have h1 := nm_safe h
  exact (sf_not _ (by8_lt _ _) (h1.2.2 0 (by omega))).2.2.2.2.2.2.2.2.2.2.1
theorem nm_line {w : ByteArray} (h : isNm w = true) : ∀ i, i < w.size → by8 w i ≠ 10 := fun i hi => (sf_not _ (by8_lt _ _) ((nm_safe h).2.2 i hi)).2.2.2.2.2.2.2.2.2.1
theorem here_six {wd B rest : ByteArray} {tabs : Bool} (hnm : isNm wd = true) (hB : 0 < B.size → by8 B (B.size - 1) = 10) (hd : (dA B ⟨wd, tabs⟩ 0).2 = false) {P H L T : ByteArray} {o k : Nat} (hP : P.size = o) (ho : o = if tabs = true then 5 else 4)
    (h0 : by8 P 0 = 99) (h1 : by8 P 1 = 32) (h2 : by8 P 2 = 60) (h3 : by8 P 3 = 60) (h4 : tabs = true → by8 P 4 = 45) (hH : H = P ++ wd ++ ⟨#[10]⟩)
    (hL : Lies L (wd ++ ⟨#[10]⟩) k) (hLz : L.size = k + wd.size + 1) (hLt : ∀ i, i < k → by8 L i = 9) (hk : k = if tabs = true then 1 else 0) (hT : T = H ++ B ++ L ++ rest) :
    ((TKs T).map Prod.fst)[5]? = some ⟨7, H.size, H.size + B.size + L.size, false⟩ := by
  obtain ⟨hw0, hw5, hws⟩ := nm_safe hnm
  have ho4 : 4 ≤ o := by rw [ho]; split <;> omega
  have hPH : Lies H P 0 := by rw [hH]; exact lies_left (lies_zero P wd)
  have hWH : Lies H wd o := by rw [hH, ← hP]; exact lies_left (lies_mid P wd)
  have hHz : H.size = o + wd.size + 1 := by rw [hH, ByteArray.size_append, ByteArray.size_append, hP]; rfl
  have hNH : by8 H (o + wd.size) = 10 := by
    rw [hH]
    have := by8_apr (a := P ++ wd) (b := ⟨#[10]⟩) (i := 0) (by decide)
    rw [ByteArray.size_append, hP] at this
    exact this
  have hHT : Lies T H 0 := by rw [hT]; exact lies_left (lies_left (lies_zero H B))
  have hBT : Lies T B H.size := by rw [hT]; exact lies_left (lies_left (lies_mid H B))
  have hLT : Lies T L (H.size + B.size) := by rw [hT, ← ByteArray.size_append]; exact lies_left (lies_mid (H ++ B) L)
  have hPT : Lies T P 0 := lies_sub hHT hPH
  have hWT : Lies T wd o := by have := lies_sub hHT hWH; rwa [Nat.zero_add] at this
  have hLT1 := hLT.1
  have byP : ∀ i, i < o → by8 T i = by8 P i := fun i hi => by have := hPT.2 i (by omega); rwa [Nat.zero_add] at this
  have hNT : by8 T (o + wd.size) = 10 := by have := hHT.2 (o + wd.size) (by omega); rw [Nat.zero_add] at this; rw [this]; exact hNH
  have hc5 : cl T o = 5 := by
    have := hWT.2 0 (by omega)
    rw [Nat.add_zero] at this
    show cls (by8 T o) = 5
    rw [this]
    exact hw5
  have hlast : Lies T (wd ++ ⟨#[10]⟩) (H.size + B.size + k) := lies_sub hLT hL
  have hWL : Lies T wd (H.size + B.size + k) := by have := lies_sub hlast (lies_zero wd ⟨#[10]⟩); rwa [Nat.add_zero] at this
  have hnl : by8 L (k + wd.size) = 10 := by
    have := hL.2 wd.size (by rw [ByteArray.size_append]; show wd.size < wd.size + 1; omega)
    rw [this]
    have := by8_apr (a := wd) (b := ⟨#[10]⟩) (i := 0) (by decide)
    rw [Nat.add_zero] at this
    exact this
  have hin : ∀ i, i < k + wd.size → by8 L i ≠ 10 := fun i hi => by
    by_cases g : i < k
    · rw [hLt i g]; omega
    · have := hL.2 (i - k) (by rw [ByteArray.size_append]; show i - k < wd.size + 1; omega)
      rw [show k + (i - k) = i by omega] at this
      rw [this, by8_apl (by omega)]
      exact nm_line hnm _ (by omega)
  have htab : tbN T (H.size + B.size) (H.size + B.size + (k + wd.size)) tabs = k := by
    have h8 : ∀ i, i < k + wd.size → by8 T (H.size + B.size + i) = by8 L i := fun i hi => hLT.2 i (by omega)
    have h9 : by8 L k = by8 wd 0 := by
      have := hL.2 0 (by rw [ByteArray.size_append]; omega)
      rw [Nat.add_zero] at this
      rw [this, by8_apl (by omega)]
    unfold tbN
    by_cases ht : tabs = true
    · rw [if_pos ht]
      refine lead_eq _ (by omega) (fun i hi => ?_) (fun hi => ?_)
      · rw [h8 i (by omega), hLt i hi]; rfl
      · rw [h8 k (by omega), h9, decide_eq_false (nm_tab hnm)]
    · rw [if_neg ht, hk, if_neg ht]
  have hE1 := dA_lines hBT hB (by omega) ⟨wd, tabs⟩ B.size 0 (by omega) (Nat.zero_le _) hd
  have hE2 := dA_last hLT (n := k + wd.size) (by omega) hnl hin ⟨wd, tabs⟩ k (by omega) htab (by
    have := lies_word hWL
    rw [show H.size + B.size + (k + wd.size) = H.size + B.size + k + wd.size by omega]
    exact this)
  have hE : dA T ⟨wd, tabs⟩ (o + wd.size + 1) = (H.size + B.size + L.size, true) := by
    rw [← hHz, ← hE2, ← hE1, Nat.add_zero]
  obtain ⟨r, hr⟩ := six (T := T) (o := o) (n := wd.size) (E := H.size + B.size + L.size) (d := ⟨wd, tabs⟩) (tabs := tabs) ho (by rw [byP 0 (by omega), h0]) (by rw [byP 1 (by omega), h1]) (by rw [byP 2 (by omega), h2]) (by rw [byP 3 (by omega), h3])
    (fun ht => by rw [byP 4 (by rw [ho, if_pos ht]; omega), h4 ht]) (by omega) (by omega) (fun i hi => by rw [hWT.2 i hi]; exact hws i hi) hc5 hNT (by rw [lies_word hWT]) hE
  rw [hr, hHz]
  rfl
theorem eql_tk (a b c : Int) (e : Bool) (w : World) : (binOp .eql 33 (.agg #[.int .i64 a, .int .i64 b, .int .i64 c, .bool e]) (.agg #[.int .i64 a, .int .i64 b, .int .i64 c, .bool e])).run Tryz.prog w = .ok (.bool true) w := by
  rw [run_eql_struct, eq_tk]
  simp [Result.andThen]
section
variable (w : World) (hT : Tx w)
include hT
set_option maxRecDepth 100000 in
set_option maxHeartbeats 8000000 in
theorem tokenHere_in (wd body rest : ByteArray) (tabs : Bool) (h1 : wd.size ≤ 20) (h2 : body.size ≤ 100) (h3 : rest.size ≤ 60) (hnm : isNm wd = true) :
    Calls Tryz.prog 9 #[.string wd, .string body, .string rest, .bool tabs] w fun e w' => e = .returned (.bool true) ∧ Below w.heap.size w w' := by
  have HAW := Lib.hid (awake9_any w hT)
  have hin := fun W => refisname_any wd W (by omega)
  rw [hnm] at hin
  have HIN := Lib.hid hin
  have i1 : ¬ (20 : Int) < (wd.size : Int) := by omega
  have i2 : ¬ (100 : Int) < (body.size : Int) := by omega
  have i3 : ¬ (60 : Int) < (rest.size : Int) := by omega
  obtain ⟨B, hB⟩ : ∃ B, B = if 0 < body.size ∧ by8 body (body.size - 1) ≠ 10 then body ++ ⟨#[10]⟩ else body := ⟨_, rfl⟩
  have hBz : B.size ≤ 101 := by rw [hB]; split; (rw [ByteArray.size_append]; show body.size + 1 ≤ 101; omega); omega
  have hBl : 0 < B.size → by8 B (B.size - 1) = 10 := by
    intro h
    by_cases g : 0 < body.size ∧ by8 body (body.size - 1) ≠ 10
    · rw [if_pos g] at hB
      rw [hB, ByteArray.size_append]
      have := by8_apr (a := body) (b := ⟨#[10]⟩) (i := 0) (by decide)
      exact this
    · rw [if_neg g] at hB
      rw [hB] at h ⊢
      by_cases e : by8 body (body.size - 1) = 10
      · exact e
      · exact absurd ⟨h, e⟩ g
  have HBL := Lib.hid hBl
  have HB := Lib.hid hB
  have HNM := Lib.hid hnm
  have HRH := Lib.hid (fun W => rhere_any W B 0 ⟨wd, tabs⟩ (Nat.zero_le _) (by omega))
  have HTX := Lib.hid hT
  clear hin hBl hB hnm hT
  go_enter Tryz.func9, Tryz.ntmps9
  go_wp2_with fail
  refine (HAW.out).mono ?_
  rintro e w1 ⟨rfl, hb1⟩
  go_wp2_with fail
  refine (HIN.out _).mono ?_
  rintro e w2 ⟨rfl, rfl⟩
  go_upto_region 5 with fail
  obtain ⟨D, hD⟩ : ∃ D, decide (0 < body.size ∧ by8 body (body.size - 1) ≠ 10) = D := ⟨_, rfl⟩
  have HD := Lib.hid hD
  clear hD
  go_cut [45] from 35 to 45 (fun v45 wx => v45 = .bool D ∧ wx = w2)
  case first =>
    by_cases g0 : 0 < body.size
    · have u1 : (0 : Int) < (body.size : Int) := by omega
      obtain ⟨j, hj⟩ : ∃ j, body.size - 1 = j := ⟨_, rfl⟩
      have r1 : IntKind.i64.wrap ((body.size : Int) - 1) = (j : Int) := by rw [IntWalk.i64_in _ (by omega)]; omega
      have u2 : (0 : Int) ≤ (j : Int) := by omega
      have u3 : (j : Int) < (body.size : Int) := by omega
      have u4 : j < body.size := by omega
      obtain ⟨cc, hcc⟩ : ∃ cc, by8 body j = cc := ⟨_, rfl⟩
      have hix : ∀ hh : j < body.size, (body[j]'hh).toNat = cc := fun hh => by rw [← hcc]; unfold by8; rw [bt_eq hh]
      have hDD : D = decide (cc ≠ 10) := by
        rw [← HD.out, hj, hcc]
        by_cases e : cc = 10 <;> simp [e, g0]
      have HDD := Lib.hid hDD
      clear hj hcc hDD g0
      by_cases e : cc = 10
      · have HE := Lib.hid e
        subst e
        go_wp2
        go_meet
        case rel => exact ⟨by rw [HDD.out]; rfl, by first | rfl | trivial⟩
      · have t1 : ((cc : Int) != 10) = true := by rw [bne, beq_eq_false_iff_ne.2 (by omega)]; rfl
        have t2 : ((cc : Int) == 10) = false := beq_eq_false_iff_ne.2 (by omega)
        have HE := Lib.hid e
        clear e
        go_wp2
        go_meet
        case rel => exact ⟨by rw [HDD.out, decide_eq_true HE.out], by first | rfl | trivial⟩
    · have u1 : ¬ (0 : Int) < (body.size : Int) := by omega
      have hDD : D = false := by rw [← HD.out]; exact decide_eq_false (fun h => g0 h.1)
      have HDD := Lib.hid hDD
      clear hDD g0
      go_wp2
      go_meet
      case rel => exact ⟨by rw [HDD.out], by first | rfl | trivial⟩
  case rest =>
    obtain ⟨hv, hw⟩ := hcut
    subst hv
    subst hw
    go_upto_if 45 with fail
    go_cut [1] from 46 to 47 (fun v1 wx => v1 = .string B ∧ wx = wc)
    case first =>
      cases D with
      | true =>
        have hBB : body ++ ⟨#[10]⟩ = B := by rw [HB.out, if_pos (of_decide_eq_true HD.out)]
        have z1 : ¬ (9223372036854775807 < body.size + 1) := by omega
        go_wp2
        go_meet
        case rel => exact ⟨by first | rfl | (rw [hBB]), by first | rfl | trivial⟩
      | false =>
        have hBB : body = B := by rw [HB.out, if_neg (of_decide_eq_false HD.out)]
        have HBB := Lib.hid hBB
        clear hBB
        go_wp2
        go_meet
        case rel => exact ⟨by rw [HBB.out], by first | rfl | trivial⟩
    case rest =>
      obtain ⟨hv, hw⟩ := hcut
      subst hv
      subst hw
      obtain ⟨⟨E0, bb⟩, hE0⟩ : ∃ q, dA B ⟨wd, tabs⟩ 0 = q := ⟨_, rfl⟩
      have HE0 := Lib.hid hE0
      rw [hE0] at HRH
      clear hE0
      cases bb with
      | true =>
        go_wp2_with fail
        refine (HRH.out _).mono ?_
        rintro e w3 ⟨rfl, hb3⟩
        unfold bitI
        go_wp2
        go_ret
        exact ⟨rfl, hb1.trans (hb3.mono hb1.size)⟩
      | false =>
        go_wp2_with fail
        refine (HRH.out _).mono ?_
        rintro e w3 ⟨rfl, hb3⟩
        have HBW := Lib.hid (hb1.trans (hb3.mono hb1.size))
        unfold bitI
        clear hb1 hb3
        cases tabs with
        | false =>
          obtain ⟨H0, hH0⟩ : ∃ X, (⟨#[99, 32, 60, 60]⟩ : ByteArray) ++ wd = X := ⟨_, rfl⟩
          obtain ⟨H, hH⟩ : ∃ X, H0 ++ (⟨#[10]⟩ : ByteArray) = X := ⟨_, rfl⟩
          obtain ⟨L, hL⟩ : ∃ X, wd ++ (⟨#[10]⟩ : ByteArray) = X := ⟨_, rfl⟩
          obtain ⟨T1, hT1⟩ : ∃ X, H ++ B = X := ⟨_, rfl⟩
          obtain ⟨T2, hT2⟩ : ∃ X, T1 ++ L = X := ⟨_, rfl⟩
          obtain ⟨T, hTt⟩ : ∃ X, T2 ++ rest = X := ⟨_, rfl⟩
          have zH0 : H0.size = 4 + wd.size := by rw [← hH0, ByteArray.size_append]; rfl
          have zH : H.size = 4 + wd.size + 1 := by rw [← hH, ByteArray.size_append, zH0]; rfl
          have zL : L.size = wd.size + 1 := by rw [← hL, ByteArray.size_append]; rfl
          have zT1 : T1.size = H.size + B.size := by rw [← hT1, ByteArray.size_append]
          have zT2 : T2.size = T1.size + L.size := by rw [← hT2, ByteArray.size_append]
          have zT : T.size = T2.size + rest.size := by rw [← hTt, ByteArray.size_append]
          have h6 := here_six (wd := wd) (B := B) (rest := rest) (tabs := false) HNM.out HBL.out (by rw [HE0.out]) (P := ⟨#[99, 32, 60, 60]⟩) (H := H) (L := L) (T := T) (o := 4) (k := 0) rfl rfl rfl rfl rfl rfl (fun h => by cases h) (by rw [← hH, ← hH0]) (by rw [← hL]; exact ⟨by omega, fun i hi => by rw [Nat.zero_add]⟩) (by rw [zL]; omega) (fun i hi => by omega) rfl (by rw [← hTt, ← hT2, ← hT1])
          have x1 : ¬ (9223372036854775807 < 4 + wd.size) := by omega
          have x2 : ¬ (9223372036854775807 < H0.size + 1) := by omega
          have x3 : ¬ (9223372036854775807 < wd.size + 1) := by omega
          have x4 : ¬ (9223372036854775807 < H.size + B.size) := by omega
          have x5 : ¬ (9223372036854775807 < T1.size + L.size) := by omega
          have x6 : ¬ (9223372036854775807 < T2.size + rest.size) := by omega
          have HLX := Lib.hid (fun W (hW : Below w.heap.size w W) => lex_any W T (by omega) (HTX.out.b hW))
          obtain ⟨e1, he1⟩ : ∃ e1, H.size + B.size = e1 := ⟨_, rfl⟩
          obtain ⟨E, hE⟩ : ∃ E, e1 + L.size = E := ⟨_, rfl⟩
          have r1 : IntKind.i64.wrap ((H.size : Int) + (B.size : Int)) = (e1 : Int) := by rw [IntWalk.i64_in _ (by omega)]; omega
          have r2 : IntKind.i64.wrap ((e1 : Int) + (L.size : Int)) = (E : Int) := by rw [IntWalk.i64_in _ (by omega)]; omega
          rw [he1, hE] at h6
          generalize lstX (TKs T) = X at HLX
          obtain ⟨M, hM⟩ : ∃ M, (TKs T).map Prod.fst = M := ⟨_, rfl⟩
          obtain ⟨N, hN⟩ : ∃ N, (TKs T).length = N := ⟨_, rfl⟩
          have hMN : N = M.length := by rw [← hM, List.length_map, hN]
          rw [hM] at h6
          rw [hM, hN] at HLX
          have hN6 : 6 ≤ N := by have := (List.getElem?_eq_some_iff.1 h6).1; omega
          have q6 : (6 : Int) ≤ (N : Int) := by omega
          have q5 : (5 : Int) < (N : Int) := by omega
          have HMN := Lib.hid hMN
          have H6 := Lib.hid h6
          have heql := eql_tk 7 (H.size : Int) (E : Int) false
          clear zH0 zH zL zT1 zT2 zT h6 he1 hE hM hN hMN
          go_wp2_with fail
          refine (HLX.out _ HBW.out).mono ?_
          rintro e w5 ⟨v, oa, n, c, rfl, ho, hMl, hb5⟩
          obtain ⟨ot, ct, rfl, hK⟩ := RdK.of_own HMN.out ho
          have hba := (Below.refl w5.heap.size w5).alloc (Nat.le_refl _) (.cells #[.int .i64 (X.await : Int), .slice oa n c, .bool X.body] 26)
          obtain ⟨g1, o1, rfl, g2, c0, c1, c2, c3⟩ := (hK.below hba).cells 5 _ H6.out
          have HB5 := Lib.hid ((HBW.out.trans (hb5.mono HBW.out.size)).trans (hba.mono (Nat.le_trans HBW.out.size hb5.size)))
          clear ho hMl hK hba hb5
          unfold aggL
          go_wp2
          go_ret
          exact ⟨by first | rfl | simp, HB5.out⟩
        | true =>
          obtain ⟨H00, hH00⟩ : ∃ X, (⟨#[99, 32, 60, 60]⟩ : ByteArray) ++ wd = X := ⟨_, rfl⟩
          obtain ⟨H01, hH01⟩ : ∃ X, H00 ++ (⟨#[10]⟩ : ByteArray) = X := ⟨_, rfl⟩
          obtain ⟨L0, hL0⟩ : ∃ X, wd ++ (⟨#[10]⟩ : ByteArray) = X := ⟨_, rfl⟩
          have zH00 : H00.size = 4 + wd.size := by rw [← hH00, ByteArray.size_append]; rfl
          have zL0 : L0.size = wd.size + 1 := by rw [← hL0, ByteArray.size_append]; rfl
          have y1 : ¬ (9223372036854775807 < 4 + wd.size) := by omega
          have y2 : ¬ (9223372036854775807 < H00.size + 1) := by omega
          have y3 : ¬ (9223372036854775807 < wd.size + 1) := by omega
          have y4 : ¬ (9223372036854775807 < 1 + L0.size) := by omega
          obtain ⟨H0, hH0⟩ : ∃ X, (⟨#[99, 32, 60, 60, 45]⟩ : ByteArray) ++ wd = X := ⟨_, rfl⟩
          obtain ⟨H, hH⟩ : ∃ X, H0 ++ (⟨#[10]⟩ : ByteArray) = X := ⟨_, rfl⟩
          obtain ⟨L, hL⟩ : ∃ X, (⟨#[9]⟩ : ByteArray) ++ L0 = X := ⟨_, rfl⟩
          obtain ⟨T1, hT1⟩ : ∃ X, H ++ B = X := ⟨_, rfl⟩
          obtain ⟨T2, hT2⟩ : ∃ X, T1 ++ L = X := ⟨_, rfl⟩
          obtain ⟨T, hTt⟩ : ∃ X, T2 ++ rest = X := ⟨_, rfl⟩
          have zH0 : H0.size = 5 + wd.size := by rw [← hH0, ByteArray.size_append]; rfl
          have zH : H.size = 5 + wd.size + 1 := by rw [← hH, ByteArray.size_append, zH0]; rfl
          have zL : L.size = wd.size + 2 := by rw [← hL, ByteArray.size_append, zL0]; show 1 + (wd.size + 1) = wd.size + 2; omega
          have zT1 : T1.size = H.size + B.size := by rw [← hT1, ByteArray.size_append]
          have zT2 : T2.size = T1.size + L.size := by rw [← hT2, ByteArray.size_append]
          have zT : T.size = T2.size + rest.size := by rw [← hTt, ByteArray.size_append]
          have h6 := here_six (wd := wd) (B := B) (rest := rest) (tabs := true) HNM.out HBL.out (by rw [HE0.out]) (P := ⟨#[99, 32, 60, 60, 45]⟩) (H := H) (L := L) (T := T) (o := 5) (k := 1) rfl rfl rfl rfl rfl rfl (fun _ => rfl) (by rw [← hH, ← hH0]) (by rw [← hL, hL0]; exact lies_mid ⟨#[9]⟩ L0) (by rw [zL]; omega) (fun i hi => by rw [show i = 0 by omega, ← hL, by8_apl (by decide)]; rfl) rfl (by rw [← hTt, ← hT2, ← hT1])
          have x1 : ¬ (9223372036854775807 < 5 + wd.size) := by omega
          have x2 : ¬ (9223372036854775807 < H0.size + 1) := by omega
          have x3 : ¬ (9223372036854775807 < wd.size + 1) := by omega
          have x4 : ¬ (9223372036854775807 < H.size + B.size) := by omega
          have x5 : ¬ (9223372036854775807 < T1.size + L.size) := by omega
          have x6 : ¬ (9223372036854775807 < T2.size + rest.size) := by omega
          have HLX := Lib.hid (fun W (hW : Below w.heap.size w W) => lex_any W T (by omega) (HTX.out.b hW))
          obtain ⟨e1, he1⟩ : ∃ e1, H.size + B.size = e1 := ⟨_, rfl⟩
          obtain ⟨E, hE⟩ : ∃ E, e1 + L.size = E := ⟨_, rfl⟩
          have r1 : IntKind.i64.wrap ((H.size : Int) + (B.size : Int)) = (e1 : Int) := by rw [IntWalk.i64_in _ (by omega)]; omega
          have r2 : IntKind.i64.wrap ((e1 : Int) + (L.size : Int)) = (E : Int) := by rw [IntWalk.i64_in _ (by omega)]; omega
          rw [he1, hE] at h6
          generalize lstX (TKs T) = X at HLX
          obtain ⟨M, hM⟩ : ∃ M, (TKs T).map Prod.fst = M := ⟨_, rfl⟩
          obtain ⟨N, hN⟩ : ∃ N, (TKs T).length = N := ⟨_, rfl⟩
          have hMN : N = M.length := by rw [← hM, List.length_map, hN]
          rw [hM] at h6
          rw [hM, hN] at HLX
          have hN6 : 6 ≤ N := by have := (List.getElem?_eq_some_iff.1 h6).1; omega
          have q6 : (6 : Int) ≤ (N : Int) := by omega
          have q5 : (5 : Int) < (N : Int) := by omega
          have HMN := Lib.hid hMN
          have H6 := Lib.hid h6
          have heql := eql_tk 7 (H.size : Int) (E : Int) false
          clear zH0 zH zL zT1 zT2 zT h6 he1 hE hM hN hMN zH00 zL0
          go_wp2_with fail
          refine (HLX.out _ HBW.out).mono ?_
          rintro e w5 ⟨v, oa, n, c, rfl, ho, hMl, hb5⟩
          obtain ⟨ot, ct, rfl, hK⟩ := RdK.of_own HMN.out ho
          have hba := (Below.refl w5.heap.size w5).alloc (Nat.le_refl _) (.cells #[.int .i64 (X.await : Int), .slice oa n c, .bool X.body] 26)
          obtain ⟨g1, o1, rfl, g2, c0, c1, c2, c3⟩ := (hK.below hba).cells 5 _ H6.out
          have HB5 := Lib.hid ((HBW.out.trans (hb5.mono HBW.out.size)).trans (hba.mono (Nat.le_trans HBW.out.size hb5.size)))
          clear ho hMl hK hba hb5
          unfold aggL
          go_wp2
          go_ret
          exact ⟨by first | rfl | simp, HB5.out⟩
set_option maxRecDepth 100000 in
set_option maxHeartbeats 4000000 in
theorem tokenHere_law (wd body rest : ByteArray) (tabs : Bool) (ha : wd.size ≤ 9223372036854775807) (hb : body.size ≤ 9223372036854775807) (hc : rest.size ≤ 9223372036854775807) :
    Calls Tryz.prog 9 #[.string wd, .string body, .string rest, .bool tabs] w fun e w' => e = .returned (.bool true) ∧ Below w.heap.size w w' := by
  have HAW := Lib.hid (awake9_any w hT)
  by_cases h1 : wd.size ≤ 20
  · have i1 : ¬ (20 : Int) < (wd.size : Int) := by omega
    by_cases h2 : body.size ≤ 100
    · have i2 : ¬ (100 : Int) < (body.size : Int) := by omega
      by_cases h3 : rest.size ≤ 60
      · have i3 : ¬ (60 : Int) < (rest.size : Int) := by omega
        cases hnm : isNm wd with
        | true => exact tokenHere_in w hT wd body rest tabs h1 h2 h3 hnm
        | false =>
          have hin := fun W => refisname_any wd W (by omega)
          rw [hnm] at hin
          have HIN := Lib.hid hin
          clear hT hin hnm
          go_enter Tryz.func9, Tryz.ntmps9
          go_wp2_with fail
          refine (HAW.out).mono ?_
          rintro e w1 ⟨rfl, hb1⟩
          go_wp2_with fail
          refine (HIN.out _).mono ?_
          rintro e w2 ⟨rfl, rfl⟩
          go_wp2
          go_ret
          exact ⟨rfl, hb1⟩
      · have i3 : (60 : Int) < (rest.size : Int) := by omega
        clear hT
        go_enter Tryz.func9, Tryz.ntmps9
        go_wp2_with fail
        refine (HAW.out).mono ?_
        rintro e w1 ⟨rfl, hb1⟩
        go_wp2
        go_ret
        exact ⟨rfl, hb1⟩
    · have i2 : (100 : Int) < (body.size : Int) := by omega
      clear hT
      go_enter Tryz.func9, Tryz.ntmps9
      go_wp2_with fail
      refine (HAW.out).mono ?_
      rintro e w1 ⟨rfl, hb1⟩
      go_wp2
      go_ret
      exact ⟨rfl, hb1⟩
  · have i1 : (20 : Int) < (wd.size : Int) := by omega
    clear hT
    go_enter Tryz.func9, Tryz.ntmps9
    go_wp2_with fail
    refine (HAW.out).mono ?_
    rintro e w1 ⟨rfl, hb1⟩
    go_wp2
    go_ret
    exact ⟨rfl, hb1⟩
end
end Go.Proofs.YtgfkbfojeohlkaaGreatDoor

/- What Leaves of the document's own layer 9 returns; the statement TokenLeaves' walk: the leaves of any text's tokens are as the document says. Condition: the program's table of operators lies as start-up lays it. -/
import Derived.Test.YtgfkbfojeohlkaaGreatDoorTkYk
import Derived.Test.YtgfkbfojeohlkaaGreatDoorQn
namespace Go.Proofs.YtgfkbfojeohlkaaGreatDoor
open Go.RowKit
set_option linter.unusedVariables false
set_option linter.unusedSectionVars false

theorem tksF_in (s : ByteArray) : ∀ (k a : Nat) (x : Lx), ∀ q ∈ tksF s k a x, q.1.frm < q.1.en ∧ q.1.en ≤ s.size
  | 0, a, x, q, h => by cases h
  | k + 1, a, x, q, h => by
    unfold tksF at h
    by_cases g : a < s.size
    · rw [if_pos g] at h
      have hok := tkN_ok x g
      rcases List.mem_cons.1 h with e | e
      · subst e
        show (tkN s a x).frm < (tkN s a x).en ∧ (tkN s a x).en ≤ s.size
        omega
      · exact tksF_in s k _ _ q e
    · rw [if_neg g] at h
      cases h
theorem tks_in {s : ByteArray} {t : Tk} (h : t ∈ (TKs s).map Prod.fst) : t.frm < t.en ∧ t.en ≤ s.size := by
  obtain ⟨q, h1, h2⟩ := List.mem_map.1 h
  subst h2
  exact tksF_in s _ _ _ q h1
def RvI (s : ByteArray) (l : List Tz) (w W0 : World) (v5 v6 : Value) (wr : World) : Prop :=
  ∃ i : Nat, i ≤ l.length ∧ v6 = .int .i64 (i : Int) ∧ wr.ownsRow W0.heap.size 43 4 v5 (lfs s (l.take i)).length (cellsLf (lfs s (l.take i))) ∧ Below W0.heap.size W0 wr
section
variable (w : World)
set_option maxRecDepth 100000 in
set_option maxHeartbeats 8000000 in
theorem rleaves_any (s : ByteArray) (hs : s.size ≤ 900) : Calls Tryz.prog 26 #[.string s] w fun e w' => ∃ v, e = .returned v ∧ w'.ownsRow w.heap.size 43 4 v (lfs s (((TKs s).map Prod.fst).map Tk.z)).length (cellsLf (lfs s (((TKs s).map Prod.fst).map Tk.z))) ∧ Below w.heap.size w w' := by
  have HRL := Lib.hid (fun W => reflex_any W s hs)
  have hlen := tksF_len s s.size 0 Lx.zero
  rw [show tksF s s.size 0 Lx.zero = TKs s from rfl] at hlen
  have HIN := Lib.hid (fun t => @tks_in s t)
  generalize lstX (TKs s) = X at *
  obtain ⟨L, hL⟩ : ∃ L, (TKs s).map Prod.fst = L := ⟨_, rfl⟩
  obtain ⟨N, hN⟩ : ∃ N, (TKs s).length = N := ⟨_, rfl⟩
  have hLN : N = L.length := by rw [← hL, List.length_map, hN]
  rw [hL, hN] at HRL
  rw [hL] at HIN ⊢
  rw [hN] at hlen
  have HLN := Lib.hid hLN
  clear hL hN hLN
  go_enter Tryz.func26, Tryz.ntmps26
  go_wp2_with fail
  refine (HRL.out _).mono ?_
  rintro e w2 ⟨v, oa, n, c, rfl, ho, hM, hb2⟩
  obtain ⟨ot, ct, rfl, hK⟩ := RdK.of_own HLN.out ho
  have hba := (Below.refl w2.heap.size w2).alloc (Nat.le_refl _) (.cells #[.int .i64 (X.await : Int), .slice oa n c, .bool X.body] 26)
  have HB2 := Lib.hid (hb2.alloc hb2.size (.cells #[.int .i64 (X.await : Int), .slice oa n c, .bool X.body] 26))
  have HK1 := Lib.hid (hK.below hba)
  unfold aggL
  clear ho hM hK hb2 hba
  go_wp2
  obtain ⟨W0, hW0⟩ : ∃ Z, w2.alloc (.cells #[.int .i64 (X.await : Int), .slice oa n c, .bool X.body] 26) = Z := ⟨_, rfl⟩
  rw [hW0] at HB2 HK1 ⊢
  clear hW0
  go_loopw [5, 6] (fun v5 v6 wr => RvI s (L.map Tk.z) w W0 v5 v6 wr) (fun _ v _ => N - (intOf v).toNat)
  case atStart => exact ⟨0, Nat.zero_le _, rfl, World.ownsRow_nil _ _ _ _, Below.refl _ _⟩
  case round =>
    obtain ⟨i, hi, rfl, hown, hBw⟩ := hrel
    rw [List.length_map] at hi
    obtain ⟨ov, cv, rfl⟩ := own_slice hown
    have HO := Lib.hid hown
    have HBW := Lib.hid hBw
    have hLl := lfs_len s ((L.map Tk.z).take i)
    rw [List.length_take, List.length_map] at hLl
    by_cases hlt : i < N
    · have q1 : (i : Int) < (N : Int) := by omega
      have q0 : (0 : Int) ≤ (i : Int) := by omega
      have hxa : L[i]? = some (L[i]'(by have := HLN.out; omega)) := List.getElem?_eq_getElem _
      generalize L[i]'(by have := HLN.out; omega) = x at hxa
      have hxz : (L.map Tk.z)[i]? = some x.z := by rw [List.getElem?_map, hxa]; rfl
      have hstep := lfs_take s hxz
      obtain ⟨hx1, hx2⟩ := HIN.out x (List.mem_of_getElem? hxa)
      obtain ⟨g1, o1, rfl, h1, b0, b1, b2, b3⟩ := HK1.out.cells i x hxa
      have hF : lfF s x.z = if lfK (x.kind : Int) = true then [⟨(x.kind : Int), s.extract x.frm x.en, (x.frm : Int), (x.en : Int)⟩] else [] := by
        have hin : inZ s x.z = true := by
          unfold inZ Tk.z
          simp only [Bool.and_eq_true, decide_eq_true_eq]
          omega
        unfold lfF txZ
        rw [hin]
        simp only [and_true, if_true]
        rfl
      rw [hF] at hstep
      obtain ⟨tk, tf, te, top⟩ := x
      dsimp only at *
      have hgB : ∀ W, Below W0.heap.size W0 W → W.cell? ⟨g1, o1 + i * 4, none⟩ = some (.int .i64 (tk : Int)) ∧ W.cell? ⟨g1, o1 + i * 4 + 1, none⟩ = some (.int .i64 (tf : Int)) ∧ W.cell? ⟨g1, o1 + i * 4 + 2, none⟩ = some (.int .i64 (te : Int)) := fun W hW => ⟨(hW.cell (p := ⟨g1, _, none⟩) h1).trans b0, (hW.cell (p := ⟨g1, _, none⟩) h1).trans b1, (hW.cell (p := ⟨g1, _, none⟩) h1).trans b2⟩
      have HGB := Lib.hid hgB
      have c0 := (hgB _ hBw).1
      clear hgB b0 b1 b2 b3
      obtain ⟨TX, hTX⟩ : ∃ TX, s.extract tf te = TX := ⟨_, rfl⟩
      obtain ⟨z, hz⟩ : ∃ z, (lfs s ((L.map Tk.z).take i)).length = z := ⟨_, rfl⟩
      rw [hz] at HO hLl ⊢
      have HZ := Lib.hid hz
      have HSTEP := Lib.hid hstep
      have hi6 : i + 1 ≤ (L.map Tk.z).length := by rw [List.length_map]; have := HLN.out; omega
      have HI6 := Lib.hid hi6
      have hol := own_lt HO.out
      have hog := own_ge HO.out
      have HOL := Lib.hid hol
      have HOG := Lib.hid hog
      have HTX := Lib.hid hTX
      obtain ⟨K, hK⟩ : ∃ K, lfK (tk : Int) = K := ⟨_, rfl⟩
      have HKK := Lib.hid hK
      clear hown hxa hxz hF hstep hi6 hz hol hog hTX hK HK1 HIN
      go_upto_region 7 with fail
      go_cut [37] from 24 to 37 (fun v wx => v = .bool K ∧ wx = wr)
      case first =>
        have hKe := HKK.out
        unfold lfK at hKe
        by_cases k2 : tk = 2
        · subst k2
          have HKE := Lib.hid hKe
          clear hKe
          go_wp2
          go_meet
          case rel => exact ⟨by rw [← HKE.out]; rfl, by first | rfl | trivial⟩
        have t2 : ((tk : Int) == 2) = false := beq_eq_false_iff_ne.2 (by omega)
        have d2 : decide ((tk : Int) = 2) = false := decide_eq_false (by omega)
        rw [d2] at hKe
        by_cases k4 : tk = 4
        · subst k4
          have HKE := Lib.hid hKe
          clear hKe d2
          go_wp2
          go_meet
          case rel => exact ⟨by rw [← HKE.out]; rfl, by first | rfl | trivial⟩
        have t4 : ((tk : Int) == 4) = false := beq_eq_false_iff_ne.2 (by omega)
        have d4 : decide ((tk : Int) = 4) = false := decide_eq_false (by omega)
        rw [d4] at hKe
        by_cases k5 : tk = 5
        · subst k5
          have HKE := Lib.hid hKe
          clear hKe d2 d4
          go_wp2
          go_meet
          case rel => exact ⟨by rw [← HKE.out]; rfl, by first | rfl | trivial⟩
        have t5 : ((tk : Int) == 5) = false := beq_eq_false_iff_ne.2 (by omega)
        have d5 : decide ((tk : Int) = 5) = false := decide_eq_false (by omega)
        rw [d5] at hKe
        by_cases k6 : tk = 6
        · subst k6
          have HKE := Lib.hid hKe
          clear hKe d2 d4 d5
          go_wp2
          go_meet
          case rel => exact ⟨by rw [← HKE.out]; rfl, by first | rfl | trivial⟩
        have t6 : ((tk : Int) == 6) = false := beq_eq_false_iff_ne.2 (by omega)
        have d6 : decide ((tk : Int) = 6) = false := decide_eq_false (by omega)
        rw [d6] at hKe
        have HKE := Lib.hid hKe
        clear hKe d2 d4 d5 d6 k2 k4 k5 k6
        go_wp2
        go_meet
        case rel => exact ⟨by rw [← HKE.out]; rfl, by first | rfl | trivial⟩
      case rest =>
        obtain ⟨hv, hw⟩ := hcut
        subst hv
        subst hw
        cases K with
        | false =>
          have hs2 : wc.ownsRow W0.heap.size 43 4 (.slice ov z cv) (lfs s ((L.map Tk.z).take (i + 1))).length (cellsLf (lfs s ((L.map Tk.z).take (i + 1)))) := by
            rw [HSTEP.out, if_neg (by rw [HKK.out]; simp), List.append_nil, HZ.out]
            exact HO.out
          have HS2 := Lib.hid hs2
          clear hs2
          go_wp2
          go_roundw
          case rel => exact ⟨i + 1, HI6.out, by go_num, HS2.out, HBW.out⟩
          case measure => simp [intOf]; omega
        | true =>
          have r0 : (0 : Int) ≤ (tf : Int) := by omega
          have r1 : (tf : Int) ≤ (te : Int) := by omega
          have r2 : (te : Int) ≤ (s.size : Int) := by omega
          have e0 : wc.drew.cell? ⟨g1, o1 + i * 4 + 1, none⟩ = some (.int .i64 (tf : Int)) ∧ wc.drew.cell? ⟨g1, o1 + i * 4 + 2, none⟩ = some (.int .i64 (te : Int)) := (HGB.out _ HBW.out.drew).2
          have ea : ∀ o, ((wc.alloc o).drew).cell? ⟨g1, o1 + i * 4 + 1, none⟩ = some (.int .i64 (tf : Int)) ∧ ((wc.alloc o).drew).cell? ⟨g1, o1 + i * 4 + 2, none⟩ = some (.int .i64 (te : Int)) := fun o => (HGB.out _ ((HBW.out.alloc HBW.out.size o).drew)).2
          clear c0
          go_upto_region 8 with fail
          go_region_held_law (fun w' => w'.cell? ⟨g1, o1 + i * 4 + 1, none⟩ = some (.int .i64 (tf : Int)) ∧ w'.cell? ⟨g1, o1 + i * 4 + 2, none⟩ = some (.int .i64 (te : Int))) (first | exact e0 | exact ea _ | exact s9) (first
            | (refine step_app_gen (by rfl) _ _ 39 43 4 40 _ (by rfl) Tryz.underlying39 infoLf rfl (by omega) (by omega) W0.heap.size (.slice ov z cv) z (cellsLf (lfs s ((L.map Tk.z).take i))) (by rfl) (own_drew (own_alloc HO.out _)) _ 1 (cellLf ⟨(tk : Int), s.extract tf te, (tf : Int), (te : Int)⟩) (by rfl) (src_f (x := ⟨(tk : Int), s.extract tf te, (tf : Int), (te : Int)⟩) ((Blk.new wc _ _).drew)) rfl (cellLf_one _) (by omega) (by show W0.heap.size ≤ (wc.alloc _).heap.size; rw [World.size_alloc]; have := HBW.out.size; omega) (z + 1) rfl ?_; intro oa9 c9 w9 hown9 hgr9 hg9; have hb9 : Below W0.heap.size W0 w9 := ((HBW.out.alloc HBW.out.size _).drew).grown hgr9 (by show W0.heap.size ≤ (wc.alloc _).heap.size; rw [World.size_alloc]; have := HBW.out.size; omega) (fun k hk => HOG.out k hk); have s9 := (HGB.out _ hb9).2))
          all_goals
            have hown : w9.ownsRow W0.heap.size 43 4 (.slice oa9 (z + 1) c9) (lfs s ((L.map Tk.z).take (i + 1))).length (cellsLf (lfs s ((L.map Tk.z).take (i + 1)))) := by
              rw [HSTEP.out, if_pos HKK.out, cellsLf_append, List.length_append, HZ.out]
              simpa [cellsLf] using hown9
            have HOWN := Lib.hid hown
            have HB39 := Lib.hid hb9
            clear hown hb9 s9 hgr9 hown9 e0 ea
            go_wp2
            go_roundw
            case rel => exact ⟨i + 1, HI6.out, by go_num, HOWN.out, HB39.out⟩
            case measure => simp [intOf]; omega
    · have q1 : ¬ (i : Int) < (N : Int) := by omega
      have hin : i = (L.map Tk.z).length := by rw [List.length_map]; have := HLN.out; omega
      have he : (L.map Tk.z).take i = L.map Tk.z := by rw [hin, List.take_length]
      rw [he] at hown ⊢
      have HO2 := Lib.hid hown
      clear hown HO hLl hin he
      go_wp2
      go_ret
      exact ⟨_, rfl, own_lower HO2.out HB2.out.size, HB2.out.trans (HBW.out.mono HB2.out.size)⟩
end
def LfRl (W : World) (n : Nat) (v : Value) (wr : World) : Prop := ∃ i : Nat, i ≤ n ∧ v = .int .i64 (i : Int) ∧ Below W.heap.size W wr
section
variable (w : World) (hT : Tx w)
include hT
set_option maxRecDepth 100000 in
set_option maxHeartbeats 8000000 in
theorem tokenLeaves_law (s : ByteArray) (hz : s.size ≤ 9223372036854775807) :
    Calls Tryz.prog 7 #[.string s] w fun e w' => e = .returned (.bool true) ∧ Below w.heap.size w w' := by
  have HAW := Lib.hid (awake9_any w hT)
  by_cases hs : s.size ≤ 150
  · have hi : ¬ (150 : Int) < (s.size : Int) := by omega
    have HLX := Lib.hid (fun W (hW : Below w.heap.size w W) => lex_any W s (by omega) (hT.b hW))
    have HRL := Lib.hid (fun W => rleaves_any W s (by omega))
    have hlen := tksF_len s s.size 0 Lx.zero
    rw [show tksF s s.size 0 Lx.zero = TKs s from rfl] at hlen
    generalize lstX (TKs s) = X at *
    obtain ⟨L, hL⟩ : ∃ L, (TKs s).map Prod.fst = L := ⟨_, rfl⟩
    obtain ⟨N, hN⟩ : ∃ N, (TKs s).length = N := ⟨_, rfl⟩
    have hLN : N = L.length := by rw [← hL, List.length_map, hN]
    rw [hL, hN] at HLX
    rw [hL] at HRL
    rw [hN] at hlen
    have HTL := Lib.hid (fun W oa c (h : RdZ W oa N (L.map Tk.z)) => tleaves_any W s (L.map Tk.z) oa N c h (by omega) (by omega))
    have HLN := Lib.hid hLN
    have hF1 := lfs_len s (L.map Tk.z)
    rw [List.length_map] at hF1
    generalize lfs s (L.map Tk.z) = F at *
    obtain ⟨M, hM0⟩ : ∃ M, F.length = M := ⟨_, rfl⟩
    rw [hM0] at HTL HRL hF1
    have HM0 := Lib.hid hM0
    have hM1 : M ≤ 1000000 := by omega
    clear hT hL hN hLN hM0 hF1
    go_enter Tryz.func7, Tryz.ntmps7
    go_wp2_with fail
    refine (HAW.out).mono ?_
    rintro e w1 ⟨rfl, hb1⟩
    go_wp2_with fail
    refine (HLX.out _ hb1).mono ?_
    rintro e w2 ⟨v, oa, n, c, rfl, ho, hMl, hb2⟩
    obtain ⟨ot, ct, rfl, hK⟩ := RdK.of_own HLN.out ho
    have hba := (Below.refl w2.heap.size w2).alloc (Nat.le_refl _) (.cells #[.int .i64 (X.await : Int), .slice oa n c, .bool X.body] 26)
    have hK1 := (hK.below hba).z
    have HB2 := Lib.hid ((hb1.trans (hb2.mono hb1.size)).alloc (Nat.le_trans hb1.size hb2.size) (.cells #[.int .i64 (X.await : Int), .slice oa n c, .bool X.body] 26))
    have HK1 := Lib.hid hK1
    unfold aggL
    clear ho hMl hK hba hb2 hb1 hK1
    go_wp2_with fail
    refine (HTL.out _ ot ct HK1.out).mono ?_
    rintro e w3 ⟨v3, rfl, ho3, hb3⟩
    obtain ⟨o5, c5, rfl, hR5⟩ := RdF.of_own HM0.out.symm ho3
    have HR5 := Lib.hid hR5
    have HB3 := Lib.hid (HB2.out.trans (hb3.mono HB2.out.size))
    clear ho3 hb3 hR5 HK1
    go_wp2_with fail
    refine (HRL.out _).mono ?_
    rintro e w4 ⟨v4, rfl, ho4, hb4⟩
    obtain ⟨o6, c6, rfl, hR6⟩ := RdF.of_own HM0.out.symm ho4
    have HR6 := Lib.hid hR6
    have HR5' := Lib.hid (HR5.out.below hb4)
    have HB4 := Lib.hid (HB3.out.trans (hb4.mono HB3.out.size))
    clear ho4 hb4 hR6 HR5 HB3
    go_wp2
    go_loopw [7] (fun v wr => LfRl w4 M v wr) (fun v _ => M - (intOf v).toNat)
    case atStart => exact ⟨0, Nat.zero_le _, rfl, Below.refl _ _⟩
    case round =>
      obtain ⟨i, hi, rfl, hbl⟩ := hrel
      have HBL := Lib.hid hbl
      by_cases hlt : i < M
      · have q1 : (i : Int) < (M : Int) := by omega
        have q0 : (0 : Int) ≤ (i : Int) := by omega
        have hxa : F[i]? = some (F[i]'(by have := HM0.out; omega)) := List.getElem?_eq_getElem _
        generalize F[i]'(by have := HM0.out; omega) = x at hxa
        obtain ⟨g1, o1, rfl, h1, c0, c1, c2, c3⟩ := (HR5'.out.below hbl).cells i x hxa
        obtain ⟨g2, o2, rfl, h2, d0, d1, d2, d3⟩ := (HR6.out.below hbl).cells i x hxa
        obtain ⟨tk, tx, tf, te⟩ := x
        have hneq := neq_lf_same tk tf te tx
        dsimp only at c0 c1 c2 c3 d0 d1 d2 d3
        clear hxa hbl
        go_wp2
        go_quiet (fail)
        go_wp2
        go_roundw
        case rel => exact ⟨i + 1, by omega, by go_num, below_drewN HBL.out _⟩
        case measure => simp [intOf]; omega
      · have q1 : ¬ (i : Int) < (M : Int) := by omega
        clear hlt hbl
        go_wp2
        go_ret
        exact ⟨rfl, HB4.out.trans (HBL.out.mono HB4.out.size)⟩
  · have hi : (150 : Int) < (s.size : Int) := by omega
    clear hT
    go_enter Tryz.func7, Tryz.ntmps7
    go_wp2_with fail
    refine (HAW.out).mono ?_
    rintro e w1 ⟨rfl, hb1⟩
    go_wp2
    go_ret
    exact ⟨rfl, hb1⟩
end
end Go.Proofs.YtgfkbfojeohlkaaGreatDoor

/- What the document's own Form of layer 11 (tree) returns. Condition: texts of at most 100,000 bytes. -/
import Derived.Test.YtppipngdakfbpaaTrN
import Derived.Test.YtppipngdakfbpaaTrV
namespace Go.Proofs.Ytppipngdakfbpaa
open Go.RowKit
set_option linter.unusedVariables false

/-- What Form leaves. -/
def FormR (s : ByteArray) (w : World) (e : Ending) (w' : World) : Prop :=
  (∃ p : Nat, Fm s true 0 (-1) [] ([], (p : Int)) ∧ e = .returned (.tuple #[.slice none 0 0, .int .i64 (p : Int)]) ∧ Below w.heap.size w w') ∨
  (∃ (L : List Nd) (oa : Option Addr) (oc : Nat), Fm s true 0 (-1) [] (L, -1) ∧ L ≠ [] ∧ L.length ≤ 100000 ∧ e = .returned (.tuple #[.slice oa L.length oc, .int .i64 (-1)]) ∧ w'.ownsRow w.heap.size 30 4 (.slice oa L.length oc) L.length (cellsN L) ∧ Below w.heap.size w w')
def FoRl (s : ByteArray) (w : World) (v4 v5 v6 : Value) (wr : World) : Prop :=
  ∃ (a : Nat) (up : Int) (L : List Nd) (oa : Option Addr) (oc : Nat), v4 = .slice oa L.length oc ∧ v5 = .int .i64 up ∧ v6 = .int .i64 (a : Int) ∧ a ≤ s.size ∧ -1 ≤ up ∧ up < (L.length : Int) ∧ L.length * 4 ≤ a ∧ (∀ (i : Nat) (y : Nd), L[i]? = some y → -1 ≤ y.u ∧ y.u < (i : Int)) ∧ (∀ Q, Fm s true a up L Q → Fm s true 0 (-1) [] Q) ∧
    wr.ownsRow w.heap.size 30 4 (.slice oa L.length oc) L.length (cellsN L) ∧ Below w.heap.size w wr
def FoRl2 (s : ByteArray) (a0 : Nat) (L : List Nd) (wx : World) (v5 v6 : Value) (wr : World) : Prop :=
  wr = wx ∧ ∃ (a : Nat) (up : Int), v5 = .int .i64 up ∧ v6 = .int .i64 (a : Int) ∧ a0 < a ∧ a ≤ s.size ∧ -1 ≤ up ∧ up < (L.length : Int) ∧ L.length * 4 ≤ a ∧ (∀ Q, Fm s false a up L Q → Fm s true 0 (-1) [] Q)
section
variable (w : World)
set_option maxRecDepth 100000 in
set_option maxHeartbeats 8000000 in
theorem form_any (s : ByteArray) (hs : s.size ≤ 100000) :
    Calls Try.prog 24 #[.string s] w fun e w' => FormR s w e w' := by
  go_enter Try.func24, Try.ntmps24
  go_wp2
  go_loopw [4, 5, 6] (fun v4 v5 v6 wr => FoRl s w v4 v5 v6 wr) (fun _ _ v6 _ => s.size + 1 - (intOf v6).toNat)
  case atStart => exact ⟨0, -1, [], none, 0, rfl, rfl, rfl, Nat.zero_le _, by omega, by simp, by simp, fun i y h => by simp at h, fun Q h => h, World.ownsRow_nil _ _ _ _, Below.refl _ _⟩
  case round =>
    obtain ⟨a, up, L, oa, oc, rfl, rfl, rfl, ha, hu1, hu2, hLa, hLu, hQ, hO, hB⟩ := hrel
    have HQ := Lib.hid hQ
    have HB := Lib.hid hB
    have HO := Lib.hid hO
    have HLU := Lib.hid hLu
    have HB2 := Lib.hid (And.intro hu1 (And.intro hu2 hLa))
    have hk := letK_facts _ (bt_256 s a)
    obtain ⟨n, hn⟩ : ∃ n, L.length = n := ⟨_, rfl⟩
    rw [hn] at HO ⊢
    have HN := Lib.hid hn
    have hnn : n ≤ 100000 := by omega
    clear hQ hO hB hLu hu1 hu2 hLa hn
    by_cases hlt : a < s.size
    · have t1 : ¬ (s.size : Int) ≤ (a : Int) := by omega
      have t1' : (a : Int) < (s.size : Int) := by omega
      rw [bt_eq hlt] at hk
      obtain ⟨hK18, hix, hz, hat, hbef⟩ := hk
      have hBT := bt_eq hlt
      have HBT := Lib.hid hBT
      have HIN := Lib.hid (in_any s[a].toNat letL wr (by decide))
      unfold letL at HIN
      by_cases h63 : s[a].toNat = 63
      · have t2 : ((s[a].toNat : Int) == 63) = true := by simp; omega
        have hfm := HQ.out _ (.bad (p := a) (.inl ⟨by rw [hBT]; have := hz; rw [h63] at this ⊢; revert this; decide, rfl⟩))
        have HFM := Lib.hid hfm
        clear hfm hz hix hat hbef h63
        go_wp2
        go_ret2
        exact .inl ⟨a, HFM.out, rfl, HB.out⟩
      · have t2 : ((s[a].toNat : Int) == 63) = false := by simp; omega
        by_cases hK0 : letK s[a].toNat = 0
        · have hin : inB s[a].toNat letL = false := by
            rw [hK0] at hz
            simp at hz
            rcases hz with h | h
            · exact absurd h h63
            · exact h
          unfold letL at hin
          have hfm := HQ.out _ (.bad (p := a) (.inl ⟨by rw [hBT]; exact hK0, rfl⟩))
          have HFM := Lib.hid hfm
          have HI := Lib.hid hin
          clear hfm hz hix hat hbef h63 hin hK0
          go_wp2_with fail
          refine HIN.out.mono ?_
          rintro e w2 ⟨rfl, rfl⟩
          rw [HI.out]
          go_wp2
          go_ret2
          exact .inl ⟨a, HFM.out, rfl, HB.out⟩
        · have hin : inB s[a].toNat letL = true := by
            rcases h : inB s[a].toNat letL with _ | _
            · rw [h] at hz; simp [hK0] at hz
            · rfl
          unfold letL at hin
          have HI := Lib.hid hin
          have hatK := hat hK0
          obtain ⟨K, hK⟩ : ∃ K, letK s[a].toNat = K := ⟨_, rfl⟩
          rw [hK] at hatK hbef hK18 hK0
          have HKK := Lib.hid hK
          have HATK := Lib.hid hatK
          have HBEF := Lib.hid hbef
          clear hz hix hat hbef h63 hin hatK hK
          go_wp2_with fail
          refine HIN.out.mono ?_
          rintro e w2 ⟨rfl, rfl⟩
          rw [HI.out]
          go_wp2
          go_loopw [7] (fun v7 wx => (wx.ownsRow w.heap.size 30 4 (.slice oa n oc) n (cellsN L) ∧ Below w.heap.size w wx) ∧ ∃ j : Nat, v7 = .int .i64 (j : Int) ∧ j ≤ K) (fun v7 _ => K - (intOf v7).toNat)
          case atStart => exact ⟨⟨HO.out, HB.out⟩, 0, rfl, Nat.zero_le _⟩
          case round =>
            obtain ⟨⟨hO, hB⟩, j, rfl, hj⟩ := hrel
            clear HO HB HIN
            have HO := Lib.hid hO
            have HB := Lib.hid hB
            clear hO hB
            have hTL : (⟨#[63, 80, 76, 65, 73, 83, 88, 87, 82, 66, 85, 70, 72, 79, 67, 84, 78, 69, 77]⟩ : ByteArray) = letL := rfl
            have hsz : letL.size = 19 := by decide
            rw [hTL]
            have HSZ := Lib.hid hsz
            clear hTL hsz
            have hjl : j < letL.size := by have := HSZ.out; omega
            have j1 : (j : Int) < (letL.size : Int) := by omega
            have j0 : (0 : Int) ≤ (j : Int) := by omega
            by_cases hjK : j = K
            · subst hjK
              have t3 : ((letL[j].toNat : Int) != (s[a].toNat : Int)) = false := by
                have h := HATK.out
                rw [bt_eq hjl] at h
                rw [h]; simp
              obtain ⟨m, hm⟩ : ∃ m, a + 1 + nlen s (a + 1) = m := ⟨_, rfl⟩
              obtain ⟨x1, hx1⟩ : ∃ x1, nval s (a + 1) (nlen s (a + 1)) = x1 := ⟨_, rfl⟩
              have HQ1 : Hid (∀ W, Calls Try.prog 34 #[.string s, .int .i64 ((a : Int) + 1)] W fun e w' => e = .returned (.tuple #[.int .i64 (x1 : Int), .int .i64 (m : Int)]) ∧ w' = W) := Lib.hid (fun W => by
                have h := refnumber_any W s (a + 1) hs (by omega)
                rw [hx1, hm, show ((a + 1 : Nat) : Int) = (a : Int) + 1 from by omega] at h
                exact h)
              have hms : m ≤ s.size := by
                rcases Nat.eq_zero_or_pos (nlen s (a + 1)) with g | g
                · omega
                · have := nlen_size s (a + 1) (by omega); omega
              have HM := Lib.hid hm
              have HX1 := Lib.hid hx1
              have HL0 : Hid (letK (bt s a).toNat ≠ 0) := Lib.hid (by rw [HBT.out, HKK.out]; exact hK0)
              have hma : a + 1 ≤ m := by omega
              clear hm hx1
              go_wp2
              go_quiet (fail)
              obtain ⟨V, hV⟩ : ∃ V, V = wr.drewN nq := ⟨_, rfl⟩
              have HOV : Hid (V.ownsRow w.heap.size 30 4 (.slice oa n oc) n (cellsN L)) := Lib.hid (by rw [hV]; exact own_below HO.out (belN (Below.refl _ _) _))
              have HBV : Hid (Below w.heap.size w V) := Lib.hid (by rw [hV]; exact belN HB.out _)
              rw [← hV]
              clear hV t3
              go_wp2_with fail
              refine (HQ1.out _).mono ?_
              rintro e w3 ⟨rfl, rfl⟩
              by_cases hn1 : nlen s (a + 1) = 0
              · have t4 : ((m : Int) == (a : Int) + 1) = true := by have := HM.out; simp; omega
                have hfm := HQ.out _ (.bad (p := m) (.inr (.inl ⟨HL0.out, .inl hn1, HM.out.symm⟩)))
                have HFM := Lib.hid hfm
                clear hfm hn1
                go_wp2
                go_ret2
                exact .inl ⟨m, HFM.out, rfl, HBV.out⟩
              · have t4 : ((m : Int) == (a : Int) + 1) = false := by have := HM.out; simp; omega
                have HN1 := Lib.hid hn1
                clear hn1
                by_cases hml : m < s.size
                · have t5 : ¬ (s.size : Int) ≤ (m : Int) := by omega
                  have t5' : (m : Int) < (s.size : Int) := by omega
                  by_cases h45 : (bt s m).toNat = 45
                  · have t6 : ((s[m].toNat : Int) != 45) = false := by have h := h45; rw [bt_eq hml] at h; simp; omega
                    obtain ⟨q, hq⟩ : ∃ q, m + 1 + nlen s (m + 1) = q := ⟨_, rfl⟩
                    obtain ⟨x2, hx2⟩ : ∃ x2, nval s (m + 1) (nlen s (m + 1)) = x2 := ⟨_, rfl⟩
                    have HQ2 : Hid (∀ W, Calls Try.prog 34 #[.string s, .int .i64 ((m : Int) + 1)] W fun e w' => e = .returned (.tuple #[.int .i64 (x2 : Int), .int .i64 (q : Int)]) ∧ w' = W) := Lib.hid (fun W => by
                      have h := refnumber_any W s (m + 1) hs (by omega)
                      rw [hx2, hq, show ((m + 1 : Nat) : Int) = (m : Int) + 1 from by omega] at h
                      exact h)
                    have HQQ := Lib.hid hq
                    have HX2 := Lib.hid hx2
                    have H45 := Lib.hid h45
                    have hmq : m + 1 ≤ q := by omega
                    have hqs : q ≤ s.size := by
                      rcases Nat.eq_zero_or_pos (nlen s (m + 1)) with g | g
                      · omega
                      · have := nlen_size s (m + 1) (by omega); omega
                    clear hq hx2 h45
                    go_wp2_with fail
                    refine (HQ2.out _).mono ?_
                    rintro e w4 ⟨rfl, rfl⟩
                    by_cases hn2 : nlen s (m + 1) = 0
                    · have t7 : ((q : Int) == (m : Int) + 1) = true := by have := HQQ.out; simp; omega
                      have hfm := HQ.out _ (.bad (p := q) (.inr (.inr ⟨HL0.out, HN1.out, by rw [HM.out]; exact H45.out, by rw [HM.out]; exact hn2, by have := HQQ.out; have := HM.out; omega⟩)))
                      have HFM := Lib.hid hfm
                      clear hfm hn2
                      go_wp2
                      go_ret2
                      exact .inl ⟨q, HFM.out, rfl, HBV.out⟩
                    · have t7 : ((q : Int) == (m : Int) + 1) = false := by have := HQQ.out; simp; omega
                      have hok : NdOk s a up ⟨(j : Int), (x1 : Int), (x2 : Int), up⟩ q := ⟨HL0.out, HN1.out, by rw [HM.out]; exact H45.out, by rw [HM.out]; exact hn2, by rw [HM.out]; exact HQQ.out.symm, by rw [HBT.out, HKK.out, HX1.out, HM.out, HX2.out]⟩
                      have hql := hok.lt
                      have HOK := Lib.hid hok
                      obtain ⟨L', hL'⟩ : ∃ L', L ++ [(⟨(j : Int), (x1 : Int), (x2 : Int), up⟩ : Nd)] = L' := ⟨_, rfl⟩
                      have hl' : L'.length = n + 1 := by rw [← hL', List.length_append, HN.out]; rfl
                      have hcL : cellsN L ++ cellN ⟨(j : Int), (x1 : Int), (x2 : Int), up⟩ = cellsN L' := by rw [← hL', cellsN_append]; simp [cellsN]
                      have hLu' : ∀ (i : Nat) (y : Nd), L'[i]? = some y → -1 ≤ y.u ∧ y.u < (i : Int) := fun i y hy => by
                        rw [← hL', List.getElem?_append] at hy
                        split at hy
                        · exact HLU.out i y hy
                        · rename_i hge
                          have h1 := HB2.out
                          rcases Nat.lt_or_ge (i - L.length) 1 with g | g
                          · rw [show i - L.length = 0 from by omega] at hy
                            simp at hy
                            subst hy
                            simp only
                            omega
                          · rw [List.getElem?_eq_none (by simpa using g)] at hy; cases hy
                      have HL' := Lib.hid hL'
                      have Hl' := Lib.hid hl'
                      have HCL := Lib.hid hcL
                      have HLU' := Lib.hid hLu'
                      have hn4 : (n + 1) * 4 ≤ q := by have := HB2.out; have := HN.out; omega
                      have hz4 := HBV.out.size
                      clear hok hn2 hL' hl' hcL hLu'
                      go_wp2_with (at_builtin; refine wpl_app_gen (by rfl) _ _ 22 30 4 32 _ (by rfl) Try.underlying22 infoN rfl (by omega) (by omega) w.heap.size (.slice oa n oc) n (cellsN L) (by rfl) (own_below HOV.out ((Below.refl _ _).alloc (Nat.le_refl _) _)) _ 1 (cellN ⟨(j : Int), (x1 : Int), (x2 : Int), up⟩) (by rfl) (src_nd (x := ⟨(j : Int), (x1 : Int), (x2 : Int), up⟩) (Blk.new _ _ _)) rfl (fun u hu => by simp [cellN] at hu; rcases hu with rfl | rfl | rfl | rfl <;> rfl) (by omega) (by rw [World.size_alloc]; omega) (n + 1) rfl ?_; intro og c' w9 hown hgr hg9; refine Hid.out ?_)
                      refine Lib.hid ?_
                      have hzw : Below w.heap.size w w9 := (HBV.out.alloc hz4 _).grown hgr (by rw [World.size_alloc]; omega) (own_ge HOV.out)
                      rw [HCL.out] at hown
                      have HO9 := Lib.hid hown
                      have HB9 := Lib.hid hzw
                      have hcells : ∀ u : Nat, u < n + 1 → ∃ (y : Nd) (bb : Nat) (off : Nat), L'[u]? = some y ∧ og = some ⟨bb, off, none⟩ ∧ w9.cell? ⟨bb, off + u * 4 + 3, none⟩ = some (.int .i64 y.u) := fun u hu => by
                        obtain ⟨bb, off, h1, _, _, _, _, h5⟩ := (owns_nrow hown).2 u hu
                        have hy : L'[u]? = some (L'[u]'(by have := Hl'.out; omega)) := List.getElem?_eq_getElem _
                        rw [nl_at hy] at h5
                        exact ⟨_, bb, off, hy, h1, h5⟩
                      have HCE := Lib.hid hcells
                      have hn9 : (n : Int) + 1 ≤ 100001 := by omega
                      clear hown hzw hcells hgr hg9
                      by_cases h40 : (bt s q).toNat = 40
                      · have hqs2 : q < s.size := bt_lt (by omega)
                        have u1 : (q : Int) < (s.size : Int) := by omega
                        have u2' : ((s[q].toNat : Int) == 40) = true := by have h := h40; rw [bt_eq hqs2] at h; simp; omega
                        have H40 := Lib.hid h40
                        clear h40
                        go_wp2
                        go_roundw
                        case rel =>
                          refine ⟨q + 1, (n : Int), L', og, c', ?_, by go_num, by go_num, by omega, by omega, by rw [Hl'.out]; omega, by rw [Hl'.out]; omega, HLU'.out, fun Q h => HQ.out Q (.opn HOK.out H40.out ?_), ?_, HB9.out⟩
                          · rw [Hl'.out]
                          · rw [HL'.out, HN.out]; exact h
                          · rw [Hl'.out]; exact HO9.out
                        case measure => simp [intOf]; omega
                      · have HQ2' : Hid (∀ Q, Fm s false q up L' Q → Fm s true 0 (-1) [] Q) := Lib.hid (fun Q h => HQ.out Q (.sht HOK.out h40 (by rw [HL'.out]; exact h)))
                        have HQA := Lib.hid (And.intro hql (And.intro hn4 hqs))
                        have hst : Hid ((s.size ≤ q) ∨ ∃ h : q < s.size, ((s[q].toNat : Int) == 40) = false) := Lib.hid (by
                          rcases Nat.lt_or_ge q s.size with g | g
                          · exact .inr ⟨g, by have h := h40; rw [bt_eq g] at h; simp; omega⟩
                          · exact .inl g)
                        clear h40
                        rcases hst.out with hge | ⟨hqs2, u2'⟩
                        · obtain rfl : q = s.size := by omega
                          go_wp2
                          go_loopw [5, 6] (fun v5 v6 wx => FoRl2 s a L' w9 v5 v6 wx) (fun _ v6 _ => s.size - (intOf v6).toNat)
                          case atStart => exact ⟨rfl, s.size, up, rfl, rfl, by omega, by omega, HB2.out.1, by rw [Hl'.out]; have h1 := HB2.out; have h2 := HN.out; omega, by rw [Hl'.out]; omega, HQ2'.out⟩
                          case round =>
                            obtain ⟨hwx, b, ub, rfl, rfl, hab, hb1, hv1, hv2, hLb, hQb⟩ := hrel
                            obtain rfl : w9 = wr := hwx.symm
                            rw [Hl'.out] at hv2 hLb
                            have HQB := Lib.hid hQb
                            have HUB := Lib.hid (And.intro hv1 (And.intro hv2 hLb))
                            clear hwx hQb
                            rcases Nat.lt_or_ge b s.size with hbl | hbge
                            · have b1 : (b : Int) < (s.size : Int) := by omega
                              have b2 : ((b : Int) == (s.size : Int)) = false := by simp; omega
                              by_cases h41 : (bt s b).toNat = 41
                              · have e1 : ((s[b].toNat : Int) == 41) = true := by have h := h41; rw [bt_eq hbl] at h; simp; omega
                                have e2 : ((s[b].toNat : Int) != 32) = true := by have h := h41; rw [bt_eq hbl] at h; simp; omega
                                by_cases hub : ub < 0
                                · have b3 : ¬ (0 : Int) ≤ ub := by omega
                                  have HFM := Lib.hid (HQB.out _ (.ovr hub (by omega)))
                                  clear h41 hub hv1 hv2
                                  go_wp2
                                  go_ret2
                                  exact .inl ⟨b, HFM.out, rfl, HB9.out⟩
                                · obtain ⟨u, rfl⟩ : ∃ u : Nat, ub = (u : Int) := ⟨ub.toNat, by omega⟩
                                  have b3 : (0 : Int) ≤ (u : Int) := by omega
                                  obtain ⟨y, bb, off, hy, rfl, c3⟩ := HCE.out u (by omega)
                                  have b4 : (u : Int) < (n : Int) + 1 := by omega
                                  have hyu := HLU'.out u y hy
                                  have hfm : ∀ Q, Fm s false (b + 1) y.u L' Q → Fm s true 0 (-1) [] Q := fun Q h => HQB.out Q (.pop h41 hy h)
                                  obtain ⟨yu, hyy⟩ : ∃ yu, y.u = yu := ⟨_, rfl⟩
                                  rw [hyy] at c3 hyu hfm
                                  have HFM := Lib.hid hfm
                                  have HYU := Lib.hid hyu
                                  clear h41 hub hv1 hv2 hy hyy hfm hyu
                                  go_wp2
                                  go_roundw
                                  case rel =>
                                    have h1 := HUB.out
                                    have h2 := HYU.out
                                    exact ⟨rfl, b + 1, yu, rfl, by go_num, by omega, by omega, h2.1, by rw [Hl'.out]; omega, by rw [Hl'.out]; omega, HFM.out⟩
                                  case measure => simp [intOf]; omega
                              · have e1 : ((s[b].toNat : Int) == 41) = false := by have h := h41; rw [bt_eq hbl] at h; simp; omega
                                by_cases h32 : (bt s b).toNat = 32
                                · have e2 : ((s[b].toNat : Int) != 32) = false := by have h := h32; rw [bt_eq hbl] at h; simp; omega
                                  by_cases hub : ub < 0
                                  · have HFM := Lib.hid (HQB.out _ (.ovr hub (by omega)))
                                    clear h41 h32 hv1 hv2
                                    go_wp2
                                    go_ret2
                                    exact .inl ⟨b, HFM.out, rfl, HB9.out⟩
                                  · have HFM := Lib.hid (fun Q h => HQB.out Q (.nxt (by omega) h32 h))
                                    clear h41 h32
                                    go_wp2
                                    go_roundw
                                    case rel =>
                                      have h1 := HUB.out
                                      exact ⟨b + 1, ub, L', og, c', by rw [Hl'.out], rfl, by go_num, by omega, by omega, by rw [Hl'.out]; omega, by rw [Hl'.out]; omega, HLU'.out, HFM.out, by rw [Hl'.out]; exact HO9.out, HB9.out⟩
                                    case measure => simp [intOf]; omega
                                · have e2 : ((s[b].toNat : Int) != 32) = true := by have h := h32; rw [bt_eq hbl] at h; simp; omega
                                  have HFM : Hid (Fm s true 0 (-1) [] ([], (b : Int))) := Lib.hid (by
                                    by_cases hub : ub < 0
                                    · exact HQB.out _ (.ovr hub (by omega))
                                    · exact HQB.out _ (.stk (by omega) h41 h32))
                                  clear h41 h32 hv1 hv2
                                  go_wp2
                                  go_ret2
                                  exact .inl ⟨b, HFM.out, rfl, HB9.out⟩
                            · obtain rfl : b = s.size := by omega
                              by_cases hub : ub < 0
                              · have HFM := Lib.hid (HQB.out _ (.done hub rfl))
                                have HNE : Hid (L' ≠ []) := Lib.hid (fun h => by have := Hl'.out; rw [h] at this; simp at this)
                                clear hv1 hv2
                                go_wp2
                                go_ret2
                                exact .inr ⟨L', og, c', HFM.out, HNE.out, by rw [Hl'.out]; omega, by rw [Hl'.out]; rfl, by rw [Hl'.out]; exact HO9.out, HB9.out⟩
                              · have HFM := Lib.hid (HQB.out _ (.stk (by omega) (by rw [bt_out (Nat.le_refl _)]; decide) (by rw [bt_out (Nat.le_refl _)]; decide)))
                                clear hv1 hv2
                                go_wp2
                                go_ret2
                                exact .inl ⟨s.size, HFM.out, rfl, HB9.out⟩
                        · have u1 : (q : Int) < (s.size : Int) := by omega
                          go_wp2
                          go_loopw [5, 6] (fun v5 v6 wx => FoRl2 s a L' w9 v5 v6 wx) (fun _ v6 _ => s.size - (intOf v6).toNat)
                          case atStart => exact ⟨rfl, q, up, rfl, rfl, by omega, by omega, HB2.out.1, by rw [Hl'.out]; have h1 := HB2.out; have h2 := HN.out; omega, by rw [Hl'.out]; omega, HQ2'.out⟩
                          case round =>
                            obtain ⟨hwx, b, ub, rfl, rfl, hab, hb1, hv1, hv2, hLb, hQb⟩ := hrel
                            obtain rfl : w9 = wr := hwx.symm
                            rw [Hl'.out] at hv2 hLb
                            have HQB := Lib.hid hQb
                            have HUB := Lib.hid (And.intro hv1 (And.intro hv2 hLb))
                            clear hwx hQb
                            rcases Nat.lt_or_ge b s.size with hbl | hbge
                            · have b1 : (b : Int) < (s.size : Int) := by omega
                              have b2 : ((b : Int) == (s.size : Int)) = false := by simp; omega
                              by_cases h41 : (bt s b).toNat = 41
                              · have e1 : ((s[b].toNat : Int) == 41) = true := by have h := h41; rw [bt_eq hbl] at h; simp; omega
                                have e2 : ((s[b].toNat : Int) != 32) = true := by have h := h41; rw [bt_eq hbl] at h; simp; omega
                                by_cases hub : ub < 0
                                · have b3 : ¬ (0 : Int) ≤ ub := by omega
                                  have HFM := Lib.hid (HQB.out _ (.ovr hub (by omega)))
                                  clear h41 hub hv1 hv2
                                  go_wp2
                                  go_ret2
                                  exact .inl ⟨b, HFM.out, rfl, HB9.out⟩
                                · obtain ⟨u, rfl⟩ : ∃ u : Nat, ub = (u : Int) := ⟨ub.toNat, by omega⟩
                                  have b3 : (0 : Int) ≤ (u : Int) := by omega
                                  obtain ⟨y, bb, off, hy, rfl, c3⟩ := HCE.out u (by omega)
                                  have b4 : (u : Int) < (n : Int) + 1 := by omega
                                  have hyu := HLU'.out u y hy
                                  have hfm : ∀ Q, Fm s false (b + 1) y.u L' Q → Fm s true 0 (-1) [] Q := fun Q h => HQB.out Q (.pop h41 hy h)
                                  obtain ⟨yu, hyy⟩ : ∃ yu, y.u = yu := ⟨_, rfl⟩
                                  rw [hyy] at c3 hyu hfm
                                  have HFM := Lib.hid hfm
                                  have HYU := Lib.hid hyu
                                  clear h41 hub hv1 hv2 hy hyy hfm hyu
                                  go_wp2
                                  go_roundw
                                  case rel =>
                                    have h1 := HUB.out
                                    have h2 := HYU.out
                                    exact ⟨rfl, b + 1, yu, rfl, by go_num, by omega, by omega, h2.1, by rw [Hl'.out]; omega, by rw [Hl'.out]; omega, HFM.out⟩
                                  case measure => simp [intOf]; omega
                              · have e1 : ((s[b].toNat : Int) == 41) = false := by have h := h41; rw [bt_eq hbl] at h; simp; omega
                                by_cases h32 : (bt s b).toNat = 32
                                · have e2 : ((s[b].toNat : Int) != 32) = false := by have h := h32; rw [bt_eq hbl] at h; simp; omega
                                  by_cases hub : ub < 0
                                  · have HFM := Lib.hid (HQB.out _ (.ovr hub (by omega)))
                                    clear h41 h32 hv1 hv2
                                    go_wp2
                                    go_ret2
                                    exact .inl ⟨b, HFM.out, rfl, HB9.out⟩
                                  · have HFM := Lib.hid (fun Q h => HQB.out Q (.nxt (by omega) h32 h))
                                    clear h41 h32
                                    go_wp2
                                    go_roundw
                                    case rel =>
                                      have h1 := HUB.out
                                      exact ⟨b + 1, ub, L', og, c', by rw [Hl'.out], rfl, by go_num, by omega, by omega, by rw [Hl'.out]; omega, by rw [Hl'.out]; omega, HLU'.out, HFM.out, by rw [Hl'.out]; exact HO9.out, HB9.out⟩
                                    case measure => simp [intOf]; omega
                                · have e2 : ((s[b].toNat : Int) != 32) = true := by have h := h32; rw [bt_eq hbl] at h; simp; omega
                                  have HFM : Hid (Fm s true 0 (-1) [] ([], (b : Int))) := Lib.hid (by
                                    by_cases hub : ub < 0
                                    · exact HQB.out _ (.ovr hub (by omega))
                                    · exact HQB.out _ (.stk (by omega) h41 h32))
                                  clear h41 h32 hv1 hv2
                                  go_wp2
                                  go_ret2
                                  exact .inl ⟨b, HFM.out, rfl, HB9.out⟩
                            · obtain rfl : b = s.size := by omega
                              by_cases hub : ub < 0
                              · have HFM := Lib.hid (HQB.out _ (.done hub rfl))
                                have HNE : Hid (L' ≠ []) := Lib.hid (fun h => by have := Hl'.out; rw [h] at this; simp at this)
                                clear hv1 hv2
                                go_wp2
                                go_ret2
                                exact .inr ⟨L', og, c', HFM.out, HNE.out, by rw [Hl'.out]; omega, by rw [Hl'.out]; rfl, by rw [Hl'.out]; exact HO9.out, HB9.out⟩
                              · have HFM := Lib.hid (HQB.out _ (.stk (by omega) (by rw [bt_out (Nat.le_refl _)]; decide) (by rw [bt_out (Nat.le_refl _)]; decide)))
                                clear hv1 hv2
                                go_wp2
                                go_ret2
                                exact .inl ⟨s.size, HFM.out, rfl, HB9.out⟩
                  · have t6 : ((s[m].toNat : Int) != 45) = true := by have h := h45; rw [bt_eq hml] at h; simp; omega
                    have hfm := HQ.out _ (.bad (p := m) (.inr (.inl ⟨HL0.out, .inr (by rw [HM.out]; exact h45), HM.out.symm⟩)))
                    have HFM := Lib.hid hfm
                    clear hfm h45
                    go_wp2
                    go_ret2
                    exact .inl ⟨m, HFM.out, rfl, HBV.out⟩
                · obtain rfl : m = s.size := by omega
                  have hfm := HQ.out _ (.bad (p := s.size) (.inr (.inl ⟨HL0.out, .inr (by rw [HM.out, bt_out (Nat.le_refl _)]; decide), HM.out.symm⟩)))
                  have HFM := Lib.hid hfm
                  clear hfm hml
                  go_wp2
                  go_ret2
                  exact .inl ⟨s.size, HFM.out, rfl, HBV.out⟩
            · have t3 : ((letL[j].toNat : Int) != (s[a].toNat : Int)) = true := by
                have h := HBEF.out j (by omega)
                rw [bt_eq hjl] at h
                simp; omega
              go_wp2
              go_quiet (fail)
              go_wp2
              go_roundw
              case rel => exact ⟨⟨own_below HO.out (belN (Below.refl _ _) _), belN HB.out _⟩, j + 1, by go_num, by omega⟩
              case measure => simp [intOf]; omega
    · obtain rfl : a = s.size := by omega
      have hfm := HQ.out _ (.bad (p := s.size) (.inl ⟨by rw [bt_out (Nat.le_refl _)]; decide, rfl⟩))
      have HFM := Lib.hid hfm
      clear hfm hk hlt
      go_wp2
      go_ret2
      exact .inl ⟨s.size, HFM.out, rfl, HB.out⟩
end
end Go.Proofs.Ytppipngdakfbpaa

/- What besides of layer 12 (rules) returns at a Simple of a plain command. Condition: at most ten thousand leaves and nodes, texts of at most a million bytes. -/
import Derived.Test.YtmjckjbdkffkoaaDoorRuZ
namespace Go.Proofs.YtmjckjbdkffkoaaDoor
open Go.RowKit
set_option linter.unusedVariables false

section
variable (w : World)
set_option maxRecDepth 100000 in
set_option maxHeartbeats 4000000 in
theorem besides_simple (v : Vw) (lv : Nat → Lf) (nv : Nat → Nd) (k : Nat) (rest : List Nat) (hV : VwOk w v lv nv (k :: rest)) (a : Nat) (hf : (nv v.i).f = (a : Int)) (ha : a < v.ln) (K : Int) (hk : (nv v.i).k = K) (hK : K = 5) (hto : (nv v.i).t = (v.ln : Int)) (h7 : (nv k).k = 7) (j : Nat) (hfj : (nv k).f = (j : Int)) (hj : j < v.ln) (htj : (j : Int) < (nv k).t) (r0 as0 : Bool) (hr0 : (decide ((lv a).k = 6) && resB (lv a).s) = r0) (has0 : (!decide (assignN (lv j).s = 0)) = as0) :
    Calls Tryd.prog 72 #[.agg v.cs] w fun r w' => r = .returned (.bool (!r0 && !as0)) ∧ Below w.heap.size w w' := by
  have hB1 := ((Below.refl w.heap.size w).alloc (Nat.le_refl _) (.cells v.cs 74))
  have kV := (Blk.new w v.cs 74)
  have hz := show (w.alloc (.cells v.cs 74)).heap.size = w.heap.size + 1 by simp
  obtain ⟨W1, hW1⟩ : ∃ X, w.alloc (.cells v.cs 74) = X := ⟨_, rfl⟩
  rw [hW1] at hB1 kV hz
  have hV1 := hV.below hB1
  have hi := hV.i
  obtain ⟨nb, no, hao, hnw, d0, d1, d2, d3⟩ := hV1.a v.i hi
  obtain ⟨t', ht'⟩ : ∃ t', (v.ln : Int) = t' := ⟨_, rfl⟩
  have htt : (nv v.i).t = t' := hto.trans ht'
  obtain ⟨u', hu'⟩ : ∃ u', (nv v.i).u = u' := ⟨_, rfl⟩
  rw [hk] at d0
  rw [hf] at d1
  rw [htt] at d2
  rw [hu'] at d3
  have hB2 := (Below.refl W1.heap.size W1).alloc (Nat.le_refl _) (.cells #[.int .i64 K, .int .i64 (a : Int), .int .i64 t', .int .i64 u'] 27)
  have kN := Blk.new W1 #[.int .i64 K, .int .i64 (a : Int), .int .i64 t', .int .i64 u'] 27
  obtain ⟨W2, hW2⟩ : ∃ X, W1.alloc (.cells #[.int .i64 K, .int .i64 (a : Int), .int .i64 t', .int .i64 u'] 27) = X := ⟨_, rfl⟩
  rw [hW2] at hB2 kN
  have kV2 := kV.below hB2
  have hlf := leaf_in W2 v lv (hV1.below hB2).l a ha
  have hVW := hV1.below hB2
  have HVW := Lib.hid hVW
  obtain ⟨P, hPa⟩ : ∃ P, lv a = P := ⟨_, rfl⟩
  rw [hPa] at hlf hr0
  obtain ⟨Q, hQj⟩ : ∃ Q, lv j = Q := ⟨_, rfl⟩
  rw [hQj] at has0
  have v0 := kV.cell 0
  have v1 := kV.cell 1
  have v2 := kV.cell 2
  have v3 := kV.cell 3
  have x0 := kV2.cell 0
  have x1 := kV2.cell 1
  have x2 := kV2.cell 2
  have x3 := kV2.cell 3
  have n0 := kN.cell 0
  have n1 := kN.cell 1
  simp only [Vw.cs, List.getElem?_toArray, List.getElem?_cons_zero, List.getElem?_cons_succ] at v0 v1 v2 v3 x0 x1 x2 x3 n0 n1
  have q1 : (0 : Int) ≤ (v.i : Int) := by omega
  have q2 : (v.i : Int) < (v.n : Int) := by omega
  unfold Vw.cs at hW1 hlf ⊢
  rw [hao] at hW1 hlf v1 x1 ⊢
  have hsj := hVW.s j hj
  rw [hQj] at hsj
  have hwd : ∀ W, Below W2.heap.size W2 W → Calls Tryd.prog 92 #[.agg #[.slice v.la v.ln v.lc, .slice (some ⟨nb, no, none⟩) v.n v.cap, .int .i64 (v.i : Int), .slice v.ka v.kn v.kc]] W fun r w' => r = .returned (aggF Q) ∧ Below W.heap.size W w' := fun W hW => by
    have := word_first W v lv nv k rest (HVW.out.below hW) h7 j hfj hj htj
    rw [hQj] at this
    unfold Vw.cs at this
    rw [hao] at this
    exact this
  have hlo : ∀ W, Calls Tryd.prog 89 #[.agg #[.slice v.la v.ln v.lc, .slice (some ⟨nb, no, none⟩) v.n v.cap, .int .i64 (v.i : Int), .slice v.ka v.kn v.kc], .int .i64 t'] W fun r w' => r = .returned (aggF zeroF) ∧ Below W.heap.size W w' := fun W => by
    have := leaf_out W v v.ln (Nat.le_refl _)
    unfold Vw.cs at this
    rw [hao, ht'] at this
    exact this
  have hres : ∀ W, Calls Tryd.prog 90 #[aggF P] W fun r w' => r = .returned (.bool r0) ∧ Below W.heap.size W w' := fun W => by
    have := reserved_at W P
    rw [hr0] at this
    exact this
  have hasg : ∀ W, Calls Tryd.prog 91 #[aggF Q] W fun r w' => r = .returned (.bool as0) ∧ Below W.heap.size W w' := fun W => by
    have := assigns_any W Q hsj
    rw [has0] at this
    exact this
  have hjz := fun W (hW : Tx W) => joins_zero W hW
  have HTX := Lib.hid hVW.tx
  obtain ⟨pk, ps, pf, pt⟩ := P
  obtain ⟨qk, qs, qf, qt⟩ := Q
  unfold aggF at hlf hwd hres hasg hlo hjz
  simp only [zeroF] at hlf hwd hres hasg hlo hjz
  have HWD := Lib.hid hwd
  have HLO := Lib.hid hlo
  have HRES := Lib.hid hres
  have HASG := Lib.hid hasg
  have HJZ := Lib.hid hjz
  have HKV2 := Lib.hid (show Blk W2 w.heap.size #[.slice v.la v.ln v.lc, .slice (some ⟨nb, no, none⟩) v.n v.cap, .int .i64 (v.i : Int), .slice v.ka v.kn v.kc] 74 from by rw [← hao]; exact kV2)
  clear hwd hlo hres hasg hjz hPa hQj hr0 has0 hVW h7 hfj hj htj hto htt ht' ha hsj
  have HLF := Lib.hid hlf
  have HKN := Lib.hid kN
  have HB2 := Lib.hid (hB1.trans (hB2.mono hB1.size))
  have HS := Lib.hid hB2.size
  clear hV hV1 hk hf hu' hlf kN kV kV2 hB1 hB2 hz hao
  subst hK
  go_enter Tryd.func72, Tryd.ntmps72
  go_wp2_with fail
  refine HLF.out.mono ?_
  rintro r w3 ⟨rfl, hb3⟩
  obtain ⟨w4, hw4⟩ : ∃ X, w3.alloc (.cells #[.int .i64 pk, .string ps, .int .i64 pf, .int .i64 pt] 35) = X := ⟨_, rfl⟩
  have hb4 : Below W2.heap.size W2 w4 := by rw [← hw4]; exact hb3.alloc hb3.size _
  have kB := Blk.new w3 #[.int .i64 pk, .string ps, .int .i64 pf, .int .i64 pt] 35
  rw [hw4] at kB
  have HW4 := Lib.hid hw4
  obtain ⟨LB, hLB⟩ : ∃ X, w3.heap.size = X := ⟨_, rfl⟩
  rw [hLB] at kB
  have HLB := Lib.hid hLB
  have HB4 := Lib.hid hb4
  have HKB := Lib.hid kB
  have fk : ∀ W, Below w4.heap.size w4 W → Hid (W.cell? ⟨LB, 0, none⟩ = some (.int .i64 pk) ∧ W.cell? ⟨LB, 1, none⟩ = some (.string ps) ∧ W.cell? ⟨LB, 2, none⟩ = some (.int .i64 pf) ∧ W.cell? ⟨LB, 3, none⟩ = some (.int .i64 pt) ∧ W.cell? ⟨W1.heap.size, 0, none⟩ = some (.int .i64 5) ∧ W.cell? ⟨W1.heap.size, 2, none⟩ = some (.int .i64 t') ∧ W.cell? ⟨w.heap.size, 0, none⟩ = some (.slice v.la v.ln v.lc) ∧ W.cell? ⟨w.heap.size, 1, none⟩ = some (.slice (some ⟨nb, no, none⟩) v.n v.cap) ∧ W.cell? ⟨w.heap.size, 2, none⟩ = some (.int .i64 (v.i : Int)) ∧ W.cell? ⟨w.heap.size, 3, none⟩ = some (.slice v.ka v.kn v.kc)) := fun W hW => by
    have b1 := HKB.out.below hW
    have b2 := (HKN.out.below HB4.out).below hW
    have b3 := (HKV2.out.below HB4.out).below hW
    exact Lib.hid ⟨b1.cell 0, b1.cell 1, b1.cell 2, b1.cell 3, b2.cell 0, b2.cell 2, b3.cell 0, b3.cell 1, b3.cell 2, b3.cell 3⟩
  have HFK := Lib.hid fk
  have m0 := (HKN.out.below hb3).cell 0
  simp only [List.getElem?_toArray, List.getElem?_cons_zero] at m0
  clear hb3 v0 v1 v2 v3 x0 x1 x2 x3 n0 n1 hW1 hW2 d0 d1 d2 d3 fk kB hb4 hw4 hLB
  obtain ⟨y0, y1, y2, y3, y4, y5, y6, y7, y8, y9⟩ := (HFK.out w4 (Below.refl _ _)).out
  have m0' : (w3.alloc (.cells #[.int .i64 pk, .string ps, .int .i64 pf, .int .i64 pt] 35)).cell? ⟨W1.heap.size, 0, none⟩ = some (.int .i64 5) := by rw [HW4.out]; exact y4
  cases r0
  · cases as0
    · go_wp2_with fail
      rw [HLB.out, HW4.out]
      refine (HRES.out _).mono ?_
      rintro r w5 ⟨rfl, hb5⟩
      have HB5 := Lib.hid hb5
      obtain ⟨z0, z1, z2, z3, z4, z5, z6, z7, z8, z9⟩ := (HFK.out w5 hb5).out
      clear hb5
      go_wp2_with fail
      refine (HWD.out w5 (HB4.out.trans (HB5.out.mono HB4.out.size))).mono ?_
      rintro r w6 ⟨rfl, hb6⟩
      have HB6 := Lib.hid (HB5.out.trans (hb6.mono HB5.out.size))
      clear z0 z1 z2 z3 z4 z5 z6 z7 z8 z9
      obtain ⟨z0, z1, z2, z3, z4, z5, z6, z7, z8, z9⟩ := (HFK.out w6 HB6.out).out
      clear hb6
      go_wp2_with fail
      refine (HASG.out w6).mono ?_
      rintro r w7 ⟨rfl, hb7⟩
      have HB7 := Lib.hid (HB6.out.trans (hb7.mono HB6.out.size))
      clear z0 z1 z2 z3 z4 z5 z6 z7 z8 z9
      obtain ⟨z0, z1, z2, z3, z4, z5, z6, z7, z8, z9⟩ := (HFK.out w7 HB7.out).out
      clear hb7
      go_wp2_with fail
      refine (HLO.out w7).mono ?_
      rintro r w8 ⟨rfl, hb8⟩
      have HB8 := Lib.hid (HB7.out.trans (hb8.mono HB7.out.size))
      clear z0 z1 z2 z3 z4 z5 z6 z7 z8 z9
      clear hb8
      go_wp2_with fail
      refine (HJZ.out w8 (HTX.out.b (HB4.out.trans (HB8.out.mono HB4.out.size)))).mono ?_
      rintro r w9 ⟨rfl, hb9⟩
      have HB9 := Lib.hid (HB8.out.trans (hb9.mono HB8.out.size))
      clear hb9
      go_wp2
      go_ret
      exact ⟨rfl, HB2.out.trans ((HB4.out.trans (HB9.out.mono HB4.out.size)).mono HB2.out.size)⟩
    · go_wp2_with fail
      rw [HLB.out, HW4.out]
      refine (HRES.out _).mono ?_
      rintro r w5 ⟨rfl, hb5⟩
      have HB5 := Lib.hid hb5
      obtain ⟨z0, z1, z2, z3, z4, z5, z6, z7, z8, z9⟩ := (HFK.out w5 hb5).out
      clear hb5
      go_wp2_with fail
      refine (HWD.out w5 (HB4.out.trans (HB5.out.mono HB4.out.size))).mono ?_
      rintro r w6 ⟨rfl, hb6⟩
      have HB6 := Lib.hid (HB5.out.trans (hb6.mono HB5.out.size))
      clear z0 z1 z2 z3 z4 z5 z6 z7 z8 z9
      clear hb6
      go_wp2_with fail
      refine (HASG.out w6).mono ?_
      rintro r w7 ⟨rfl, hb7⟩
      have HB7 := Lib.hid (HB6.out.trans (hb7.mono HB6.out.size))
      clear hb7
      go_wp2
      go_ret
      exact ⟨rfl, HB2.out.trans ((HB4.out.trans (HB7.out.mono HB4.out.size)).mono HB2.out.size)⟩
  · go_wp2_with fail
    rw [HLB.out, HW4.out]
    refine (HRES.out _).mono ?_
    rintro r w5 ⟨rfl, hb5⟩
    have HB5 := Lib.hid hb5
    clear hb5
    go_wp2
    go_ret
    exact ⟨rfl, HB2.out.trans ((HB4.out.trans (HB5.out.mono HB4.out.size)).mono HB2.out.size)⟩
end
end Go.Proofs.YtmjckjbdkffkoaaDoor

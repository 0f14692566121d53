/- What word and besides of layer 12 (rules) return at the nodes of a plain command. Condition: at most ten thousand leaves and nodes, texts of at most a million bytes. -/
import Derived.Test.YtmjckjbdkffkoaaDoorRuY
namespace Go.Proofs.YtmjckjbdkffkoaaDoor
open Go.RowKit
set_option linter.unusedVariables false

theorem VwOk.box {w : World} {v : Vw} {lv : Nat → Lf} {nv : Nat → Nd} {ks : List Nat} (h : VwOk w v lv nv ks) : VwOk (w.alloc (.cells v.cs 74)) v lv nv ks := h.below ((Below.refl _ w).alloc (Nat.le_refl _) _)
section
variable (w : World)
set_option maxRecDepth 100000 in
set_option maxHeartbeats 4000000 in
theorem word_first (v : Vw) (lv : Nat → Lf) (nv : Nat → Nd) (k : Nat) (rest : List Nat) (hV : VwOk w v lv nv (k :: rest)) (h7 : (nv k).k = 7) (j : Nat) (hf : (nv k).f = (j : Int)) (hj : j < v.ln) (ht : (j : Int) < (nv k).t) :
    Calls Tryd.prog 92 #[.agg v.cs] w fun r w' => r = .returned (aggF (lv j)) ∧ Below w.heap.size w w' := by
  obtain ⟨P, hP⟩ : ∃ P, lv j = P := ⟨_, rfl⟩
  rw [hP]
  obtain ⟨pk, ps, pf, pt⟩ := P
  have HPJ := Lib.hid hP
  clear hP
  have hB := (((Below.refl w.heap.size w).alloc (Nat.le_refl _) (.cells v.cs 74)).alloc (by simp) (.cells #[.int .i64 0, .string ⟨#[]⟩, .int .i64 0, .int .i64 0] 35))
  have kR := Blk.new (w.alloc (.cells v.cs 74)) #[.int .i64 0, .string ⟨#[]⟩, .int .i64 0, .int .i64 0] 35
  have kV := (Blk.new w v.cs 74).alloc (.cells #[.int .i64 0, .string ⟨#[]⟩, .int .i64 0, .int .i64 0] 35)
  have hz := show ((w.alloc (.cells v.cs 74)).alloc (.cells #[.int .i64 0, .string ⟨#[]⟩, .int .i64 0, .int .i64 0] 35)).heap.size = w.heap.size + 2 by simp
  simp only [World.size_alloc] at kR
  obtain ⟨W2, hW2⟩ : ∃ X, (w.alloc (.cells v.cs 74)).alloc (.cells #[.int .i64 0, .string ⟨#[]⟩, .int .i64 0, .int .i64 0] 35) = X := ⟨_, rfl⟩
  rw [hW2] at hB kR kV hz
  have hV2 := hV.below hB
  obtain ⟨kb, hka, hkw, ck⟩ := hV2.k.cells 0 k rfl
  have hkn := hV2.k.len
  have hkv : k < v.n := hV2.kl k (List.mem_cons_self ..)
  obtain ⟨nb, no, hao, hnw, d0, d1, d2, d3⟩ := hV2.a k hkv
  obtain ⟨t', ht'⟩ : ∃ t', (nv k).t = t' := ⟨_, rfl⟩
  obtain ⟨u', hu'⟩ : ∃ u', (nv k).u = u' := ⟨_, rfl⟩
  rw [h7] at d0
  rw [hf] at d1
  rw [ht'] at d2 ht
  rw [hu'] at d3
  have v0 := kV.cell 0
  have v1 := kV.cell 1
  have v2 := kV.cell 2
  have v3 := kV.cell 3
  simp only [Vw.cs, List.getElem?_toArray, List.getElem?_cons_zero, List.getElem?_cons_succ] at v0 v1 v2 v3
  rw [hka] at v3
  rw [hao] at v1
  have q0 : (0 : Int) < (v.kn : Int) := by rw [hkn]; simp; try omega
  have q1 : (0 : Int) ≤ (k : Int) := by omega
  have q2 : (k : Int) < (v.n : Int) := by omega
  have HV2 := Lib.hid hV2
  have HKR := Lib.hid kR
  have HB := Lib.hid hB
  have HZ := Lib.hid hz
  have HAO := Lib.hid hao
  have HKA := Lib.hid hka
  unfold Vw.cs at hW2 ⊢
  rw [HAO.out, HKA.out] at hW2 ⊢
  clear hV hV2 kR kV hB hz hao hka hkn h7 hf ht' hu'
  go_enter Tryd.func92, Tryd.ntmps92
  go_wp2_with fail
  clear hW2
  go_loopw [9] (fun v9 wr => v9 = .int .i64 0 ∧ wr = W2) (fun _ _ => 0)
  case atStart => exact ⟨rfl, rfl⟩
  case round =>
    obtain ⟨rfl, hwr⟩ := hrel
    obtain rfl : W2 = wr := hwr.symm
    clear hwr
    have hB3 : Below W2.heap.size W2 (W2.alloc (.cells #[.int .i64 7, .int .i64 (j : Int), .int .i64 t', .int .i64 u'] 27)) := (Below.refl _ _).alloc (Nat.le_refl _) _
    have hvl : w.heap.size < W2.heap.size := by have := HZ.out; omega
    have x0 := (hB3.cell (p := ⟨w.heap.size, 0, none⟩) hvl).trans v0
    have x1 := (hB3.cell (p := ⟨w.heap.size, 1, none⟩) hvl).trans v1
    have x2 := (hB3.cell (p := ⟨w.heap.size, 2, none⟩) hvl).trans v2
    have x3 := (hB3.cell (p := ⟨w.heap.size, 3, none⟩) hvl).trans v3
    have HLF := Lib.hid (leaf_in _ v lv (HV2.out.below hB3).l j hj)
    have HB3 := Lib.hid hB3
    clear hB3
    unfold Vw.cs at HLF
    rw [HAO.out, HKA.out] at HLF
    rw [HPJ.out] at HLF
    unfold aggF at HLF
    simp only at HLF
    go_wp2_with fail
    refine HLF.out.mono ?_
    rintro r w3 ⟨rfl, hb3⟩
    have hb23 : Below W2.heap.size W2 w3 := HB3.out.trans (hb3.mono HB3.out.size)
    have kR3 := HKR.out.below hb23
    have f0 := kR3.frozen 0
    have f1 := kR3.frozen 1
    have f2 := kR3.frozen 2
    have f3 := kR3.frozen 3
    have r0 := kR3.cell 0
    have r1 := kR3.cell 1
    have r2 := kR3.cell 2
    have r3 := kR3.cell 3
    simp only [List.getElem?_toArray, List.getElem?_cons_zero, List.getElem?_cons_succ] at r0 r1 r2 r3
    have HB23 := Lib.hid (HB.out.trans (hb23.mono HB.out.size))
    have HK3 := Lib.hid kR3
    clear hb3 hb23 kR3 x0 x1 x2 x3 v0 v1 v2 v3 d0 d1 d2 d3
    go_wp2
    have k4 := (((HK3.out.set 0 (.int .i64 pk)).set 1 (.string ps)).set 2 (.int .i64 pf)).set 3 (.int .i64 pt)
    have u0 := k4.cell 0
    have u1 := k4.cell 1
    have u2 := k4.cell 2
    have u3 := k4.cell 3
    simp at u0 u1 u2 u3
    refine bodyPost_ret (v := aggF ⟨pk, ps, pf, pt⟩) (by simp [results, Tryd.results92, go_sem, u0, u1, u2, u3, aggF]) rfl ?_
    exact ⟨rfl, HB23.out.trans (Frm.below ((((Frm.setCell (p := fun b => b = w.heap.size + 1) (Frm.refl _ w3) 0 (.inl rfl) _).setCell 1 (.inl rfl) _).setCell 2 (.inl rfl) _).setCell 3 (.inl rfl) _) HB23.out.size (fun b hb => by omega))⟩
/-- What a leaf's number gives. -/
theorem leaf_ex (v : Vw) (lv : Nat → Lf) (hL : LfRow w v.la v.ln lv) (at' : Nat) : ∃ P : Lf, Calls Tryd.prog 89 #[.agg v.cs, .int .i64 (at' : Int)] w fun r w' => r = .returned (aggF P) ∧ Below w.heap.size w w' := by
  by_cases h : at' < v.ln
  · exact ⟨_, leaf_in w v lv hL at' h⟩
  · exact ⟨_, leaf_out w v at' (by omega)⟩
set_option maxRecDepth 100000 in
set_option maxHeartbeats 4000000 in
theorem besides_plain (v : Vw) (lv : Nat → Lf) (nv : Nat → Nd) (ks : List Nat) (hV : VwOk w v lv nv ks) (a : Nat) (hf : (nv v.i).f = (a : Int)) (K : Int) (hk : (nv v.i).k = K) (hK : K = 1 ∨ K = 2 ∨ K = 3 ∨ K = 4 ∨ K = 7) :
    Calls Tryd.prog 72 #[.agg v.cs] w fun r w' => r = .returned (.bool true) ∧ Below w.heap.size w w' := by
  have hB1 := ((Below.refl w.heap.size w).alloc (Nat.le_refl _) (.cells v.cs 74))
  have kV := (Blk.new w v.cs 74)
  have hz := show (w.alloc (.cells v.cs 74)).heap.size = w.heap.size + 1 by simp
  obtain ⟨W1, hW1⟩ : ∃ X, w.alloc (.cells v.cs 74) = X := ⟨_, rfl⟩
  rw [hW1] at hB1 kV hz
  have hV1 := hV.below hB1
  have hi := hV.i
  obtain ⟨nb, no, hao, hnw, d0, d1, d2, d3⟩ := hV1.a v.i hi
  obtain ⟨t', ht'⟩ : ∃ t', (nv v.i).t = t' := ⟨_, rfl⟩
  obtain ⟨u', hu'⟩ : ∃ u', (nv v.i).u = u' := ⟨_, rfl⟩
  rw [hk] at d0
  rw [hf] at d1
  rw [ht'] at d2
  rw [hu'] at d3
  have hB2 := (Below.refl W1.heap.size W1).alloc (Nat.le_refl _) (.cells #[.int .i64 K, .int .i64 (a : Int), .int .i64 t', .int .i64 u'] 27)
  have kN := Blk.new W1 #[.int .i64 K, .int .i64 (a : Int), .int .i64 t', .int .i64 u'] 27
  obtain ⟨W2, hW2⟩ : ∃ X, W1.alloc (.cells #[.int .i64 K, .int .i64 (a : Int), .int .i64 t', .int .i64 u'] 27) = X := ⟨_, rfl⟩
  rw [hW2] at hB2 kN
  have kV2 := kV.below hB2
  obtain ⟨P, hlf⟩ := leaf_ex W2 v lv (hV1.below hB2).l a
  have v0 := kV.cell 0
  have v1 := kV.cell 1
  have v2 := kV.cell 2
  have v3 := kV.cell 3
  have x0 := kV2.cell 0
  have x1 := kV2.cell 1
  have x2 := kV2.cell 2
  have x3 := kV2.cell 3
  have n0 := kN.cell 0
  have n1 := kN.cell 1
  simp only [Vw.cs, List.getElem?_toArray, List.getElem?_cons_zero, List.getElem?_cons_succ] at v0 v1 v2 v3 x0 x1 x2 x3 n0 n1
  have q1 : (0 : Int) ≤ (v.i : Int) := by omega
  have q2 : (v.i : Int) < (v.n : Int) := by omega
  unfold Vw.cs at hW1 hlf ⊢
  rw [hao] at hW1 hlf v1 x1 ⊢
  obtain ⟨pk, ps, pf, pt⟩ := P
  unfold aggF at hlf
  simp only at hlf
  have HLF := Lib.hid hlf
  have HKN := Lib.hid kN
  have HB2 := Lib.hid (hB1.trans (hB2.mono hB1.size))
  have HS := Lib.hid hB2.size
  clear hV hV1 hk hf ht' hu' hlf kN kV kV2 hB1 hB2 hz hao
  have g : ∀ c : Int, c ≠ K → Hid ((K == c) = false) := fun c h => Lib.hid (by simp; omega)
  have g5 := (g 5 (by omega)).out
  have g6 := (g 6 (by omega)).out
  have g13 := (g 13 (by omega)).out
  have g15 := (g 15 (by omega)).out
  have g16 := (g 16 (by omega)).out
  clear g hK
  go_enter Tryd.func72, Tryd.ntmps72
  go_wp2_with fail
  refine HLF.out.mono ?_
  rintro r w3 ⟨rfl, hb3⟩
  have m0 := (HKN.out.below hb3).cell 0
  simp only [List.getElem?_toArray, List.getElem?_cons_zero] at m0
  have m0' := ((HKN.out.below hb3).alloc (.cells #[.int .i64 pk, .string ps, .int .i64 pf, .int .i64 pt] 35)).cell 0
  simp only [List.getElem?_toArray, List.getElem?_cons_zero] at m0'
  have HB3 := Lib.hid (HB2.out.trans (hb3.mono HB2.out.size))
  clear hb3 v0 v1 v2 v3 x0 x1 x2 x3 n0 n1 hW1 hW2 d0 d1 d2 d3
  go_wp2
  go_ret
  exact ⟨rfl, HB3.out.alloc HB3.out.size _⟩
end
end Go.Proofs.YtmjckjbdkffkoaaDoor

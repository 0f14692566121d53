/- What leaf, word, reserved, assigns, joins, counts and besides of layer 12 (rules) return at the nodes of a plain command. Condition: at most ten thousand leaves and nodes, texts of at most a million bytes. -/
import Derived.Test.YtmjckjbdkffkoaaDoorRuV
import Derived.Test.YtmjckjbdkffkoaaDoorRuC
namespace Go.Proofs.YtmjckjbdkffkoaaDoor
open Go.RowKit
set_option linter.unusedVariables false

def zeroF : Lf := ⟨0, ⟨#[]⟩, 0, 0⟩
section
variable (w : World)
set_option maxRecDepth 100000 in
set_option maxHeartbeats 2000000 in
theorem leaf_in (v : Vw) (lv : Nat → Lf) (hL : LfRow w v.la v.ln lv) (at' : Nat) (h : at' < v.ln) :
    Calls Tryd.prog 89 #[.agg v.cs, .int .i64 (at' : Int)] w fun r w' => r = .returned (aggF (lv at')) ∧ Below w.heap.size w w' := by
  obtain ⟨lb, lo, hla, hlw, l0, l1, l2, l3⟩ := hL at' h
  obtain ⟨P, hP⟩ : ∃ P, lv at' = P := ⟨_, rfl⟩
  rw [hP] at l0 l1 l2 l3 ⊢
  obtain ⟨pk, ps, pf, pt⟩ := P
  simp only at l0 l1 l2 l3
  have hB := (((Below.refl w.heap.size w).alloc (Nat.le_refl _) (.cells v.cs 74)).alloc (by simp) (.cells #[.int .i64 0, .string ⟨#[]⟩, .int .i64 0, .int .i64 0] 35))
  have q0 : (0 : Int) ≤ (at' : Int) := by omega
  have q1 : (at' : Int) < (v.ln : Int) := by omega
  have d0 : decide ((at' : Int) < 0) = false := by simp
  have d1 : decide ((v.ln : Int) ≤ (at' : Int)) = false := by simp; omega
  have d1' : decide (v.ln ≤ at') = false := by simp; omega
  have m0 := (hB.cell (p := ⟨lb, lo + at' * 4, none⟩) hlw).trans l0
  have m1 := (hB.cell (p := ⟨lb, lo + at' * 4 + 1, none⟩) hlw).trans l1
  have m2 := (hB.cell (p := ⟨lb, lo + at' * 4 + 2, none⟩) hlw).trans l2
  have m3 := (hB.cell (p := ⟨lb, lo + at' * 4 + 3, none⟩) hlw).trans l3
  have kR := Blk.new (w.alloc (.cells v.cs 74)) #[.int .i64 0, .string ⟨#[]⟩, .int .i64 0, .int .i64 0] 35
  have kV := (Blk.new w v.cs 74).alloc (.cells #[.int .i64 0, .string ⟨#[]⟩, .int .i64 0, .int .i64 0] 35)
  simp only [World.size_alloc] at kR
  have HB := Lib.hid hB
  unfold Vw.cs at HB kR kV m0 m1 m2 m3 ⊢
  rw [hla] at HB kR kV m0 m1 m2 m3 ⊢
  obtain ⟨W2, hW2⟩ : ∃ X, (w.alloc (.cells #[.slice (some ⟨lb, lo, none⟩) v.ln v.lc, .slice v.ao v.n v.cap, .int .i64 (v.i : Int), .slice v.ka v.kn v.kc] 74)).alloc (.cells #[.int .i64 0, .string ⟨#[]⟩, .int .i64 0, .int .i64 0] 35) = X := ⟨_, rfl⟩
  rw [hW2] at HB kR kV m0 m1 m2 m3
  have v0 := kV.cell 0
  have r0 := kR.cell 0
  have r1 := kR.cell 1
  have r2 := kR.cell 2
  have r3 := kR.cell 3
  have f0 := kR.frozen 0
  have f1 := kR.frozen 1
  have f2 := kR.frozen 2
  have f3 := kR.frozen 3
  simp only [List.getElem?_toArray, List.getElem?_cons_zero, List.getElem?_cons_succ] at v0 r0 r1 r2 r3
  have HKR := Lib.hid kR
  have HW2 := Lib.hid hW2
  clear kR kV hB l0 l1 l2 l3 hL hP
  go_enter Tryd.func89, Tryd.ntmps89
  go_upto_region 1 with fail
  clear HW2 hW2
  go_wp2
  have k4 := (((HKR.out.set 0 (.int .i64 pk)).set 1 (.string ps)).set 2 (.int .i64 pf)).set 3 (.int .i64 pt)
  have u0 := k4.cell 0
  have u1 := k4.cell 1
  have u2 := k4.cell 2
  have u3 := k4.cell 3
  simp at u0 u1 u2 u3
  refine bodyPost_ret (v := aggF ⟨pk, ps, pf, pt⟩) (by simp [results, Tryd.results89, go_sem, u0, u1, u2, u3, aggF]) rfl ?_
  exact ⟨rfl, HB.out.trans (Frm.below ((((Frm.setCell (p := fun b => b = w.heap.size + 1) (Frm.refl _ W2) 0 (.inl rfl) _).setCell 1 (.inl rfl) _).setCell 2 (.inl rfl) _).setCell 3 (.inl rfl) _) HB.out.size (fun b hb => by omega))⟩
set_option maxRecDepth 100000 in
set_option maxHeartbeats 2000000 in
theorem leaf_out (v : Vw) (at' : Nat) (h : v.ln ≤ at') :
    Calls Tryd.prog 89 #[.agg v.cs, .int .i64 (at' : Int)] w fun r w' => r = .returned (aggF zeroF) ∧ Below w.heap.size w w' := by
  have hB := (((Below.refl w.heap.size w).alloc (Nat.le_refl _) (.cells v.cs 74)).alloc (by simp) (.cells #[.int .i64 0, .string ⟨#[]⟩, .int .i64 0, .int .i64 0] 35))
  have q0 : (0 : Int) ≤ (at' : Int) := by omega
  have d0 : decide ((at' : Int) < 0) = false := by simp
  have d1 : decide ((v.ln : Int) ≤ (at' : Int)) = true := by simp; omega
  have d1' : decide (v.ln ≤ at') = true := by simp; omega
  have kR := Blk.new (w.alloc (.cells v.cs 74)) #[.int .i64 0, .string ⟨#[]⟩, .int .i64 0, .int .i64 0] 35
  have kV := (Blk.new w v.cs 74).alloc (.cells #[.int .i64 0, .string ⟨#[]⟩, .int .i64 0, .int .i64 0] 35)
  simp only [World.size_alloc] at kR
  have HB := Lib.hid hB
  unfold Vw.cs at HB kR kV ⊢
  obtain ⟨W2, hW2⟩ : ∃ X, (w.alloc (.cells #[.slice v.la v.ln v.lc, .slice v.ao v.n v.cap, .int .i64 (v.i : Int), .slice v.ka v.kn v.kc] 74)).alloc (.cells #[.int .i64 0, .string ⟨#[]⟩, .int .i64 0, .int .i64 0] 35) = X := ⟨_, rfl⟩
  rw [hW2] at HB kR kV
  have v0 := kV.cell 0
  have r0 := kR.cell 0
  have r1 := kR.cell 1
  have r2 := kR.cell 2
  have r3 := kR.cell 3
  have f0 := kR.frozen 0
  have f1 := kR.frozen 1
  have f2 := kR.frozen 2
  have f3 := kR.frozen 3
  simp only [List.getElem?_toArray, List.getElem?_cons_zero, List.getElem?_cons_succ] at v0 r0 r1 r2 r3
  have HKR := Lib.hid kR
  have HW2 := Lib.hid hW2
  clear kR kV hB
  go_enter Tryd.func89, Tryd.ntmps89
  go_upto_region 1 with fail
  clear HW2 hW2
  go_wp2
  have k4 := (((HKR.out.set 0 (.int .i64 0)).set 1 (.string ⟨#[]⟩)).set 2 (.int .i64 0)).set 3 (.int .i64 0)
  have u0 := k4.cell 0
  have u1 := k4.cell 1
  have u2 := k4.cell 2
  have u3 := k4.cell 3
  simp at u0 u1 u2 u3
  refine bodyPost_ret (v := aggF zeroF) (by simp [results, Tryd.results89, go_sem, u0, u1, u2, u3, aggF, zeroF]) rfl ?_
  exact ⟨rfl, HB.out.trans (Frm.below ((((Frm.setCell (p := fun b => b = w.heap.size + 1) (Frm.refl _ W2) 0 (.inl rfl) _).setCell 1 (.inl rfl) _).setCell 2 (.inl rfl) _).setCell 3 (.inl rfl) _) HB.out.size (fun b hb => by omega))⟩
/-- A leaf's box, as the functions over leaves make it. -/
theorem leaf_below (P : Lf) : Below w.heap.size w (w.alloc (.cells #[.int .i64 P.k, .string P.s, .int .i64 P.f, .int .i64 P.t] 35)) := (Below.refl _ w).alloc (Nat.le_refl _) _
set_option maxRecDepth 100000 in
set_option maxHeartbeats 2000000 in
theorem reserved_at (P : Lf) :
    Calls Tryd.prog 90 #[aggF P] w fun r w' => r = .returned (.bool (decide (P.k = 6) && resB P.s)) ∧ Below w.heap.size w w' := by
  obtain ⟨k, s, f, t⟩ := P
  unfold aggF
  simp only
  have HB := Lib.hid (leaf_below w ⟨k, s, f, t⟩)
  have HR := Lib.hid (fun W => reserved_any s W)
  by_cases h6 : k = 6
  · have g6 : (k == 6) = true := by simpa using h6
    have e6 : decide (k = 6) = true := by simpa using h6
    rw [e6, Bool.true_and]
    obtain ⟨b, hb⟩ : ∃ b, resB s = b := ⟨_, rfl⟩
    simp only [hb] at HR ⊢
    clear h6 e6 hb
    go_enter Tryd.func90, Tryd.ntmps90
    go_wp2_with fail
    refine (HR.out _).mono ?_
    rintro r w1 ⟨rfl, rfl⟩
    go_wp2
    go_ret
    exact ⟨by cases b <;> rfl, HB.out⟩
  · have g6 : (k == 6) = false := by simpa using h6
    have e6 : decide (k = 6) = false := by simpa using h6
    rw [e6, Bool.false_and]
    clear h6 e6
    go_enter Tryd.func90, Tryd.ntmps90
    go_wp2
    go_ret
    exact ⟨rfl, HB.out⟩
set_option maxRecDepth 100000 in
set_option maxHeartbeats 2000000 in
theorem assigns_any (P : Lf) (hs : P.s.size ≤ 1000000) :
    Calls Tryd.prog 91 #[aggF P] w fun r w' => r = .returned (.bool (!decide (assignN P.s = 0))) ∧ Below w.heap.size w w' := by
  obtain ⟨k, s, f, t⟩ := P
  unfold aggF
  simp only at hs ⊢
  have HB := Lib.hid (leaf_below w ⟨k, s, f, t⟩)
  obtain ⟨x, y, b, hV, hb⟩ : ∃ x y b, assignV s = .tuple #[.string x, .string y, .bool b] ∧ b = !decide (assignN s = 0) := by
    unfold assignV
    by_cases h : assignN s = 0
    · rw [if_pos h]; exact ⟨_, _, _, rfl, by simp [h]⟩
    · rw [if_neg h]; exact ⟨_, _, _, rfl, by simp [h]⟩
  rw [← hb]
  have HA := Lib.hid (fun W => by have := assign_any s W hs; rw [hV] at this; exact this)
  clear hV hb
  go_enter Tryd.func91, Tryd.ntmps91
  go_wp2_with fail
  refine (HA.out _).mono ?_
  rintro r w1 ⟨rfl, hb1⟩
  have HB1 := Lib.hid (HB.out.trans (hb1.mono HB.out.size))
  clear hb1
  go_wp2
  go_ret
  exact ⟨rfl, HB1.out⟩
set_option maxRecDepth 100000 in
set_option maxHeartbeats 2000000 in
theorem joins_zero (hT : Tx w) :
    Calls Tryd.prog 93 #[aggF zeroF] w fun r w' => r = .returned (.bool false) ∧ Below w.heap.size w w' := by
  have HB := Lib.hid (leaf_below w zeroF)
  have HSI := Lib.hid (fun W (hW : Tx W) => sign_any W zeroF (by decide) hW)
  have HTB := Lib.hid (hT.b HB.out)
  have hix : ∀ W, Calls Tryd.prog 97 #[.string ⟨#[35, 60, 33, 123, 125, 105, 116, 101, 108, 102, 119, 100, 103, 114, 107, 99, 122, 120]⟩, .int .u8 63] W fun e w' => e = .returned (.int .i64 (-1)) ∧ w' = W := fun W => by
    have := index_any ⟨#[35, 60, 33, 123, 125, 105, 116, 101, 108, 102, 119, 100, 103, 114, 107, 99, 122, 120]⟩ 63 W
    exact this
  have HIX := Lib.hid hix
  clear hix hT
  unfold aggF zeroF at HSI ⊢
  unfold zeroF at HB HTB
  simp only at HSI HB HTB ⊢
  go_enter Tryd.func93, Tryd.ntmps93
  go_wp2_with fail
  refine (HSI.out _ HTB.out).mono ?_
  rintro r w1 ⟨rfl, hb1⟩
  have HB1 := Lib.hid (HB.out.trans (hb1.mono HB.out.size))
  clear hb1
  rw [show (sgn 0 ⟨#[]⟩ : Nat) = 63 from rfl]
  go_wp2_with fail
  refine (HIX.out _).mono ?_
  rintro r w2 ⟨rfl, rfl⟩
  go_wp2
  go_ret
  exact ⟨rfl, HB1.out⟩
set_option maxHeartbeats 1000000 in
theorem counts_no (k : Int) (h : k ≤ 8) :
    Calls Tryd.prog 56 #[.int .i64 k] w fun r w' => r = .returned (.bool false) ∧ w' = w := by
  have g : ∀ c : Int, 9 ≤ c → (k == c) = false := fun c hc => by simp; omega
  have g9 := g 9 (by decide)
  have g10 := g 10 (by decide)
  have g11 := g 11 (by decide)
  have g12 := g 12 (by decide)
  have g13 := g 13 (by decide)
  have g14 := g 14 (by decide)
  have g16 := g 16 (by decide)
  clear g h
  go_enter Tryd.func56, Tryd.ntmps56
  go_wp2
  go_ret
  exact ⟨rfl, rfl⟩
end
end Go.Proofs.YtmjckjbdkffkoaaDoor

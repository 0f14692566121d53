/- What the law RulesSigns of layer 12 (rules) returns. Condition: the program's tables lie as start-up lays them. -/
import Derived.Test.YtmjckjbdkffkoaaDoorRuAi
namespace Go.Proofs.YtmjckjbdkffkoaaDoor
open Go.RowKit
set_option linter.unusedVariables false

section
variable (w : World)
set_option maxRecDepth 100000 in
set_option maxHeartbeats 4000000 in
theorem rulesSigns_law (p : Lf) (hN : Nm w) (hT : Tx w) :
    Calls Tryd.prog 4 #[aggF p] w fun e w' => e = .returned (.bool true) ∧ Below w.heap.size w w' := by
  obtain ⟨k, s, f, t⟩ := p
  have HSG := fun (hs : s.size ≤ 60) W (hW : Tx W) => sign_any W ⟨k, s, f, t⟩ (by show s.size ≤ 1000000; omega) hW
  have HRF := fun (hs : s.size ≤ 60) W => refsign_any W ⟨k, s, f, t⟩ (by show s.size ≤ 100; omega)
  unfold aggF at HSG HRF ⊢
  simp only at HSG HRF ⊢
  have kB := Blk.new w #[.int .i64 k, .string s, .int .i64 f, .int .i64 t] 35
  have hB := (show Below w.heap.size w (w.alloc (.cells #[.int .i64 k, .string s, .int .i64 f, .int .i64 t] 35)) from (Below.refl _ w).alloc (Nat.le_refl _) _)
  have HAW := Lib.hid (awake_any _ (hN.b hB) (hT.b hB))
  have HT := Lib.hid (hT.b hB)
  have HB := Lib.hid hB
  have HK := Lib.hid kB
  obtain ⟨W1, hW1⟩ : ∃ X, w.alloc (.cells #[.int .i64 k, .string s, .int .i64 f, .int .i64 t] 35) = X := ⟨_, rfl⟩
  obtain ⟨lb, hlb⟩ : ∃ lb, w.heap.size = lb := ⟨_, rfl⟩
  have HLB := Lib.hid hlb
  rw [hW1] at HAW HT HB HK
  rw [hlb] at HK HB ⊢
  clear kB hB hT hN
  go_enter Tryd.func4, Tryd.ntmps4
  go_wp2_with fail
  clear hW1 hlb
  refine HAW.out.mono ?_
  rintro e w2 ⟨rfl, hb2⟩
  obtain ⟨c0, c1, c2, c3⟩ := (show _ ∧ _ ∧ _ ∧ _ from ⟨(HK.out.below hb2).cell 0, (HK.out.below hb2).cell 1, (HK.out.below hb2).cell 2, (HK.out.below hb2).cell 3⟩)
  simp only [List.getElem?_toArray, List.getElem?_cons_zero, List.getElem?_cons_succ] at c0 c1 c2 c3
  have HB2 := Lib.hid hb2
  by_cases hs : s.size ≤ 60
  · have d1 : decide ((60 : Int) < (s.size : Int)) = false := by simp; omega
    have d2 : ¬ (60 : Int) < (s.size : Int) := by omega
    have HS := Lib.hid (HSG hs)
    have HR := Lib.hid (HRF hs)
    clear HSG HRF hs
    go_upto_region 5 with fail
    have HSS := Lib.hid (fun W (hW : Below w2.heap.size w2 W) => (show W.cell? ⟨lb, 0, none⟩ = some (.int .i64 k) ∧ W.cell? ⟨lb, 1, none⟩ = some (.string s) ∧ W.cell? ⟨lb, 2, none⟩ = some (.int .i64 f) ∧ W.cell? ⟨lb, 3, none⟩ = some (.int .i64 t) from by
      have b := (HK.out.below HB2.out).below hW
      exact ⟨b.cell 0, b.cell 1, b.cell 2, b.cell 3⟩))
    have HS2 := Lib.hid (fun W (hW : Below w2.heap.size w2 W) => (HS.out W ((HT.out.b HB2.out).b hW)).mono (fun r w' (h : _ ∧ _) => (⟨h.1, hW.trans (h.2.mono hW.size)⟩ : r = _ ∧ Below w2.heap.size w2 w')))
    have HR2 := Lib.hid (fun W (hW : Below w2.heap.size w2 W) => (HR.out W).mono (fun r w' (h : _ ∧ _) => (⟨h.1, hW.trans (h.2.mono hW.size), h.2⟩ : r = _ ∧ Below w2.heap.size w2 w' ∧ Below W.heap.size W w')))
    have hconv : ∀ (W : World) (g : Nat), W.cell? ⟨g, 0, none⟩ = some (.int .u8 ((sgn k s : Nat) : Int)) → (convert 37 9 (.slice (some ⟨g, 0, none⟩) 1 1)).run Tryd.prog W = .ok (.string (sgB k s)) W := fun W g h => by
      have h1 := sgn_lt k s
      exact run_convert_bytes_back (P := Tryd.prog) W 37 9 5 ⟨g, 0, none⟩ 1 [(sgn k s).toUInt8] Tryd.underlying37 Tryd.underlying5 Tryd.underlying9 (fun j hj => by
        obtain rfl : j = 0 := by simpa using hj
        rw [Addr.add_lit, Nat.zero_add, h]
        have e : ((sgn k s).toUInt8.toNat : Nat) = sgn k s := by simp [Nat.mod_eq_of_lt h1]
        show _ = some (Value.int .u8 (((sgn k s).toUInt8.toNat : Nat) : Int))
        rw [e])
    have tt : ((sgB k s).toList == (sgB k s).toList) = true := by rw [bs_eqb]; exact decide_eq_true rfl
    clear c0 c1 c2 c3 hb2 HS HR
    obtain ⟨y0, y1, y2, y3⟩ := HSS.out _ ((Below.refl _ w2).drew)
    go_region_with (first
      | (go_at_call 17; refine (HS2.out _ ?_).mono ?_; (first | assumption | exact (Below.refl _ _).drew); rintro e w3 ⟨rfl, hb3⟩; obtain ⟨z0, z1, z2, z3⟩ := HSS.out _ hb3; obtain ⟨a0, a1, a2, a3⟩ := HSS.out _ (hb3.alloc hb3.size (.cells #[.int .u8 ((sgn k s : Nat) : Int)] 5)))
      | (go_at_call 18; refine (HR2.out _ ?_).mono ?_; (first | assumption | exact (Below.refl _ _).drew | exact hb3.alloc hb3.size _); rintro e w4 ⟨rfl, hb4, hb4'⟩; obtain ⟨x0, x1, x2, x3⟩ := HSS.out _ hb4; (try (have hc4 := (hb4'.cell (p := ⟨w3.heap.size, 0, none⟩) (by simp)).trans (show _ = some (Value.int .u8 ((sgn k s : Nat) : Int)) by simp)))))
    all_goals
      go_wp2
      go_ret
      refine ⟨rfl, HB.out.trans (Below.mono (HB2.out.trans (Below.mono (by first | exact hb4 | exact hb4.alloc hb4.size _ | exact hb3.alloc hb3.size _ | exact hb3) HB2.out.size)) (by have := HB.out.size; have := HLB.out; omega))⟩
  · have d1 : decide ((60 : Int) < (s.size : Int)) = true := by simp; omega
    have d2 : (60 : Int) < (s.size : Int) := by omega
    clear HSG HRF hs
    go_wp2
    go_ret
    exact ⟨rfl, HB.out.trans (HB2.out.mono (by have := HB.out.size; have := HLB.out; omega))⟩
end
end Go.Proofs.YtmjckjbdkffkoaaDoor

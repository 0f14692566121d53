/- What SameTree of the law, and the library's Clone, Grow and Concat at nodes return. Condition: at most a hundred thousand nodes in all. -/
import Derived.Test.YtppipngdakfbpaaTrA
import Derived.Lib.AppendZerosOnto
import Derived.Lib.SliceRun
import Derived.Laws.StructEq
namespace Go.Proofs.Ytppipngdakfbpaa
open Go.RowKit
set_option linter.unusedVariables false

theorem eq_node (a b c d a' b' c' d' : Int) (w : World) : (Op.equalIn 10000 30 (.agg #[.int .i64 a, .int .i64 b, .int .i64 c, .int .i64 d]) (.agg #[.int .i64 a', .int .i64 b', .int .i64 c', .int .i64 d'])).run Try.prog w = .ok (a == a' && (b == b' && (c == c' && d == d'))) w := by
  have u3 := Try.underlying3
  have a3 := Try.isAgg3
  have z3 := Try.sizeOf3
  have hS : Try.prog.underlying 30 = some (.struct (Try.prog.fieldsOf 30)) := by kernel_rfl
  rw [show (10000 : Nat) = 9999 + 1 from rfl, run_equalIn_agg w 9999 30 _ _ hS (by kernel_rfl)]
  simp only [Program.fieldsOf, Try.underlying30]
  go_simp
  by_cases h1 : a = a' <;> by_cases h2 : b = b' <;> by_cases h3 : c = c' <;> by_cases h4 : d = d' <;> simp [h1, h2, h3, h4]
theorem neq_node (a b c d : Int) (w : World) : (binOp .neq 30 (.agg #[.int .i64 a, .int .i64 b, .int .i64 c, .int .i64 d]) (.agg #[.int .i64 a, .int .i64 b, .int .i64 c, .int .i64 d])).run Try.prog w = .ok (.bool false) w := by
  rw [run_neq_struct, eq_node]
  simp [Result.andThen]

section
variable (w : World)
theorem clone_none (n c : Nat) :
    Calls Try.prog 30 #[.slice none n c] w fun e w' => e = .returned (.slice none 0 0) ∧ w' = w := by
  have heq := Lib.run_eql_slice_nil (P := Try.prog) w 22 30 none n c 0 0 Try.underlying22
  go_enter Try.func30, Try.ntmps30
  go_wp2
  go_ret
  exact ⟨rfl, rfl⟩
set_option maxHeartbeats 1000000 in
theorem clone_some (b off n c : Nat) (L : List Nd) (hsrc : Src w (.slice (some ⟨b, off, none⟩) n c) n (cellsN L)) (hn : n = L.length) (hl : n ≤ 100000) :
    Calls Try.prog 30 #[.slice (some ⟨b, off, none⟩) n c] w fun e w' => (∃ oa oc, e = .returned (.slice oa n oc) ∧ w'.ownsRow w.heap.size 30 4 (.slice oa n oc) n (cellsN L)) ∧ Below w.heap.size w w' := by
  have heq := Lib.run_eql_slice_nil (P := Try.prog) w 22 30 (some ⟨b, off, none⟩) n c 0 0 Try.underlying22
  have HS := Lib.hid hsrc
  have HN := Lib.hid hn
  clear hsrc hn
  go_enter Try.func30, Try.ntmps30
  go_wp2_with (at_builtin; refine wpl_app_gen (by rfl) _ _ 22 30 4 32 _ (by rfl) Try.underlying22 infoN rfl (by omega) (by omega) w.heap.size (.slice (some ⟨w.heap.size, 0, none⟩) 0 0) 0 [] (by rfl) ⟨rfl, .inr ⟨w.heap.size, 0, _, rfl, Nat.le_refl _, Blk.new w _ _, Nat.le_refl _, by unfold maxLen; omega, rfl, rfl⟩⟩ (.slice (some ⟨b, off, none⟩) n c) n (cellsN L) (by rfl) (HS.out.below ((Below.refl _ _).alloc (Nat.le_refl _) _)) (by rw [cellsN_length, HN.out]) (cellsN_one L) (by omega) (by simp) n (by omega) ?_; intro oa oc w1 hown hgr hg)
  go_ret
  rw [List.nil_append] at hown
  exact ⟨⟨oa, oc, rfl, hown⟩, ((Below.refl w.heap.size w).alloc (Nat.le_refl _) (.cells #[] 30)).grown hgr (by simp) (fun k hk => by simp [Value.ownBlock] at hk; omega)⟩

theorem wp_app_as {o : Oper} {a : Act} {w : World} {K : Act → World → Prop} {Q : Exit → Act → World → Prop} (s x : Operand) (t e : TypeId) (v0 v1 r : Value) (w1 : World)
    (ho : o.op = .call { callee := .builtin .append, args := #[s, x], argTypes := #[t, e] }) (hs : a.eval s = v0) (hx : a.eval x = v1)
    (hr : (Builtin.append_ #[t, e] o.type #[v0, v1]).run Try.prog w = .ok r w1) (h : K (a.put o.dst r) w1) : o.wp Try.prog a w K Q := by
  unfold Oper.wp execOp
  simp only [ho, resolve, invoke, builtin, Sem.run_bind, Sem.run_pure, Result.andThen_ok, List.map_toArray, List.map_cons, List.map_nil, hs, hx, hr]
  exact h
theorem wpl_app_as {ops : Array Oper} {rest : List Oper} {o : Oper} {a : Act} {w : World} {Q : Exit → Act → World → Prop} (hgd : o.guard = none) (s x : Operand) (t e : TypeId) (v0 v1 r : Value) (w1 : World)
    (ho : o.op = .call { callee := .builtin .append, args := #[s, x], argTypes := #[t, e] }) (hs : a.eval s = v0) (hx : a.eval x = v1)
    (hr : (Builtin.append_ #[t, e] o.type #[v0, v1]).run Try.prog w = .ok r w1) (h : wpList Try.prog ops Q rest (a.put o.dst r) w1) : wpList Try.prog ops Q (o :: rest) a w :=
  wpList_plain hgd fun _ hK => wp_app_as s x t e v0 v1 r w1 ho hs hx hr (hK _ _ h)
theorem zero_size (z : Array Value) (n : Nat) : (Builtin.zeroCells z n).size = n * z.size := by simp [Builtin.zeroCells]
set_option maxRecDepth 100000 in
set_option maxHeartbeats 2000000 in
theorem grow_nil (n : Nat) (h0 : 0 < n) (hl : n ≤ 100000) :
    Calls Try.prog 38 #[.slice none 0 0, .int .i64 (n : Int)] w fun e w' => (∃ oa oc, e = .returned (.slice oa 0 oc) ∧ w'.ownsRow w.heap.size 30 4 (.slice oa 0 oc) 0 []) ∧ Below w.heap.size w w' := by
  obtain ⟨i0, hi, hz0, hz1, hz2⟩ := info_parts infoN
  have h := fun ty => Lib.run_append_grow_zeros w 22 3 ty 30 i0 _ .i64 .i64 Try.underlying22 Try.underlying3 hi hz0 none 0 0 [] (run_firstCells_none w.drew i0.size 0 0 0) n h0 (by omega) (by omega) (by omega) (by rw [hz2]; omega) (growslice_fits (by omega) (by rw [hz2]; omega))
  have hg1 : n ≤ grownCap w (0 + n) 0 30 := by have := grownCap_ge w (0 + n) 0 30; omega
  have hg2 : grownCap w (0 + n) 0 30 ≤ maxLen := grownCap_le_maxLen w _ _ _ (by unfold maxLen; omega)
  rw [Nat.zero_add] at h hg1 hg2
  obtain ⟨G, hG⟩ : ∃ G, grownCap w n 0 30 = G := ⟨_, rfl⟩
  rw [hG] at h hg1 hg2
  obtain ⟨CS, hCS⟩ : ∃ CS, ([] : List Value).toArray ++ Builtin.zeroCells (Value.agg #[.int .i64 0, .int .i64 0, .int .i64 0, .int .i64 0]).cells n ++ Builtin.zeroCells (Value.agg #[.int .i64 0, .int .i64 0, .int .i64 0, .int .i64 0]).cells (G - n) = CS := ⟨_, rfl⟩
  have hsz : CS.size = G * 4 := by
    rw [← hCS]
    simp only [Array.size_append, zero_size]
    show 0 + n * 4 + (G - n) * 4 = G * 4
    omega
  have h' : ∀ ty, (Builtin.append_ #[22, 3] ty #[.slice none 0 0, .int .i64 (n : Int)]).run Try.prog w = .ok (.slice (some ⟨w.heap.size, 0, none⟩) n G) (w.drew.alloc (.cells CS 30)) := fun ty => by rw [h ty, hCS]
  have hGm : (G : Int) ≤ 9223372036854775807 := by unfold maxLen at hg2; omega
  have hnG : ¬ (G : Int) < 0 := by omega
  have HSZ := Lib.hid hsz
  have HG2 := Lib.hid hg2
  clear h hCS hz0 hz1 hz2 hi hG hsz hg2
  go_enter Try.func38, Try.ntmps38
  have H' := Lib.hid h'
  clear h'
  go_wp2_with (at_builtin; refine wpl_app_as (by rfl) _ _ 22 3 _ _ _ _ (by rfl) (by rfl) (by rfl) (H'.out _) ?_)
  go_ret
  exact ⟨⟨_, _, rfl, ⟨rfl, .inr ⟨w.heap.size, G, CS, rfl, Nat.le_refl _, Blk.new w.drew _ _, Nat.zero_le _, HG2.out, HSZ.out, rfl⟩⟩⟩, ((Below.refl _ _).drew).alloc (Nat.le_refl _) _⟩

set_option maxHeartbeats 2000000 in
theorem same_yes (ao bo : Option Addr) (n ac bc : Nat) (nv : Nat → Nd) (ha : NRow w ao n nv) (hb : NRow w bo n nv) (hl : n ≤ 1000000) :
    Calls Try.prog 22 #[.slice ao n ac, .slice bo n bc] w fun e w' => e = .returned (.bool true) ∧ Below w.heap.size w w' := by
  have HA := Lib.hid ha
  have HB := Lib.hid hb
  clear ha hb
  go_enter Try.func22, Try.ntmps22
  go_wp2
  go_loopw [5] (fun v5 wr => (∃ k : Nat, v5 = .int .i64 (k : Int) ∧ k ≤ n) ∧ Below w.heap.size w wr) (fun v5 _ => n - (intOf v5).toNat)
  case atStart => exact ⟨⟨0, rfl, Nat.zero_le _⟩, Below.refl _ _⟩
  case round =>
    obtain ⟨⟨k, rfl, hk⟩, hW⟩ := hrel
    have HW := Lib.hid hW
    clear hW
    by_cases hlt : (k : Int) < (n : Int)
    · have hlt' : k < n := by omega
      obtain ⟨b1, o1, rfl, hb1, c0, c1, c2, c3⟩ := (HA.out.below HW.out) k hlt'
      obtain ⟨b2, o2, rfl, hb2, d0, d1, d2, d3⟩ := (HB.out.below HW.out) k hlt'
      obtain ⟨P, hP⟩ : ∃ P, nv k = P := ⟨_, rfl⟩
      rw [hP] at c0 c1 c2 c3 d0 d1 d2 d3
      obtain ⟨pk, pf, pt, pu⟩ := P
      simp only at c0 c1 c2 c3 d0 d1 d2 d3
      have hnq := neq_node pk pf pt pu
      have q0 : (0 : Int) ≤ (k : Int) := by omega
      clear hP
      go_wp2
      go_quiet (fail)
      go_wp2
      go_roundw
      case rel => exact ⟨⟨k + 1, by go_num, by omega⟩, belN HW.out _⟩
      case measure => simp [intOf]; omega
    · obtain rfl : k = n := by omega
      go_wp2
      go_ret
      exact ⟨rfl, HW.out⟩
end
end Go.Proofs.Ytppipngdakfbpaa

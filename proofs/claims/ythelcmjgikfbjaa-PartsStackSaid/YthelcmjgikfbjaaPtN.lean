/- What numbers, Around and Kids of layer 7 (parts) return: the numbers of the parts that are as asked. Condition: at most a million parts, of whatever numbers. -/
import Derived.Test.YthelcmjgikfbjaaPtLa
namespace Go.Proofs.Ythelcmjgikfbjaa
open Go.RowKit
set_option linter.unusedVariables false

/-- A part of whatever numbers. -/
structure PVal where
  m : Int
  f : Int
  t : Int
  up : Int
  op : Bool
def aggV (p : PVal) : Value := .agg #[.int .i64 p.m, .int .i64 p.f, .int .i64 p.t, .int .i64 p.up, .bool p.op]
/-- So many parts can be read in a row. -/
def PRow (w : World) (ao : Option Addr) (len : Nat) (pv : Nat → PVal) : Prop :=
  ∀ i, i < len → ∃ b off, ao = some ⟨b, off, none⟩ ∧ b < w.heap.size ∧ w.cell? ⟨b, off + i * 5, none⟩ = some (.int .i64 (pv i).m) ∧ w.cell? ⟨b, off + i * 5 + 1, none⟩ = some (.int .i64 (pv i).f) ∧ w.cell? ⟨b, off + i * 5 + 2, none⟩ = some (.int .i64 (pv i).t) ∧ w.cell? ⟨b, off + i * 5 + 3, none⟩ = some (.int .i64 (pv i).up) ∧ w.cell? ⟨b, off + i * 5 + 4, none⟩ = some (.bool (pv i).op)
theorem PRow.below {w w' : World} {ao : Option Addr} {len : Nat} {pv : Nat → PVal} (h : PRow w ao len pv) (hb : Below w.heap.size w w') : PRow w' ao len pv := fun i hi => by
  obtain ⟨b, off, h1, h2, c0, c1, c2, c3, c4⟩ := h i hi
  have hc : ∀ o, w'.cell? ⟨b, o, none⟩ = w.cell? ⟨b, o, none⟩ := fun o => hb.cell (p := ⟨b, o, none⟩) h2
  exact ⟨b, off, h1, Nat.lt_of_lt_of_le h2 hb.size, (hc _).trans c0, (hc _).trans c1, (hc _).trans c2, (hc _).trans c3, (hc _).trans c4⟩
/-- The numbers ahead of k that are as asked. -/
def sel (q : PVal → Bool) (pv : Nat → PVal) (k : Nat) : List Nat := (List.range k).filter fun i => q (pv i)
theorem sel_succ (q : PVal → Bool) (pv : Nat → PVal) (k : Nat) : sel q pv (k + 1) = sel q pv k ++ if q (pv k) = true then [k] else [] := by
  unfold sel
  rw [List.range_succ, List.filter_append]
  congr 1
  simp [List.filter_cons]
theorem sel_len (q : PVal → Bool) (pv : Nat → PVal) (k : Nat) : (sel q pv k).length ≤ k := by
  have := List.length_filter_le (fun i => q (pv i)) (List.range k)
  rw [List.length_range] at this
  exact this
theorem sel_at {q : PVal → Bool} {pv : Nat → PVal} {i : Nat} (hq : q (pv i) = true) : ∀ {k : Nat}, i < k → (sel q pv k)[(sel q pv i).length]? = some i
  | 0, h => by omega
  | k + 1, h => by
    rw [sel_succ]
    by_cases e : i = k
    · subst e
      rw [if_pos hq]
      simp
    · have h1 := sel_at hq (k := k) (by omega)
      rw [List.getElem?_append_left (List.getElem?_eq_some_iff.1 h1).1]
      exact h1
/-- Is a part around a place? -/
def aroundB (a : Int) (p : PVal) : Bool := decide (p.f < a ∧ (a < p.t ∨ (p.op = true ∧ a = p.t)))
def kidB (u : Int) (p : PVal) : Bool := decide (p.up = u)
theorem infoI : (Try.prog.info? 3).map (fun i => (i.zero, i.size, i.bytes)) = some (some (.int .i64 0), 1, 8) := by kernel_rfl

section
variable (w : World)
set_option maxHeartbeats 4000000 in
theorem around1_any (a : Int) (bx : Nat) (p : PVal) (hc : w.cell? ⟨bx, 0, none⟩ = some (.int .i64 a)) (hbl : bx < w.heap.size) :
    Calls Try.prog 36 #[aggV p, .pointer (some ⟨bx, 0, none⟩)] w fun e w' => e = .returned (.bool (aroundB a p)) ∧ Below w.heap.size w w' := by
  obtain ⟨x, hx⟩ : ∃ x, aroundB a p = x := ⟨_, rfl⟩
  rw [hx]
  obtain ⟨m, f, t, up, op⟩ := p
  unfold aroundB at hx
  unfold aggV
  simp only at hx ⊢
  have HX := Lib.hid hx
  clear hx
  go_enter Try.func36, Try.ntmps36
  cases op
  all_goals
    go_wp2
    all_goals
      go_ret
      refine ⟨ret_bool ?_, (Below.refl _ _).alloc (Nat.le_refl _) _⟩
      rw [← HX.out, Bool.eq_iff_iff]
      simp
      try omega
set_option maxHeartbeats 2000000 in
theorem kids1_any (a : Int) (bx : Nat) (p : PVal) (hc : w.cell? ⟨bx, 0, none⟩ = some (.int .i64 a)) (hbl : bx < w.heap.size) :
    Calls Try.prog 37 #[aggV p, .pointer (some ⟨bx, 0, none⟩)] w fun e w' => e = .returned (.bool (kidB a p)) ∧ Below w.heap.size w w' := by
  obtain ⟨m, f, t, up, op⟩ := p
  unfold aggV kidB
  simp only
  go_enter Try.func37, Try.ntmps37
  go_wp2
  go_ret
  refine ⟨ret_bool ?_, (Below.refl _ _).alloc (Nat.le_refl _) _⟩
  rw [Bool.eq_iff_iff, decide_eq_true_iff, beq_iff_eq]

def NuRl (q : PVal → Bool) (pv : Nat → PVal) (len : Nat) (w : World) (v5 v10 : Value) (wr : World) : Prop :=
  ∃ i : Nat, i ≤ len ∧ v10 = .int .i64 (i : Int) ∧ wr.ownsRow w.heap.size 3 1 v5 (sel q pv i).length (cellsO (sel q pv i)) ∧ Below w.heap.size w wr
set_option maxHeartbeats 4000000 in
theorem numbersA_any (a : Int) (bx : Nat) (ao : Option Addr) (len cap : Nat) (pv : Nat → PVal) (hrow : PRow w ao len pv) (hlen : len ≤ 1000000) (hc : w.cell? ⟨bx, 0, none⟩ = some (.int .i64 a)) (hbl : bx < w.heap.size) :
    Calls Try.prog 35 #[.slice ao len cap, .func (.func 36) #[] #[.pointer (some ⟨bx, 0, none⟩)]] w fun e w' => ∃ v, e = .returned v ∧ w'.ownsRow w.heap.size 3 1 v (sel (aroundB a) pv len).length (cellsO (sel (aroundB a) pv len)) ∧ Below w.heap.size w w' := by
  obtain ⟨i0, hi, hz0, hz1, hz2⟩ := info_parts infoI
  have HROW := Lib.hid hrow
  have hCW := Lib.hid (fun W (h : Below w.heap.size w W) => (h.cell (p := ⟨bx, 0, none⟩) hbl).trans hc)
  clear hrow hc
  go_enter Try.func35, Try.ntmps35
  go_wp2
  go_loopw [5, 10] (fun v5 v10 wr => NuRl (aroundB a) pv len w v5 v10 wr) (fun _ v _ => len - (intOf v).toNat)
  case atStart => exact ⟨0, Nat.zero_le _, rfl, World.ownsRow_nil _ _ _ _, Below.refl _ _⟩
  case round =>
    obtain ⟨i, hil, rfl, hown, hB⟩ := hrel
    have hsz := hB.size
    by_cases hlt : (i : Int) < (len : Int)
    · have hlt' : i < len := by omega
      have q0 : (0 : Int) ≤ (i : Int) := by omega
      obtain ⟨b, off, rfl, hbw, c0, c1, c2, c3, c4⟩ := (HROW.out.below hB) i hlt'
      have hsu := sel_succ (aroundB a) pv i
      have hsl := sel_len (aroundB a) pv i
      obtain ⟨p, hp⟩ : ∃ p, pv i = p := ⟨_, rfl⟩
      rw [hp] at c0 c1 c2 c3 c4 hsu
      have hca := fun W (h : Below w.heap.size w W) (h2 : bx < W.heap.size) => around1_any W a bx p (hCW.out W h) h2
      obtain ⟨x, hx⟩ : ∃ x, (aroundB a) p = x := ⟨_, rfl⟩
      rw [hx] at hca hsu
      obtain ⟨m, f, t, up, op⟩ := p
      unfold aggV at hca
      simp only at c0 c1 c2 c3 c4 hca
      have HCA := Lib.hid hca
      have HSU := Lib.hid hsu
      have HOWN := Lib.hid hown
      have hB1 := hB.alloc hsz (.cells #[.int .i64 m, .int .i64 f, .int .i64 t, .int .i64 up, .bool op] 27)
      have hs1 : (wr.alloc (.cells #[.int .i64 m, .int .i64 f, .int .i64 t, .int .i64 up, .bool op] 27)).heap.size = wr.heap.size + 1 := World.size_alloc _ _
      have hbx2 : bx < (wr.alloc (.cells #[.int .i64 m, .int .i64 f, .int .i64 t, .int .i64 up, .bool op] 27)).heap.size := by omega
      have HBX2 := Lib.hid hbx2
      have HB1 := Lib.hid hB1
      have HS1 := Lib.hid hs1
      have HB := Lib.hid hB
      clear hca hsu hown hp hx hbx2 hB1 hs1 hB
      cases x
      · go_wp2_with fail
        refine (HCA.out _ HB1.out HBX2.out).mono ?_
        rintro e w3 ⟨rfl, hb3⟩
        go_wp2
        go_roundw
        case rel =>
          have hB3 := HB1.out.trans (hb3.mono HB1.out.size)
          refine ⟨i + 1, by omega, by go_num, ?_, hB3⟩
          rw [HSU.out, if_neg (by simp), List.append_nil]
          exact own_below HOWN.out (((Below.refl wr.heap.size wr).alloc (Nat.le_refl _) _).trans (hb3.mono (by have := HS1.out; omega)))
        case measure => simp [intOf]; omega
      · go_wp2_with fail
        refine (HCA.out _ HB1.out HBX2.out).mono ?_
        rintro e w3 ⟨rfl, hb3⟩
        have hB3 := HB1.out.trans (hb3.mono HB1.out.size)
        have hO3 := own_below HOWN.out (((Below.refl wr.heap.size wr).alloc (Nat.le_refl _) (.cells #[.int .i64 m, .int .i64 f, .int .i64 t, .int .i64 up, .bool op] 27)).trans (hb3.mono (by have := HS1.out; omega)))
        have HB3 := Lib.hid hB3
        clear hB3
        go_wp2_with (at_builtin; refine wpList_append_own _ rfl _ _ 30 rfl w.heap.size 3 i0 (.int .i64 0) 1 8 Try.underlying30 hi hz0 hz1 hz2 rfl (by decide) _ _ _ rfl (hO3.alloc _) ⟨w3.heap.size, 0, none⟩ 1 1 [.int .i64 (i : Int)] rfl rfl (cell_one_new _ _ _) (by simp [Value.oneCell']) (by unfold maxLen; omega) (by omega) (by have := HB3.out.size; rw [World.size_alloc]; omega) ?_; intro v' w4 hown4 hgr4 _)
        go_roundw
        case rel =>
          refine ⟨i + 1, by omega, by go_num, ?_, (HB3.out.alloc HB3.out.size _).grown hgr4 (by have := HB3.out.size; rw [World.size_alloc]; omega) (own_ge hO3)⟩
          rw [show sel (aroundB a) pv (i + 1) = sel (aroundB a) pv i ++ [i] by have := HSU.out; simpa using this]
          have e : cellsO (sel (aroundB a) pv i ++ [i]) = cellsO (sel (aroundB a) pv i) ++ [.int .i64 (i : Int)] := by simp [cellsO]
          rw [e, List.length_append]
          exact hown4
        case measure => simp [intOf]; omega
    · obtain rfl : len = i := by omega
      have HOWN := Lib.hid hown
      clear hown
      go_wp2
      go_ret
      exact ⟨_, rfl, HOWN.out, hB⟩
set_option maxHeartbeats 1000000 in
theorem around_any (a : Int) (ao : Option Addr) (len cap : Nat) (pv : Nat → PVal) (hrow : PRow w ao len pv) (hlen : len ≤ 1000000) :
    Calls Try.prog 17 #[.slice ao len cap, .int .i64 a] w fun e w' => ∃ v, e = .returned v ∧ w'.ownsRow w.heap.size 3 1 v (sel (aroundB a) pv len).length (cellsO (sel (aroundB a) pv len)) ∧ Below w.heap.size w w' := by
  have hW : Below w.heap.size w (w.alloc (.cells #[.int .i64 a] 3)) := (Below.refl _ _).alloc (Nat.le_refl _) _
  have hc : (w.alloc (.cells #[.int .i64 a] 3)).cell? ⟨w.heap.size, 0, none⟩ = some (.int .i64 a) := (Blk.new w _ _).cell 0
  have HN := Lib.hid (numbersA_any (w.alloc (.cells #[.int .i64 a] 3)) a w.heap.size ao len cap pv (hrow.below hW) hlen hc (by rw [World.size_alloc]; omega))
  clear hc hrow
  go_enter Try.func17, Try.ntmps17
  go_wp2_with fail
  refine HN.out.mono ?_
  rintro e w1 ⟨v, rfl, hown, hB⟩
  have hsz : (w.alloc (.cells #[.int .i64 a] 3)).heap.size = w.heap.size + 1 := World.size_alloc _ _
  go_wp2
  go_ret
  exact ⟨v, rfl, owns_base hown (fun k hk => by have := own_ge hown k hk; omega), hW.trans (hB.mono (by omega))⟩
set_option maxHeartbeats 4000000 in
theorem numbersK_any (a : Int) (bx : Nat) (ao : Option Addr) (len cap : Nat) (pv : Nat → PVal) (hrow : PRow w ao len pv) (hlen : len ≤ 1000000) (hc : w.cell? ⟨bx, 0, none⟩ = some (.int .i64 a)) (hbl : bx < w.heap.size) :
    Calls Try.prog 35 #[.slice ao len cap, .func (.func 37) #[] #[.pointer (some ⟨bx, 0, none⟩)]] w fun e w' => ∃ v, e = .returned v ∧ w'.ownsRow w.heap.size 3 1 v (sel (kidB a) pv len).length (cellsO (sel (kidB a) pv len)) ∧ Below w.heap.size w w' := by
  obtain ⟨i0, hi, hz0, hz1, hz2⟩ := info_parts infoI
  have HROW := Lib.hid hrow
  have hCW := Lib.hid (fun W (h : Below w.heap.size w W) => (h.cell (p := ⟨bx, 0, none⟩) hbl).trans hc)
  clear hrow hc
  go_enter Try.func35, Try.ntmps35
  go_wp2
  go_loopw [5, 10] (fun v5 v10 wr => NuRl (kidB a) pv len w v5 v10 wr) (fun _ v _ => len - (intOf v).toNat)
  case atStart => exact ⟨0, Nat.zero_le _, rfl, World.ownsRow_nil _ _ _ _, Below.refl _ _⟩
  case round =>
    obtain ⟨i, hil, rfl, hown, hB⟩ := hrel
    have hsz := hB.size
    by_cases hlt : (i : Int) < (len : Int)
    · have hlt' : i < len := by omega
      have q0 : (0 : Int) ≤ (i : Int) := by omega
      obtain ⟨b, off, rfl, hbw, c0, c1, c2, c3, c4⟩ := (HROW.out.below hB) i hlt'
      have hsu := sel_succ (kidB a) pv i
      have hsl := sel_len (kidB a) pv i
      obtain ⟨p, hp⟩ : ∃ p, pv i = p := ⟨_, rfl⟩
      rw [hp] at c0 c1 c2 c3 c4 hsu
      have hca := fun W (h : Below w.heap.size w W) (h2 : bx < W.heap.size) => kids1_any W a bx p (hCW.out W h) h2
      obtain ⟨x, hx⟩ : ∃ x, (kidB a) p = x := ⟨_, rfl⟩
      rw [hx] at hca hsu
      obtain ⟨m, f, t, up, op⟩ := p
      unfold aggV at hca
      simp only at c0 c1 c2 c3 c4 hca
      have HCA := Lib.hid hca
      have HSU := Lib.hid hsu
      have HOWN := Lib.hid hown
      have hB1 := hB.alloc hsz (.cells #[.int .i64 m, .int .i64 f, .int .i64 t, .int .i64 up, .bool op] 27)
      have hs1 : (wr.alloc (.cells #[.int .i64 m, .int .i64 f, .int .i64 t, .int .i64 up, .bool op] 27)).heap.size = wr.heap.size + 1 := World.size_alloc _ _
      have hbx2 : bx < (wr.alloc (.cells #[.int .i64 m, .int .i64 f, .int .i64 t, .int .i64 up, .bool op] 27)).heap.size := by omega
      have HBX2 := Lib.hid hbx2
      have HB1 := Lib.hid hB1
      have HS1 := Lib.hid hs1
      have HB := Lib.hid hB
      clear hca hsu hown hp hx hbx2 hB1 hs1 hB
      cases x
      · go_wp2_with fail
        refine (HCA.out _ HB1.out HBX2.out).mono ?_
        rintro e w3 ⟨rfl, hb3⟩
        go_wp2
        go_roundw
        case rel =>
          have hB3 := HB1.out.trans (hb3.mono HB1.out.size)
          refine ⟨i + 1, by omega, by go_num, ?_, hB3⟩
          rw [HSU.out, if_neg (by simp), List.append_nil]
          exact own_below HOWN.out (((Below.refl wr.heap.size wr).alloc (Nat.le_refl _) _).trans (hb3.mono (by have := HS1.out; omega)))
        case measure => simp [intOf]; omega
      · go_wp2_with fail
        refine (HCA.out _ HB1.out HBX2.out).mono ?_
        rintro e w3 ⟨rfl, hb3⟩
        have hB3 := HB1.out.trans (hb3.mono HB1.out.size)
        have hO3 := own_below HOWN.out (((Below.refl wr.heap.size wr).alloc (Nat.le_refl _) (.cells #[.int .i64 m, .int .i64 f, .int .i64 t, .int .i64 up, .bool op] 27)).trans (hb3.mono (by have := HS1.out; omega)))
        have HB3 := Lib.hid hB3
        clear hB3
        go_wp2_with (at_builtin; refine wpList_append_own _ rfl _ _ 30 rfl w.heap.size 3 i0 (.int .i64 0) 1 8 Try.underlying30 hi hz0 hz1 hz2 rfl (by decide) _ _ _ rfl (hO3.alloc _) ⟨w3.heap.size, 0, none⟩ 1 1 [.int .i64 (i : Int)] rfl rfl (cell_one_new _ _ _) (by simp [Value.oneCell']) (by unfold maxLen; omega) (by omega) (by have := HB3.out.size; rw [World.size_alloc]; omega) ?_; intro v' w4 hown4 hgr4 _)
        go_roundw
        case rel =>
          refine ⟨i + 1, by omega, by go_num, ?_, (HB3.out.alloc HB3.out.size _).grown hgr4 (by have := HB3.out.size; rw [World.size_alloc]; omega) (own_ge hO3)⟩
          rw [show sel (kidB a) pv (i + 1) = sel (kidB a) pv i ++ [i] by have := HSU.out; simpa using this]
          have e : cellsO (sel (kidB a) pv i ++ [i]) = cellsO (sel (kidB a) pv i) ++ [.int .i64 (i : Int)] := by simp [cellsO]
          rw [e, List.length_append]
          exact hown4
        case measure => simp [intOf]; omega
    · obtain rfl : len = i := by omega
      have HOWN := Lib.hid hown
      clear hown
      go_wp2
      go_ret
      exact ⟨_, rfl, HOWN.out, hB⟩
set_option maxHeartbeats 1000000 in
theorem kids_any (a : Int) (ao : Option Addr) (len cap : Nat) (pv : Nat → PVal) (hrow : PRow w ao len pv) (hlen : len ≤ 1000000) :
    Calls Try.prog 18 #[.slice ao len cap, .int .i64 a] w fun e w' => ∃ v, e = .returned v ∧ w'.ownsRow w.heap.size 3 1 v (sel (kidB a) pv len).length (cellsO (sel (kidB a) pv len)) ∧ Below w.heap.size w w' := by
  have hW : Below w.heap.size w (w.alloc (.cells #[.int .i64 a] 3)) := (Below.refl _ _).alloc (Nat.le_refl _) _
  have hc : (w.alloc (.cells #[.int .i64 a] 3)).cell? ⟨w.heap.size, 0, none⟩ = some (.int .i64 a) := (Blk.new w _ _).cell 0
  have HN := Lib.hid (numbersK_any (w.alloc (.cells #[.int .i64 a] 3)) a w.heap.size ao len cap pv (hrow.below hW) hlen hc (by rw [World.size_alloc]; omega))
  clear hc hrow
  go_enter Try.func18, Try.ntmps18
  go_wp2_with fail
  refine HN.out.mono ?_
  rintro e w1 ⟨v, rfl, hown, hB⟩
  have hsz : (w.alloc (.cells #[.int .i64 a] 3)).heap.size = w.heap.size + 1 := World.size_alloc _ _
  go_wp2
  go_ret
  exact ⟨v, rfl, owns_base hown (fun k hk => by have := own_ge hown k hk; omega), hW.trans (hB.mono (by omega))⟩
end
end Go.Proofs.Ythelcmjgikfbjaa

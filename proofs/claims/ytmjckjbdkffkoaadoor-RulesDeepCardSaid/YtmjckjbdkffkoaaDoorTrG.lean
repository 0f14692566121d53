/- What the library's Reverse at whole numbers, and Path of layer 11 (tree) return. Condition: at most a million nodes. -/
import Derived.Test.YtmjckjbdkffkoaaDoorTrE
namespace Go.Proofs.YtmjckjbdkffkoaaDoor
open Go.RowKit
set_option linter.unusedVariables false

theorem owns_set1 {w : World} {base : Nat} {e : TypeId} {size n g cap : Nat} {xs : List Value} (h : w.ownsRow base e size (.slice (some ⟨g, 0, none⟩) n cap) n xs) (i : Nat) (u : Value) : (w.setCell ⟨g, i, none⟩ u).ownsRow base e size (.slice (some ⟨g, 0, none⟩) n cap) n (xs.set i u) := by
  have h1 := h.1
  refine ⟨by rw [List.length_set]; exact h1, .inr ?_⟩
  rcases h.2 with ⟨h0, _⟩ | ⟨g', cap', cur, hv, h2, h3, h4, h5, h6, h7⟩
  · cases h0
  · cases hv
    refine ⟨g, cap, cur.setIfInBounds i u, rfl, h2, Blk.set (t := e) h3 i u, h4, h5, by rw [Array.size_setIfInBounds]; exact h6, ?_⟩
    rw [Array.toList_setIfInBounds, List.take_set, h7]
theorem cellsO_set (l : List Nat) (i x : Nat) : (cellsO l).set i (.int .i64 (x : Int)) = cellsO (l.set i x) := by
  unfold cellsO
  rw [List.map_set]
theorem ownsO_at {w : World} {base n g cap : Nat} {L : List Nat} (h : w.ownsRow base 3 1 (.slice (some ⟨g, 0, none⟩) n cap) n (cellsO L)) {i x : Nat} (hx : L[i]? = some x) : w.cell? ⟨g, i, none⟩ = some (.int .i64 (x : Int)) := by
  have := h.cells (g := g) rfl i (.int .i64 (x : Int)) (by unfold cellsO; rw [List.getElem?_map, hx]; rfl)
  rwa [Addr.add_lit, Nat.zero_add] at this
/-- A list whose first k and last k elements have been exchanged. -/
structure Rv (L M : List Nat) (k : Nat) : Prop where
  len : M.length = L.length
  out : ∀ j, j < L.length → (j < k ∨ L.length - k ≤ j) → M[j]? = L[L.length - 1 - j]?
  mid : ∀ j, j < L.length → ¬ (j < k ∨ L.length - k ≤ j) → M[j]? = L[j]?
theorem Rv.start (L : List Nat) : Rv L L 0 := ⟨rfl, fun j h1 h2 => by omega, fun _ _ _ => rfl⟩
theorem Rv.step {L M : List Nat} {k a b : Nat} (h : Rv L M k) (hk : k < L.length - 1 - k) (ha : M[k]? = some a) (hb : M[L.length - 1 - k]? = some b) : Rv L ((M.set k b).set (L.length - 1 - k) a) (k + 1) := by
  have e1 : L[k]? = some a := by rw [← h.mid k (by omega) (by omega)]; exact ha
  have e2 : L[L.length - 1 - k]? = some b := by rw [← h.mid (L.length - 1 - k) (by omega) (by omega)]; exact hb
  refine ⟨by simp [h.len], fun j h1 h2 => ?_, fun j h1 h2 => ?_⟩
  · rw [List.getElem?_set, List.getElem?_set]
    by_cases g1 : L.length - 1 - k = j
    · rw [if_pos g1, if_pos (by simp [h.len]; omega), show L.length - 1 - j = k from by omega, e1]
    · rw [if_neg g1]
      by_cases g2 : k = j
      · rw [if_pos g2, if_pos (by simp [h.len]; omega), ← g2, e2]
      · rw [if_neg g2]
        exact h.out j h1 (by omega)
  · rw [List.getElem?_set, List.getElem?_set, if_neg (by omega), if_neg (by omega)]
    exact h.mid j h1 (by omega)
theorem Rv.done {L M : List Nat} {k : Nat} (h : Rv L M k) (hk : L.length - 1 - k ≤ k ∨ L.length = 0) : M = L.reverse := by
  apply List.ext_getElem?
  intro j
  by_cases hj : j < L.length
  · rw [List.getElem?_reverse hj]
    by_cases g : j < k ∨ L.length - k ≤ j
    · exact h.out j hj g
    · rw [h.mid j hj g, show L.length - 1 - j = j from by omega]
  · rw [List.getElem?_eq_none (by rw [h.len]; omega), List.getElem?_eq_none (by simp; omega)]

section
variable (w : World)
set_option maxHeartbeats 4000000 in
theorem reverse_any (base g n cap : Nat) (L : List Nat) (hO : w.ownsRow base 3 1 (.slice (some ⟨g, 0, none⟩) n cap) n (cellsO L)) (hn : n = L.length) (h0 : 0 < n) (hl : n ≤ 1000000) :
    Calls Tryd.prog 81 #[.slice (some ⟨g, 0, none⟩) n cap] w fun e w' => (∃ v, e = .returned v) ∧ w'.ownsRow base 3 1 (.slice (some ⟨g, 0, none⟩) n cap) n (cellsO L.reverse) ∧ Frm (fun b => b = g) w w' := by
  have HO := Lib.hid hO
  have HN := Lib.hid hn
  clear hO hn
  go_enter Tryd.func81, Tryd.ntmps81
  go_wp2
  go_loopw [2, 3] (fun v2 v3 wr => ∃ (k : Nat) (M : List Nat), v2 = .int .i64 (k : Int) ∧ v3 = .int .i64 ((n : Int) - 1 - (k : Int)) ∧ k ≤ n ∧ Rv L M k ∧ wr.ownsRow base 3 1 (.slice (some ⟨g, 0, none⟩) n cap) n (cellsO M) ∧ Frm (fun b => b = g) w wr) (fun v2 _ _ => n - (intOf v2).toNat)
  case atStart => exact ⟨0, L, rfl, by go_num, Nat.zero_le _, Rv.start L, HO.out, Frm.refl _ _⟩
  case round =>
    obtain ⟨k, M, rfl, rfl, hk, hR, hO, hF⟩ := hrel
    have HR := Lib.hid hR
    have HOM := Lib.hid hO
    have HF := Lib.hid hF
    clear hR hO hF
    by_cases hlt : (k : Int) < (n : Int) - 1 - (k : Int)
    · have hk1 : k < n - 1 - k := by omega
      obtain ⟨i2, hi2⟩ : ∃ i2 : Nat, n - 1 - k = i2 := ⟨_, rfl⟩
      have e2 : (n : Int) - 1 - (k : Int) = (i2 : Int) := by omega
      have hml : M.length = n := by rw [HR.out.len, ← HN.out]
      obtain ⟨x, hx⟩ : ∃ x, M[k]? = some x := ⟨M[k]'(by omega), List.getElem?_eq_getElem _⟩
      obtain ⟨y, hy⟩ : ∃ y, M[i2]? = some y := ⟨M[i2]'(by omega), List.getElem?_eq_getElem _⟩
      have c1 := ownsO_at HOM.out hx
      have c2 := ownsO_at HOM.out hy
      have hst := HR.out.step (a := x) (b := y) (by rw [← HN.out]; omega) hx (by rw [← HN.out, hi2]; exact hy)
      rw [← HN.out, hi2] at hst
      have hO2 := owns_set1 (owns_set1 HOM.out k (.int .i64 (y : Int))) i2 (.int .i64 (x : Int))
      rw [cellsO_set, cellsO_set] at hO2
      have HO2 := Lib.hid hO2
      have HST := Lib.hid hst
      have HI2 := Lib.hid hi2
      have z1 := owns_frozen HOM.out k
      have z2 := owns_frozen HOM.out i2
      have r0 : (0 : Int) ≤ (k : Int) := by omega
      have r1 : (k : Int) < (n : Int) := by omega
      have r2 : (i2 : Int) < (n : Int) := by omega
      have r3 : (0 : Int) ≤ (i2 : Int) := by omega
      have hlt2 : (k : Int) < (i2 : Int) := by omega
      have hne : k ≠ i2 := by omega
      rw [e2] at hlt ⊢
      have E2 := Lib.hid e2
      have hO4 := owns_set1 (owns_set1 HOM.out i2 (.int .i64 (x : Int))) k (.int .i64 (y : Int))
      rw [cellsO_set, cellsO_set, List.set_comm _ _ (Ne.symm hne)] at hO4
      have HO4 := Lib.hid hO4
      have hs1 := owns_set1 HOM.out k (.int .i64 (y : Int))
      rw [cellsO_set] at hs1
      have hs2 := owns_set1 HOM.out i2 (.int .i64 (x : Int))
      rw [cellsO_set] at hs2
      have d1 := ownsO_at hs1 (i := i2) (x := y) (by rw [List.getElem?_set, if_neg hne]; exact hy)
      have d2 := ownsO_at hs2 (i := k) (x := x) (by rw [List.getElem?_set, if_neg (Ne.symm hne)]; exact hx)
      have y1 := owns_frozen hs1 i2
      have y2 := owns_frozen hs2 k
      clear hst hO2 hO4 hs1 hs2 hml hx hy hi2 e2
      go_wp2
      go_region
      all_goals
        go_wp2
        go_roundw
        case rel =>
          refine ⟨k + 1, _, by go_num, by have := E2.out; go_num, by omega, HST.out, ?_⟩
          first
            | exact ⟨own_frm ((Frm.refl (fun _ => False) _).drew) HO2.out (fun _ _ h => h), ((HF.out.put k _).put i2 _).drew⟩
            | exact ⟨own_frm ((Frm.refl (fun _ => False) _).drew) HO4.out (fun _ _ h => h), ((HF.out.put i2 _).put k _).drew⟩
        case measure => simp [intOf]; omega
    · go_wp2
      go_end0
      have hM := HR.out.done (by have := HN.out; omega)
      rw [← hM]
      exact ⟨⟨_, rfl⟩, HOM.out, HF.out⟩

/-- The nodes above one as Path goes: the list so far. -/
def PaR (nv : Nat → Nd) (i : Nat) (base : Nat) (w : World) (v4 v5 : Value) (wr : World) : Prop :=
  ∃ (A : List Nat) (x : Nat) (oa : Option Addr) (oc : Nat), v4 = .slice oa (A ++ [x]).length oc ∧ v5 = .int .i64 (nv x).u ∧ Abv nv x i ∧ A.length + x ≤ i ∧ A ++ chn nv x = chn nv i ∧ wr.ownsRow base 3 1 (.slice oa (A ++ [x]).length oc) (A ++ [x]).length (cellsO (A ++ [x])) ∧ Below base w wr
set_option maxRecDepth 100000 in
set_option maxHeartbeats 4000000 in
theorem path_any (ao : Option Addr) (len cap : Nat) (nv : Nat → Nd) (hrow : NRow w ao len nv) (hs : Sp nv len) (i : Nat) (hi : i < len) (hlen : len ≤ 10000) :
    Calls Tryd.prog 55 #[.slice ao len cap, .int .i64 (i : Int)] w fun r w' => (∃ oa oc, r = .returned (.slice oa (chn nv i).length oc) ∧ w'.ownsRow w.heap.size 3 1 (.slice oa (chn nv i).length oc) (chn nv i).length (cellsO (chn nv i).reverse)) ∧ Below w.heap.size w w' := by
  have HS := Lib.hid (fun W => stands_any W ao len cap (i : Int) true (by simp; omega))
  have HROW := Lib.hid hrow
  have HSP := Lib.hid hs
  obtain ⟨b, off, rfl, hb, c0, c1, c2, c3⟩ := hrow i hi
  obtain ⟨i0, hif, hz0, hz1, hz2⟩ := info_parts infoI
  have q0 : (0 : Int) ≤ (i : Int) := by omega
  have q1 : (i : Int) < (len : Int) := by omega
  have hO1 : Hid (∀ W : World, (W.alloc (.cells #[.int .i64 (i : Int)] 3)).ownsRow W.heap.size 3 1 (.slice (some ⟨W.heap.size, 0, none⟩) 1 1) 1 (cellsO ([] ++ [i]))) := Lib.hid (fun W => ⟨rfl, .inr ⟨W.heap.size, 1, _, rfl, Nat.le_refl _, Blk.new W _ _, Nat.le_refl _, by unfold maxLen; omega, rfl, rfl⟩⟩)
  have c3' : ∀ A, (w.alloc A).cell? ⟨b, off + i * 4 + 3, none⟩ = some (.int .i64 (nv i).u) := fun A => (((Below.refl w.heap.size w).alloc (Nat.le_refl _) A).cell (p := ⟨b, off + i * 4 + 3, none⟩) hb).trans c3
  have HU : Hid (∀ x : Nat, x < len → x = 0 ∧ (nv x).u = -1 ∨ ∃ u : Nat, (nv x).u = (u : Int) ∧ u < x) := Lib.hid (fun x hx => by
    rcases Nat.eq_zero_or_pos x with rfl | g
    · exact .inl ⟨rfl, hs.1⟩
    · obtain ⟨u, e, l, _⟩ := hs.2 x g hx
      exact .inr ⟨u, e, l⟩)
  clear hrow hs c0 c1 c2
  go_enter Tryd.func55, Tryd.ntmps55
  go_wp2_with fail
  refine (HS.out w).mono ?_
  rintro r w1 ⟨rfl, rfl⟩
  go_wp2
  go_loopw [4, 5] (fun v4 v5 wr => PaR nv i w1.heap.size w1 v4 v5 wr) (fun _ v5 _ => ((intOf v5) + 1).toNat)
  case atStart => exact ⟨[], i, _, _, rfl, rfl, .self, by simp, rfl, hO1.out w1, (Below.refl _ _).alloc (Nat.le_refl _) _⟩
  case round =>
    obtain ⟨A, x, oa, oc, rfl, rfl, hx1, hx2, hx3, hO, hB⟩ := hrel
    have HX1 := Lib.hid hx1
    have HX3 := Lib.hid hx3
    have HO := Lib.hid hO
    have HB := Lib.hid hB
    obtain ⟨n, hn⟩ : ∃ n, (A ++ [x]).length = n := ⟨_, rfl⟩
    rw [hn] at HO ⊢
    have hnA : n = A.length + 1 := by rw [← hn]; simp
    have hn0 : 0 < n := by omega
    obtain ⟨g, c', hgc, hgb, hgc1, hgc2, hgl⟩ := owns_nil HO.out hn0
    obtain ⟨rfl, rfl⟩ : oa = some ⟨g, 0, none⟩ ∧ oc = c' := by simpa using hgc
    have hlast := ownsO_at HO.out (i := n - 1) (x := x) (by rw [List.getElem?_append_right (by omega), show n - 1 - A.length = 0 from by omega]; rfl)
    have hxl : x < len := by omega
    have en1 : ((n - 1 : Nat) : Int) = (n : Int) - 1 := by omega
    have HN := Lib.hid hn
    have HNA := Lib.hid hnA
    have EN1 := Lib.hid en1
    clear hx1 hx3 hO hB hn hnA hgc en1
    rcases HU.out x hxl with ⟨hx0, hu⟩ | ⟨u, hu, hul⟩
    · have HU0 := Lib.hid hu
      have HX0 := Lib.hid hx0
      rw [hu]
      have t1 : ¬ (0 : Int) ≤ -1 := by decide
      clear hu hx0
      have HRV := Lib.hid (reverse_any wr w1.heap.size g n oc (A ++ [x]) HO.out HN.out.symm hn0 (by have := HNA.out; omega))
      go_wp2_with fail
      refine HRV.out.mono ?_
      rintro e w3 ⟨⟨v, rfl⟩, hO3, hF3⟩
      have HO3 := Lib.hid hO3
      have HB3 := Lib.hid (HB.out.trans (hF3.below HB.out.size (fun k hk => by omega)))
      clear hO3 hF3
      go_wp2
      go_ret
      have e1 : A ++ [x] = chn nv i := by rw [← HX3.out, chn_top (by rw [HU0.out]; decide)]
      rw [← e1, HN.out]
      exact ⟨⟨_, _, rfl, HO3.out⟩, HB3.out⟩
    · have HUU := Lib.hid hu
      rw [hu]
      have t1 : (0 : Int) ≤ (u : Int) := by omega
      have t2 : (u : Int) < (x : Int) := by omega
      have n1 : (0 : Int) ≤ (n : Int) - 1 := by omega
      have n2 : (n : Int) - 1 < (n : Int) := by omega
      have n3 : ((n : Int) - 1).toNat = n - 1 := by omega
      obtain ⟨b2, off2, hao, hb2, d0, d1, d2, d3⟩ := (HROW.out.below HB.out) u (by omega)
      cases hao
      have u1 : (u : Int) < (len : Int) := by omega
      have hnx : (n : Nat) ≤ 20000 := by have := HNA.out; omega
      clear hu d0 d1 d2 c3 c3'
      go_wp2_with (at_builtin; refine wpList_append_own _ rfl _ _ 41 rfl w1.heap.size 3 i0 (.int .i64 0) 1 8 Tryd.underlying41 hif hz0 hz1 hz2 rfl (by decide) _ _ _ rfl (HO.out.alloc _) ⟨wr.heap.size, 0, none⟩ 1 1 [.int .i64 (u : Int)] rfl rfl (cell_one_new _ _ _) (by simp [Value.oneCell']) (by unfold maxLen; omega) (by omega) (by have := HB.out.size; rw [World.size_alloc]; omega) ?_; intro v' w4 hown4 hgr4 _; have hB4 : Below w1.heap.size w1 w4 := (HB.out.alloc HB.out.size _).grown hgr4 (by have := HB.out.size; rw [World.size_alloc]; omega) (own_ge HO.out); have hd4 : w4.cell? ⟨b, off + u * 4 + 3, none⟩ = some (.int .i64 (nv u).u) := (hB4.cell (p := ⟨b, off + u * 4 + 3, none⟩) hb).trans (((HB.out.cell (p := ⟨b, off + u * 4 + 3, none⟩) hb).symm).trans d3))
      go_roundw
      case rel =>
        obtain ⟨oa4, oc4, rfl⟩ := own_slice hown4
        have e1 : (A ++ [x] ++ [u]).length = n + 1 := by rw [List.length_append, HN.out]; rfl
        refine ⟨A ++ [x], u, oa4, oc4, by rw [e1], rfl, (Abv.up HUU.out hul .self).trans HX1.out, by simp; omega, ?_, ?_, hB4⟩
        · rw [← HX3.out, chn_up HUU.out hul, List.append_assoc]; rfl
        · rw [e1, cellsO_append]
          exact hown4
      case measure =>
        rcases HU.out u (by omega) with ⟨_, h⟩ | ⟨u', h, _⟩
        · rw [h]; simp [intOf] <;> omega
        · rw [h]; simp [intOf] <;> omega
theorem path_none (ao : Option Addr) (len cap : Nat) (i : Int) (hi : i < 0 ∨ (len : Int) ≤ i) :
    Calls Tryd.prog 55 #[.slice ao len cap, .int .i64 i] w fun r w' => r = .returned (.slice none 0 0) ∧ w' = w := by
  have HS := Lib.hid (fun W => stands_any W ao len cap i false (by simp; omega))
  clear hi
  go_enter Tryd.func55, Tryd.ntmps55
  go_wp2_with fail
  refine (HS.out w).mono ?_
  rintro r w1 ⟨rfl, rfl⟩
  go_wp2
  go_ret
  exact ⟨rfl, rfl⟩
end
end Go.Proofs.YtmjckjbdkffkoaaDoor

/- What End, Kids, Path of layer 11 (tree) return, and the library's Reverse at whole numbers. Condition: at most a million nodes. -/
import Derived.Test.YtmjckjbdkffkoaaDoorTrSt
namespace Go.Proofs.YtmjckjbdkffkoaaDoor
open Go.RowKit
set_option linter.unusedVariables false

theorem isEnd_ex (nv : Nat → Nd) (n i : Nat) (hi : i < n) : ∃ e, IsEnd nv n i e := by
  have : ∀ f e, i < e → e ≤ n → n - e = f → (∀ k, i < k → k < e → (i : Int) ≤ (nv k).u) → ∃ e, IsEnd nv n i e := by
    intro f
    induction f with
    | zero => intro e h1 h2 h3 h4; exact ⟨e, h1, h2, h4, fun h => by omega⟩
    | succ f ih =>
      intro e h1 h2 h3 h4
      by_cases h : (nv e).u < (i : Int)
      · exact ⟨e, h1, h2, h4, fun _ => h⟩
      · refine ih (e + 1) (by omega) (by omega) (by omega) (fun k g1 g2 => ?_)
        rcases Nat.lt_or_ge k e with g | g
        · exact h4 k g1 g
        · obtain rfl : k = e := by omega
          omega
  exact this (n - (i + 1)) (i + 1) (by omega) (by omega) rfl (fun k g1 g2 => by omega)
section
variable (w : World)
set_option maxHeartbeats 2000000 in
theorem end_any (ao : Option Addr) (len cap : Nat) (nv : Nat → Nd) (hrow : NRow w ao len nv) (i : Nat) (hi : i < len) (hlen : len ≤ 1000000) (e : Nat) (he : IsEnd nv len i e) :
    Calls Tryd.prog 69 #[.slice ao len cap, .int .i64 (i : Int)] w fun r w' => r = .returned (.int .i64 (e : Int)) ∧ w' = w := by
  have HROW := Lib.hid hrow
  have HS := Lib.hid (fun W => stands_any W ao len cap (i : Int) true (by simp; omega))
  clear hrow
  obtain ⟨he1, he2, he3, he4⟩ := he
  have HE3 := Lib.hid he3
  have HE4 := Lib.hid he4
  clear he3 he4
  go_enter Tryd.func69, Tryd.ntmps69
  go_wp2_with fail
  refine (HS.out w).mono ?_
  rintro r w1 ⟨rfl, rfl⟩
  go_wp2
  go_loopw [5] (fun v5 wr => ∃ k : Nat, v5 = .int .i64 (k : Int) ∧ i < k ∧ k ≤ e ∧ wr = w1) (fun v5 _ => e - (intOf v5).toNat)
  case atStart => exact ⟨i + 1, by go_num, by omega, by omega, rfl⟩
  case round =>
    obtain ⟨k, rfl, hk1, hk2, rfl⟩ := hrel
    by_cases hke : k < e
    · have h3 := HE3.out k hk1 hke
      obtain ⟨b, off, rfl, hbw, c0, c1, c2, c3⟩ := HROW.out k (by omega)
      obtain ⟨u, hu⟩ : ∃ u, (nv k).u = u := ⟨_, rfl⟩
      rw [hu] at c3 h3
      have r0 : (0 : Int) ≤ (k : Int) := by omega
      have r1 : (k : Int) < (len : Int) := by omega
      have n1 : ¬ u < (i : Int) := by omega
      clear hu
      go_wp2
      go_roundw
      case rel => exact ⟨k + 1, by go_num, by omega, by omega, by first | rfl | trivial⟩
      case measure => simp [intOf]; omega
    · obtain rfl : k = e := by omega
      by_cases hkl : k < len
      · have h4 := HE4.out hkl
        obtain ⟨b, off, rfl, hbw, c0, c1, c2, c3⟩ := HROW.out k (by omega)
        obtain ⟨u, hu⟩ : ∃ u, (nv k).u = u := ⟨_, rfl⟩
        rw [hu] at c3 h4
        have r0 : (0 : Int) ≤ (k : Int) := by omega
        have r1 : (k : Int) < (len : Int) := by omega
        have n1 : ¬ (i : Int) ≤ u := by omega
        clear hu
        go_wp2
        go_ret
        exact ⟨rfl, rfl⟩
      · have r1 : ¬ (k : Int) < (len : Int) := by omega
        go_wp2
        go_ret
        exact ⟨rfl, rfl⟩
theorem end_none (ao : Option Addr) (len cap : Nat) (i : Int) (hi : i < 0 ∨ (len : Int) ≤ i) :
    Calls Tryd.prog 69 #[.slice ao len cap, .int .i64 i] w fun r w' => r = .returned (.int .i64 0) ∧ w' = w := by
  have HS := Lib.hid (fun W => stands_any W ao len cap i false (by simp; omega))
  clear hi
  go_enter Tryd.func69, Tryd.ntmps69
  go_wp2_with fail
  refine (HS.out w).mono ?_
  rintro r w1 ⟨rfl, rfl⟩
  go_wp2
  go_ret
  exact ⟨rfl, rfl⟩

/-- The kids of a node among the numbers from a on, ahead of b. -/
def kidsIn (nv : Nat → Nd) (i a : Nat) : Nat → List Nat
  | 0 => []
  | k + 1 => kidsIn nv i a k ++ (if (nv (a + k)).u = (i : Int) then [a + k] else [])
theorem kidsIn_len (nv : Nat → Nd) (i a : Nat) : ∀ k, (kidsIn nv i a k).length ≤ k := by
  intro k
  induction k with
  | zero => simp [kidsIn]
  | succ k ih => unfold kidsIn; split <;> simp <;> omega
/-- As many as there are in all. -/
theorem kidsIn_sel {nv : Nat → Nd} {n i e : Nat} (hs : Sp nv n) (he : IsEnd nv n i e) (hi : i < n) : kidsIn nv i (i + 1) (e - (i + 1)) = selN (fun k => decide ((nv k).u = (i : Int))) n := by
  have h1 : ∀ d, i + 1 + d ≤ e → kidsIn nv i (i + 1) d = selN (fun k => decide ((nv k).u = (i : Int))) (i + 1 + d) := by
    intro d
    induction d with
    | zero =>
      intro _
      have : ∀ m, m ≤ i + 1 → selN (fun k => decide ((nv k).u = (i : Int))) m = [] := by
        intro m
        induction m with
        | zero => intro _; rfl
        | succ m ih =>
          intro hm
          rw [selN_succ, ih (by omega), if_neg]
          · rfl
          · rw [decide_eq_true_iff]
            intro g
            rcases Nat.eq_zero_or_pos m with rfl | h0
            · rw [hs.1] at g; omega
            · obtain ⟨u, e1, l1, _⟩ := hs.2 m h0 (by omega)
              omega
      rw [this (i + 1 + 0) (by omega)]
      rfl
    | succ d ih =>
      intro hd
      rw [show i + 1 + (d + 1) = (i + 1 + d) + 1 from rfl, selN_succ, ← ih (by omega)]
      show kidsIn nv i (i + 1) d ++ (if (nv (i + 1 + d)).u = (i : Int) then [i + 1 + d] else []) = _
      congr 1
      by_cases g : (nv (i + 1 + d)).u = (i : Int)
      · rw [if_pos g, if_pos (by simpa using g)]
      · rw [if_neg g, if_neg (by simpa using g)]
  have hlt := he.lt
  have h2 := h1 (e - (i + 1)) (by omega)
  rw [show i + 1 + (e - (i + 1)) = e from by omega] at h2
  rw [h2]
  have h3 : ∀ d, e + d ≤ n → selN (fun k => decide ((nv k).u = (i : Int))) (e + d) = selN (fun k => decide ((nv k).u = (i : Int))) e := by
    intro d
    induction d with
    | zero => intro _; rfl
    | succ d ih =>
      intro hd
      rw [show e + (d + 1) = (e + d) + 1 from rfl, selN_succ, ih (by omega), if_neg, List.append_nil]
      rw [decide_eq_true_iff]
      intro g
      have h4 := (end_iff hs he (k := e + d) (by omega)).1 (by
        obtain ⟨u, e1, l1, g1⟩ := hs.2 (e + d) (by omega) (by omega)
        obtain rfl : u = i := by omega
        exact .up e1 l1 .self)
      omega
  have h4 := h3 (n - e) (by have := he.le; omega)
  rw [show e + (n - e) = n from by have := he.le; omega] at h4
  rw [h4]
set_option maxHeartbeats 2000000 in
theorem kids_any (ao : Option Addr) (len cap : Nat) (nv : Nat → Nd) (hrow : NRow w ao len nv) (i : Nat) (hi : i < len) (hlen : len ≤ 1000000) (e : Nat) (he : IsEnd nv len i e) (L : List Nat) (hL : kidsIn nv i (i + 1) (e - (i + 1)) = L) :
    Calls Tryd.prog 45 #[.slice ao len cap, .int .i64 (i : Int)] w fun r w' => ∃ v, r = .returned v ∧ w'.ownsRow w.heap.size 3 1 v L.length (cellsO L) ∧ Below w.heap.size w w' := by
  obtain ⟨i0, hif, hz0, hz1, hz2⟩ := info_parts infoI
  have HROW := Lib.hid hrow
  have HS := Lib.hid (fun W => stands_any W ao len cap (i : Int) true (by simp; omega))
  have HE := Lib.hid (fun W (h : NRow W ao len nv) => end_any W ao len cap nv h i hi hlen e he)
  have HL := Lib.hid hL
  have hel := he.le
  have het := he.lt
  clear hrow hL he
  go_enter Tryd.func45, Tryd.ntmps45
  go_wp2_with fail
  refine (HS.out w).mono ?_
  rintro r w1 ⟨rfl, rfl⟩
  go_wp2_with fail
  refine (HE.out w1 HROW.out).mono ?_
  rintro r w2 ⟨rfl, rfl⟩
  go_wp2
  go_loopw [4, 6] (fun v4 v6 wr => ∃ k : Nat, v6 = .int .i64 ((i + 1 + k : Nat) : Int) ∧ i + 1 + k ≤ e ∧ wr.ownsRow w2.heap.size 3 1 v4 (kidsIn nv i (i + 1) k).length (cellsO (kidsIn nv i (i + 1) k)) ∧ Below w2.heap.size w2 wr) (fun _ v6 _ => e - (intOf v6).toNat)
  case atStart => exact ⟨0, by go_num, by omega, World.ownsRow_nil _ _ _ _, Below.refl _ _⟩
  case round =>
    obtain ⟨k, rfl, hk2, hown, hB⟩ := hrel
    have HB := Lib.hid hB
    have HOWN := Lib.hid hown
    obtain ⟨m, hm⟩ : ∃ m, i + 1 + k = m := ⟨_, rfl⟩
    rw [hm] at hk2 ⊢
    have HM := Lib.hid hm
    have hkl := kidsIn_len nv i (i + 1) k
    have hkm : k ≤ 1000000 := by omega
    by_cases hke : (m : Int) < (e : Int)
    · have hke' : m < e := by omega
      obtain ⟨b, off, rfl, hbw, c0, c1, c2, c3⟩ := (HROW.out.below HB.out) m (by omega)
      have r0 : (0 : Int) ≤ (m : Int) := by omega
      have r1 : (m : Int) < (len : Int) := by omega
      have hst : kidsIn nv i (i + 1) (k + 1) = kidsIn nv i (i + 1) k ++ (if (nv m).u = (i : Int) then [m] else []) := by rw [← hm]; rfl
      obtain ⟨u, hu⟩ : ∃ u, (nv m).u = u := ⟨_, rfl⟩
      rw [hu] at c3 hst
      have HST := Lib.hid hst
      clear hst hu hm hB hown
      by_cases hui : u = (i : Int)
      · have t1 : (u == (i : Int)) = true := by simpa using hui
        have HST2 : kidsIn nv i (i + 1) (k + 1) = kidsIn nv i (i + 1) k ++ [m] := by rw [HST.out, if_pos hui]
        clear HST
        have HST := Lib.hid HST2
        subst hui
        clear HST2
        go_wp2_with (at_builtin; refine wpList_append_own _ rfl _ _ 41 rfl w2.heap.size 3 i0 (.int .i64 0) 1 8 Tryd.underlying41 hif hz0 hz1 hz2 rfl (by decide) _ _ _ rfl (HOWN.out.alloc _) ⟨wr.heap.size, 0, none⟩ 1 1 [.int .i64 (m : Int)] rfl rfl (cell_one_new _ _ _) (by simp [Value.oneCell']) (by unfold maxLen; omega) (by omega) (by have := HB.out.size; rw [World.size_alloc]; omega) ?_; intro v' w4 hown4 hgr4 _)
        go_roundw
        case rel =>
          refine ⟨k + 1, by have := HM.out; go_num, by have := HM.out; omega, ?_, (HB.out.alloc HB.out.size _).grown hgr4 (by have := HB.out.size; rw [World.size_alloc]; omega) (own_ge HOWN.out)⟩
          rw [HST.out, cellsO_append, List.length_append]
          exact hown4
        case measure => simp [intOf]; omega
      · have t1 : (u == (i : Int)) = false := by simpa using hui
        have HST2 : kidsIn nv i (i + 1) (k + 1) = kidsIn nv i (i + 1) k := by rw [HST.out, if_neg hui, List.append_nil]
        have HST := Lib.hid HST2
        clear HST2 hui
        go_wp2
        go_roundw
        case rel =>
          refine ⟨k + 1, by have := HM.out; go_num, by have := HM.out; omega, ?_, HB.out⟩
          rw [HST.out]
          exact HOWN.out
        case measure => simp [intOf]; omega
    · obtain rfl : m = e := by omega
      have hk3 : m - (i + 1) = k := by omega
      have HK3 := Lib.hid hk3
      clear hown hB hm hk3
      go_wp2
      go_ret
      refine ⟨_, rfl, ?_, HB.out⟩
      rw [← HL.out, HK3.out]
      exact HOWN.out
theorem kids_none (ao : Option Addr) (len cap : Nat) (i : Int) (hi : i < 0 ∨ (len : Int) ≤ i) :
    Calls Tryd.prog 45 #[.slice ao len cap, .int .i64 i] w fun r w' => r = .returned (.slice none 0 0) ∧ w' = w := by
  have HS := Lib.hid (fun W => stands_any W ao len cap i false (by simp; omega))
  clear hi
  go_enter Tryd.func45, Tryd.ntmps45
  go_wp2_with fail
  refine (HS.out w).mono ?_
  rintro r w1 ⟨rfl, rfl⟩
  go_wp2
  go_ret
  exact ⟨rfl, rfl⟩
end
end Go.Proofs.YtmjckjbdkffkoaaDoor

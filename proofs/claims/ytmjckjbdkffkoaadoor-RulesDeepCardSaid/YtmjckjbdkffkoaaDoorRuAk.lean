/- How deep a node is, by the program's Deep and the document's: the nodes on its path, but itself, that count. Condition: at most ten thousand nodes whose Ups are those of a tree. -/
import Derived.Test.YtmjckjbdkffkoaaDoorRuY
import Derived.Test.YtmjckjbdkffkoaaDoorTrG
import Derived.Test.YtmjckjbdkffkoaaDoorTrA
namespace Go.Proofs.YtmjckjbdkffkoaaDoor
open Go.RowKit
set_option linter.unusedVariables false

def nst (k : Int) : Bool := decide (9 ≤ k ∧ k ≤ 14 ∨ k = 16)
def dcnt (nv : Nat → Nd) (i : Nat) (L : List Nat) : Nat := (L.filter fun x => decide (x ≠ i) && nst (nv x).k).length
def lcnt (nv : Nat → Nd) (k : Nat) (L : List Nat) : Nat := (L.filter fun x => decide (x < k) && nst (nv x).k).length
theorem dcnt_snoc (nv : Nat → Nd) (i : Nat) (L : List Nat) (x : Nat) : dcnt nv i (L ++ [x]) = dcnt nv i L + (if decide (x ≠ i) && nst (nv x).k then 1 else 0) := by
  unfold dcnt
  rw [List.filter_append, List.length_append, List.filter_cons]
  split <;> rfl
theorem dcnt_rev (nv : Nat → Nd) (i : Nat) (L : List Nat) : dcnt nv i L.reverse = dcnt nv i L := by
  unfold dcnt
  rw [List.filter_reverse, List.length_reverse]
theorem dcnt_le (nv : Nat → Nd) (i : Nat) (L : List Nat) : dcnt nv i L ≤ L.length := List.length_filter_le _ _
theorem lcnt_le (nv : Nat → Nd) (i : Nat) (L : List Nat) : lcnt nv i L ≤ L.length := List.length_filter_le _ _
theorem lcnt_zero (nv : Nat → Nd) (L : List Nat) : lcnt nv 0 L = 0 := by
  unfold lcnt
  rw [List.filter_eq_nil_iff.2]
  · rfl
  · intro x _
    simp
theorem lcnt_step (nv : Nat → Nd) (k : Nat) : ∀ (L : List Nat), L.Nodup → lcnt nv (k + 1) L = lcnt nv k L + (if nst (nv k).k && decide (k ∈ L) then 1 else 0)
  | [], _ => by simp [lcnt]
  | a :: l, h => by
    have ih := lcnt_step nv k l (List.nodup_cons.1 h).2
    have ha := (List.nodup_cons.1 h).1
    unfold lcnt at ih ⊢
    rw [List.filter_cons, List.filter_cons]
    by_cases e : a = k
    · subst e
      rw [decide_eq_false ha, Bool.and_false] at ih
      simp only [Bool.false_eq_true, if_false, Nat.add_zero] at ih
      have d1 : decide (a < a + 1) = true := decide_eq_true (by omega)
      have d2 : decide (a < a) = false := decide_eq_false (by omega)
      have d3 : decide (a ∈ a :: l) = true := decide_eq_true (by simp)
      rw [d1, d2, d3, Bool.true_and, Bool.false_and, Bool.and_true]
      cases hn : nst (nv a).k
      · simpa using ih
      · simpa using ih
    · have d3 : decide (k ∈ a :: l) = decide (k ∈ l) := by
        refine decide_eq_decide.2 ?_
        rw [List.mem_cons]
        exact ⟨fun g => g.resolve_left (Ne.symm e), .inr⟩
      have d1 : decide (a < k + 1) = decide (a < k) := decide_eq_decide.2 (by omega)
      rw [d3, d1]
      cases hc : (decide (a < k) && nst (nv a).k)
      · simpa using ih
      · simp only [if_true, List.length_cons]
        omega
theorem abv_le {nv : Nat → Nd} {a b : Nat} (h : Abv nv a b) : a ≤ b := by
  induction h with
  | self => exact Nat.le_refl _
  | up _ l _ ih => omega
theorem chn_nodup {nv : Nat → Nd} {n : Nat} (hs : Sp nv n) : ∀ b, b < n → (chn nv b).Nodup := by
  intro b
  induction b using Nat.strongRecOn with
  | _ b ih =>
    intro hb
    rcases Nat.eq_zero_or_pos b with rfl | h0
    · rw [chn_top (by rw [hs.1]; decide)]
      simp
    · obtain ⟨u, e, l, g⟩ := hs.2 b h0 hb
      rw [chn_up e l, List.nodup_cons]
      refine ⟨fun h => ?_, ih u l (by omega)⟩
      have := abv_le ((mem_chn u).1 h)
      omega
theorem chn_len {nv : Nat → Nd} {n : Nat} (hs : Sp nv n) : ∀ b, b < n → (chn nv b).length ≤ b + 1 := by
  intro b
  induction b using Nat.strongRecOn with
  | _ b ih =>
    intro hb
    rcases Nat.eq_zero_or_pos b with rfl | h0
    · rw [chn_top (by rw [hs.1]; decide)]
      simp
    · obtain ⟨u, e, l, g⟩ := hs.2 b h0 hb
      rw [chn_up e l, List.length_cons]
      have := ih u l (by omega)
      omega
theorem lcnt_end (nv : Nat → Nd) (i : Nat) : lcnt nv i (chn nv i) = dcnt nv i (chn nv i) := by
  unfold lcnt dcnt
  congr 1
  refine List.filter_congr fun x hx => ?_
  have := abv_le ((mem_chn i).1 hx)
  rw [show decide (x < i) = decide (x ≠ i) from decide_eq_decide.2 (by omega)]
def DpR (nv : Nat → Nd) (i : Nat) (W0 : World) (v5 v12 : Value) (wr : World) : Prop :=
  ∃ j : Nat, j ≤ (chn nv i).length ∧ v12 = .int .i64 (j : Int) ∧ v5 = .int .i64 (dcnt nv i ((chn nv i).reverse.take j) : Nat) ∧ Below W0.heap.size W0 wr
def RdR (nv : Nat → Nd) (i : Nat) (W0 : World) (v5 v6 : Value) (wr : World) : Prop :=
  ∃ k : Nat, k ≤ i ∧ v6 = .int .i64 (k : Int) ∧ v5 = .int .i64 (lcnt nv k (chn nv i) : Nat) ∧ wr = W0
section
variable (w : World)
set_option maxHeartbeats 1000000 in
theorem counts_any (k : Int) (W : World) :
    Calls Tryd.prog 56 #[.int .i64 k] W fun r w' => r = .returned (.bool (nst k)) ∧ w' = W := by
  by_cases h8 : k ≤ 8
  · have e : nst k = false := decide_eq_false (by omega)
    rw [e]
    exact counts_no W k h8
  by_cases h18 : 17 ≤ k ∨ k = 15
  · have e : nst k = false := decide_eq_false (by omega)
    rw [e]
    have g : ∀ c : Int, (c ≤ 14 ∧ 9 ≤ c) ∨ c = 16 → (k == c) = false := fun c hc => by simp; omega
    have g9 := g 9 (by decide)
    have g10 := g 10 (by decide)
    have g11 := g 11 (by decide)
    have g12 := g 12 (by decide)
    have g13 := g 13 (by decide)
    have g14 := g 14 (by decide)
    have g16 := g 16 (by decide)
    clear g h8 h18 e
    go_enter Tryd.func56, Tryd.ntmps56
    go_wp2
    go_ret
    exact ⟨rfl, rfl⟩
  · rcases (by omega : k = 9 ∨ k = 10 ∨ k = 11 ∨ k = 12 ∨ k = 13 ∨ k = 14 ∨ k = 16) with rfl | rfl | rfl | rfl | rfl | rfl | rfl
    all_goals
      go_enter Tryd.func56, Tryd.ntmps56
      go_wp2
      go_ret
      exact ⟨rfl, rfl⟩
set_option maxRecDepth 100000 in
set_option maxHeartbeats 2000000 in
theorem deep_any (ao : Option Addr) (n cap : Nat) (nv : Nat → Nd) (hrow : NRow w ao n nv) (hs : Sp nv n) (i : Nat) (hi : i < n) (hn : n ≤ 10000) :
    Calls Tryd.prog 29 #[.slice ao n cap, .int .i64 (i : Int)] w fun e w' => e = .returned (.int .i64 (dcnt nv i (chn nv i) : Nat)) ∧ Below w.heap.size w w' := by
  have HPA := Lib.hid (path_any w ao n cap nv hrow hs i hi hn)
  have HROW := Lib.hid hrow
  have HLEN := Lib.hid (chn_len hs i hi)
  have HMEM := Lib.hid (fun x (h : x ∈ chn nv i) => abv_le ((mem_chn i).1 h))
  have HDR := Lib.hid (dcnt_rev nv i (chn nv i))
  clear hrow hs
  go_enter Tryd.func29, Tryd.ntmps29
  go_wp2_with fail
  refine HPA.out.mono ?_
  rintro e w1 ⟨⟨oa, oc, rfl, hO⟩, hb1⟩
  obtain ⟨L, hL⟩ : ∃ L, (chn nv i).reverse = L := ⟨_, rfl⟩
  obtain ⟨m, hm⟩ : ∃ m, (chn nv i).length = m := ⟨_, rfl⟩
  rw [hL, hm] at hO
  rw [hm] at HLEN ⊢
  have hLm : L.length = m := by rw [← hL, List.length_reverse, hm]
  obtain ⟨oa', oc', e', hR⟩ := owns_rdo hO
  obtain ⟨rfl, rfl⟩ : oa = oa' ∧ oc = oc' := by simpa using e'
  have HR := Lib.hid hR
  have HB1 := Lib.hid hb1
  have HL := Lib.hid hL
  have HM := Lib.hid hm
  have HLM := Lib.hid hLm
  clear hO e' hR hb1 hL hm hLm
  go_wp2
  go_loopw [5, 12] (fun v5 v12 wr => ∃ j : Nat, j ≤ m ∧ v12 = .int .i64 (j : Int) ∧ v5 = .int .i64 (dcnt nv i (L.take j) : Nat) ∧ Below w1.heap.size w1 wr) (fun _ v12 _ => m - (intOf v12).toNat)
  case atStart => exact ⟨0, by omega, rfl, rfl, Below.refl _ _⟩
  case round =>
    obtain ⟨j, hj, rfl, rfl, hbr⟩ := hrel
    by_cases hlt : j < m
    · have hp : (j : Int) < (m : Int) := by omega
      have q0 : (0 : Int) ≤ (j : Int) := by omega
      obtain ⟨x, hx⟩ : ∃ x, L[j]? = some x := ⟨L[j]'(by have := HLM.out; omega), List.getElem?_eq_getElem _⟩
      have hxi : x ≤ i := HMEM.out x (by have := List.mem_of_getElem? hx; rw [← HL.out, List.mem_reverse] at this; exact this)
      obtain ⟨ob, rfl, _, cj⟩ := (HR.out.below hbr).cells j x hx
      obtain ⟨b, off, rfl, hbl, k0, k1, k2, k3⟩ := (HROW.out.below (HB1.out.trans (hbr.mono HB1.out.size))) x (by omega)
      have p0 : (0 : Int) ≤ (x : Int) := by omega
      have p1 : (x : Int) < (n : Int) := by omega
      have htk : L.take (j + 1) = L.take j ++ [x] := by rw [List.take_add_one, hx]; rfl
      have hnx := dcnt_snoc nv i (L.take j) x
      rw [← htk] at hnx
      have hdl := dcnt_le nv i (L.take j)
      rw [List.length_take] at hdl
      obtain ⟨d, hd⟩ : ∃ d, dcnt nv i (L.take j) = d := ⟨_, rfl⟩
      rw [hd] at hnx hdl ⊢
      have hd5 : d ≤ 10001 := by have := HLEN.out; omega
      have e1 : IntKind.i64.wrap ((j : Int) + 1) = (j : Int) + 1 := IntWalk.i64_in _ (by have := HLEN.out; omega)
      have e2 : IntKind.i64.wrap ((d : Int) + 1) = (d : Int) + 1 := IntWalk.i64_in _ (by omega)
      have HBR := Lib.hid hbr
      have HNX := Lib.hid hnx
      have HCN := Lib.hid (counts_any (nv x).k wr)
      clear hbr hnx htk hd hdl hx k1 k2 k3
      by_cases hne : x = i
      · subst hne
        have hb : ((x : Int) == (x : Int)) = true := by simp
        go_wp2
        refine ⟨⟨j + 1, by omega, by rw [show ((j + 1 : Nat) : Int) = (j : Int) + 1 from by omega], ?_, HBR.out⟩, by simp [intOf]; omega⟩
        rw [HNX.out]
        simp
      · have hb : ((x : Int) == (i : Int)) = false := by simp; omega
        have hb' : ¬ (x : Int) = (i : Int) := by omega
        obtain ⟨c, hc⟩ : ∃ c, nst (nv x).k = c := ⟨_, rfl⟩
        rw [hc] at HCN HNX
        clear hc
        rw [decide_eq_true (show x ≠ i from hne), Bool.true_and] at HNX
        go_wp2_with fail
        refine HCN.out.mono ?_
        rintro e w3 ⟨rfl, rfl⟩
        cases c
        · go_wp2
          refine ⟨⟨j + 1, by omega, by rw [show ((j + 1 : Nat) : Int) = (j : Int) + 1 from by omega], ?_, HBR.out⟩, by simp [intOf]; omega⟩
          rw [HNX.out]
          rfl
        · go_wp2
          refine ⟨⟨j + 1, by omega, by rw [show ((j + 1 : Nat) : Int) = (j : Int) + 1 from by omega], ?_, HBR.out⟩, by simp [intOf]; omega⟩
          rw [HNX.out]
          rfl
    · obtain rfl : j = m := by omega
      have hp : ¬ (j : Int) < (j : Int) := by omega
      have ht : L.take j = L := by rw [← HLM.out, List.take_length]
      have hdv : dcnt nv i (L.take j) = dcnt nv i (chn nv i) := by rw [ht, ← HL.out, HDR.out]
      rw [hdv]
      have HBR := Lib.hid hbr
      clear hbr ht hdv
      go_wp2
      go_ret
      exact ⟨rfl, HB1.out.trans (HBR.out.mono HB1.out.size)⟩
end
end Go.Proofs.YtmjckjbdkffkoaaDoor

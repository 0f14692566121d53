/- What Sub and Hang of layer 11 (tree) return. Condition: at most ten thousand nodes in all. -/
import Derived.Test.YtppipngdakfbpaaTrJ
namespace Go.Proofs.Ytppipngdakfbpaa
open Go.RowKit
set_option linter.unusedVariables false

/-- The nodes that a function tells of the first numbers. -/
def lstf (m : Nat) (f : Nat → Nd) : List Nd := (List.range m).map f
theorem lstf_len (m : Nat) (f : Nat → Nd) : (lstf m f).length = m := by simp [lstf]
theorem lstf_at {m : Nat} {f : Nat → Nd} {j : Nat} (h : j < m) : (lstf m f)[j]? = some (f j) := by
  unfold lstf
  rw [List.getElem?_map, List.getElem?_range h]
  rfl
theorem lstf_nl {m : Nat} {f : Nat → Nd} {j : Nat} (h : j < m) : nl (lstf m f) j = f j := nl_at (lstf_at h)
theorem lstf_congr {m : Nat} {f g : Nat → Nd} (h : ∀ j, j < m → f j = g j) : lstf m f = lstf m g := by
  unfold lstf
  exact List.map_congr_left (fun j hj => h j (List.mem_range.1 hj))
theorem lstf_set {m : Nat} {f g : Nat → Nd} {k : Nat} (hk : k < m) (h : ∀ j, j < m → j ≠ k → g j = f j) : (lstf m f).set k (g k) = lstf m g := by
  apply List.ext_getElem?
  intro j
  rw [List.getElem?_set]
  by_cases hj : j < m
  · by_cases e : k = j
    · subst e
      rw [if_pos rfl, if_pos (by rw [lstf_len]; exact hk), lstf_at hk]
    · rw [if_neg e, lstf_at hj, lstf_at hj, h j hj (fun h => e h.symm)]
  · rw [List.getElem?_eq_none (by rw [lstf_len]; omega)]
    by_cases e : k = j
    · omega
    · rw [if_neg e, List.getElem?_eq_none (by rw [lstf_len]; omega)]
theorem owns_set {w : World} {base : Nat} {e : TypeId} {size n g cap : Nat} {xs : List Value} (h : w.ownsRow base e size (.slice (some ⟨g, 0, none⟩) n cap) n xs) (i : Nat) (u : Value) : (w.setCell ⟨g, i, none⟩ u).ownsRow base e size (.slice (some ⟨g, 0, none⟩) n cap) n (xs.set i u) := by
  have h1 := h.1
  refine ⟨by rw [List.length_set]; exact h1, .inr ?_⟩
  rcases h.2 with ⟨h0, _⟩ | ⟨g', cap', cur, hv, h2, h3, h4, h5, h6, h7⟩
  · cases h0
  · cases hv
    refine ⟨g, cap, cur.setIfInBounds i u, rfl, h2, Blk.set (t := e) h3 i u, h4, h5, by rw [Array.size_setIfInBounds]; exact h6, ?_⟩
    rw [Array.toList_setIfInBounds, List.take_set, h7]
/-- A node of a row of the call's own, as it is read; off: where the row begins. -/
theorem owns_cells {w : World} {base n g cap : Nat} {L : List Nd} (h : w.ownsRow base 30 4 (.slice (some ⟨g, 0, none⟩) n cap) n (cellsN L)) {j : Nat} {x : Nd} (hx : L[j]? = some x) :
    w.cell? ⟨g, j * 4, none⟩ = some (.int .i64 x.k) ∧ w.cell? ⟨g, j * 4 + 1, none⟩ = some (.int .i64 x.f) ∧ w.cell? ⟨g, j * 4 + 2, none⟩ = some (.int .i64 x.t) ∧ w.cell? ⟨g, j * 4 + 3, none⟩ = some (.int .i64 x.u) := by
  have hc : ∀ c v, (cellN x)[c]? = some v → w.cell? ⟨g, j * 4 + c, none⟩ = some v := fun c v hv => by
    have := h.cells (g := g) rfl (j * 4 + c) v (cellsN_at hx c v hv)
    rwa [Addr.add_lit, Nat.zero_add] at this
  exact ⟨hc 0 _ rfl, hc 1 _ rfl, hc 2 _ rfl, hc 3 _ rfl⟩
theorem cellN_u (x : Nd) (v : Int) : cellN ⟨x.k, x.f, x.t, v⟩ = (cellN x).set 3 (.int .i64 v) := rfl
theorem cellN_f (x : Nd) (v : Int) : cellN ⟨x.k, v, x.t, x.u⟩ = (cellN x).set 1 (.int .i64 v) := rfl
theorem cellN_t (x : Nd) (v : Int) : cellN ⟨x.k, x.f, v, x.u⟩ = (cellN x).set 2 (.int .i64 v) := rfl
/-- A part of a row of nodes, as the source of an append. -/
theorem part_src {w : World} {b off n cap i e : Nat} {nv : Nat → Nd} (h : NRow w (some ⟨b, off, none⟩) n nv) (hie : i < e) (hen : e ≤ n) : Src w (.slice (some ⟨b, off + i * 4, none⟩) (e - i) cap) (e - i) (cellsN (lstf (e - i) (fun j => nv (i + j)))) := by
  have h2 : NRow w (some ⟨b, off + i * 4, none⟩) (e - i) (fun j => nv (i + j)) := fun j hj => by
    obtain ⟨b', off', h1, hb, c0, c1, c2, c3⟩ := h (i + j) (by omega)
    cases h1
    have e1 : off + (i + j) * 4 = off + i * 4 + j * 4 := by omega
    rw [e1] at c0 c1 c2 c3
    exact ⟨b, off + i * 4, rfl, hb, c0, c1, c2, c3⟩
  exact nrow_src (L := lstf (e - i) (fun j => nv (i + j))) (h2.congr (fun j hj => (lstf_nl (f := fun j => nv (i + j)) hj).symm)) (lstf_len _ _).symm (fun h0 => by omega)

/-- A node as Hang leaves it, when k of them have been moved (their Up, their From, their To). -/
def hgN (nv : Nat → Nd) (n : Nat) (by' : Int) (j : Nat) : Nd := ⟨(nv j).k, (nv j).f + by', (nv j).t + by', (nv j).u + (n : Int)⟩
def hangN (nv : Nat → Nd) (n : Nat) (by' : Int) (j : Nat) : Nd := ⟨(nv j).k, (nv j).f + by', (nv j).t + by', if j = 0 then 0 else (nv j).u + (n : Int)⟩
def hgK (nv : Nat → Nd) (n : Nat) (by' : Int) (k j : Nat) : Nd := if j < k then hgN nv n by' j else nv j
def HgR (LA : List Nd) (nv : Nat → Nd) (n m : Nat) (by' : Int) (g cap base : Nat) (w : World) (v30 : Value) (wr : World) : Prop :=
  ∃ k : Nat, v30 = .int .i64 (k : Int) ∧ k ≤ m ∧ wr.ownsRow base 30 4 (.slice (some ⟨g, 0, none⟩) (n + m) cap) (n + m) (cellsN (LA ++ lstf m (hgK nv n by' k))) ∧ Below base w wr
theorem app_at {LA LB : List Nd} {n j : Nat} {x : Nd} (hn : LA.length = n) (h : LB[j]? = some x) : (LA ++ LB)[n + j]? = some x := by
  rw [List.getElem?_append_right (by omega), show n + j - LA.length = j from by omega]
  exact h
theorem app_set {LA LB : List Nd} {n j : Nat} {x : Nd} (hn : LA.length = n) : (LA ++ LB).set (n + j) x = LA ++ LB.set j x := by
  rw [List.set_append_right _ _ (by omega), show n + j - LA.length = j from by omega]
section
variable (w : World)
/-- A node as Sub leaves it, when k of them have been moved. -/
def sbN (nv : Nat → Nd) (i k j : Nat) : Nd := if j < k then ⟨(nv (i + j)).k, (nv (i + j)).f, (nv (i + j)).t, (nv (i + j)).u - (i : Int)⟩ else nv (i + j)
/-- A node of a row that Sub returns. -/
def subN (nv : Nat → Nd) (i j : Nat) : Nd := ⟨(nv (i + j)).k, (nv (i + j)).f, (nv (i + j)).t, if j = 0 then -1 else (nv (i + j)).u - (i : Int)⟩
def SbRl (nv : Nat → Nd) (i d : Nat) (g cap base : Nat) (w : World) (v20 : Value) (wr : World) : Prop :=
  ∃ k : Nat, v20 = .int .i64 (k : Int) ∧ k ≤ d ∧ wr.ownsRow base 30 4 (.slice (some ⟨g, 0, none⟩) d cap) d (cellsN (lstf d (sbN nv i k))) ∧ Below base w wr
set_option maxRecDepth 100000 in
set_option maxHeartbeats 4000000 in
theorem sub_any (ao : Option Addr) (len cap : Nat) (nv : Nat → Nd) (hrow : NRow w ao len nv) (i : Nat) (hi : i < len) (hlen : len ≤ 10000) (hcap : len ≤ cap) (e : Nat) (he : IsEnd nv len i e) (hu : ∀ j, j < len → -1 ≤ (nv j).u ∧ (nv j).u ≤ 10000) :
    Calls Try.prog 20 #[.slice ao len cap, .int .i64 (i : Int)] w fun r w' => (∃ oa oc, r = .returned (.slice oa (e - i) oc) ∧ w'.ownsRow w.heap.size 30 4 (.slice oa (e - i) oc) (e - i) (cellsN (lstf (e - i) (subN nv i)))) ∧ Below w.heap.size w w' := by
  have HS := Lib.hid (fun W => stands_any W ao len cap (i : Int) true (by simp; omega))
  have HE := Lib.hid (fun W (h : NRow W ao len nv) => end_any W ao len cap nv h i hi (by omega) e he)
  have HROW := Lib.hid hrow
  have het := he.lt
  have hel := he.le
  obtain ⟨b, off, rfl, hb, _⟩ := hrow i hi
  obtain ⟨d, hd⟩ : ∃ d, e - i = d := ⟨_, rfl⟩
  have HSRC := Lib.hid (part_src (cap := cap - i) hrow het hel)
  rw [hd] at HSRC ⊢
  have HU := Lib.hid hu
  have HD := Lib.hid hd
  have hd0 : 0 < d := by omega
  have hdl : d ≤ 10000 := by omega
  clear hrow he hu hd
  go_enter Try.func20, Try.ntmps20
  go_wp2_with fail
  refine (HS.out w).mono ?_
  rintro r w1 ⟨rfl, rfl⟩
  go_wp2_with fail
  refine (HE.out w1 HROW.out).mono ?_
  rintro r w2 ⟨rfl, rfl⟩
  have q0 : (i : Int) ≤ (e : Int) := by omega
  have q1 : (e : Int) ≤ (cap : Int) := by omega
  go_wp2_with fail
  rw [show e - i = d from HD.out]
  refine (clone_some w2 b (off + i * 4) d (cap - i) _ HSRC.out (lstf_len _ _).symm (by omega)).mono ?_
  rintro r w3 ⟨⟨oa, oc, rfl, hO⟩, hB⟩
  obtain ⟨g, c', hgc, hgb, hgc1, hgc2, hgl⟩ := owns_nil hO hd0
  obtain ⟨rfl, rfl⟩ : oa = some ⟨g, 0, none⟩ ∧ oc = c' := by simpa using hgc
  have HO := Lib.hid hO
  have HB := Lib.hid hB
  clear hO hB hgc
  go_wp2
  go_loopw [20] (fun v20 wr => SbRl nv i d g oc w2.heap.size w2 v20 wr) (fun v20 _ => d - (intOf v20).toNat)
  case atStart => exact ⟨0, rfl, Nat.zero_le _, HO.out, HB.out⟩
  case round =>
    obtain ⟨k, rfl, hk, hO, hB⟩ := hrel
    have HOK := Lib.hid hO
    have HBK := Lib.hid hB
    clear hO hB
    have hf3 : ∀ o, wr.frozen? ⟨g, o, none⟩ = false := fun o => owns_frozen HOK.out o
    by_cases hlt : (k : Int) < (d : Int)
    · have hlt' : k < d := by omega
      obtain ⟨c0, c1, c2, c3⟩ := owns_cells HOK.out (lstf_at (f := sbN nv i k) hlt')
      have hkk : sbN nv i k k = nv (i + k) := by unfold sbN; rw [if_neg (Nat.lt_irrefl _)]
      rw [hkk] at c0 c1 c2 c3
      have hub := HU.out (i + k) (by have := HD.out; omega)
      have hcs := cellsN_set (lstf_at (f := sbN nv i k) hlt') (q := sbN nv i (k + 1) k) (c := 3) (v := .int .i64 ((nv (i + k)).u - (i : Int))) (by rw [hkk]; unfold sbN; rw [if_pos (Nat.lt_succ_self _)]; exact cellN_u _ _) (by decide)
      rw [lstf_set hlt' (fun j hj hne => by unfold sbN; by_cases h1 : j < k; rw [if_pos h1, if_pos (by omega)]; rw [if_neg h1, if_neg (by omega)])] at hcs
      have HCS := Lib.hid hcs
      obtain ⟨P, hP⟩ : ∃ P, (nv (i + k)).u = P := ⟨_, rfl⟩
      rw [hP] at c3 hub hcs
      have HCS2 := Lib.hid hcs
      have f3 := hf3 (k * 4 + 3)
      have r0 : (0 : Int) ≤ (k : Int) := by omega
      have r1 : IntKind.i64.wrap (P - (i : Int)) = P - (i : Int) := IntWalk.i64_in _ (by omega)
      clear hP c0 c1 c2 hkk hcs hub
      go_wp2
      go_roundw
      case rel =>
        refine ⟨k + 1, by go_num, by omega, ?_, HBK.out.setCell (p := ⟨g, k * 4 + 3, none⟩) hgb _⟩
        rw [HCS2.out]
        exact owns_set HOK.out _ _
      case measure => simp [intOf]; omega
    · obtain rfl : k = d := by omega
      have hf0 := hf3 3
      obtain ⟨c0, c1, c2, c3⟩ := owns_cells HOK.out (lstf_at (f := sbN nv i k) hd0)
      have hcs := cellsN_set (lstf_at (f := sbN nv i k) hd0) (q := subN nv i 0) (c := 3) (v := .int .i64 (-1)) (by unfold subN sbN; rw [if_pos hd0, if_pos rfl]; rfl) (by decide)
      rw [lstf_set hd0 (fun j hj hne => by unfold subN sbN; rw [if_pos hj, if_neg hne])] at hcs
      simp only [Nat.zero_mul, Nat.zero_add] at c3 hcs
      have HCS := Lib.hid hcs
      have p0 : (0 : Int) < (k : Int) := by omega
      clear hcs c0 c1 c2
      obtain ⟨P, hP⟩ : ∃ P, (sbN nv i k 0).u = P := ⟨_, rfl⟩
      rw [hP] at c3
      clear hP
      go_wp2
      go_ret
      refine ⟨⟨_, _, rfl, ?_⟩, HBK.out.setCell (p := ⟨g, 3, none⟩) hgb _⟩
      rw [HCS.out]
      exact owns_set HOK.out _ _
end
end Go.Proofs.Ytppipngdakfbpaa

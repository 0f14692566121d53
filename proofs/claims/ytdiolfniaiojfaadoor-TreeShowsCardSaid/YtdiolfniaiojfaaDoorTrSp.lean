/- The text of a right tree, plainly: how it is told node by node, that what Show tells is it, and that it leads to the tree. No condition: nothing here speaks of the program. -/
import Derived.Lib.ItoaNum
import Derived.Test.YtdiolfniaiojfaaDoorTrP
import Derived.Test.YtdiolfniaiojfaaDoorTrR
namespace Go.Proofs.YtdiolfniaiojfaaDoor
open Go.RowKit Go.Lib
set_option linter.unusedVariables false

/-- A node's own text. -/
def hdL (x : Nd) : List UInt8 := bt letL x.k.toNat :: (decDigits x.f.toNat ++ 45 :: decDigits x.t.toNat)
section
variable (nv : Nat → Nd)
/-- What stands right ahead of a node. -/
def sepL (k : Nat) : List UInt8 := if k = 0 then [] else if (nv k).u = ((k - 1 : Nat) : Int) then [40] else [32]
/-- How many brackets are shut ahead of a node. -/
def clN (k : Nat) : Nat := if k = 0 then 0 else (pops nv k).length - 1
/-- n closing brackets. -/
def shutL (n : Nat) : List UInt8 := List.replicate n 41
/-- All up to a node. -/
def gL : Nat → List UInt8
  | 0 => []
  | k + 1 => gL k ++ (shutL (clN nv k) ++ (sepL nv k ++ hdL (nv k)))
def endN (n : Nat) : Nat := (chn nv (n - 1)).length - 1
/-- The whole text. -/
def fullL (n : Nat) : List UInt8 := gL nv n ++ shutL (endN nv n)
/-- Some nodes, without what is shut. -/
def hsL (b e : Nat) : List UInt8 := (List.range' b (e - b)).flatMap (fun j => sepL nv j ++ hdL (nv j))
/-- A round of Show: how many nodes have begun, and the text. -/
def shS (p : Nat × List UInt8) (x : Nat) : Nat × List UInt8 := (max p.1 (x + 1), p.2 ++ hsL nv p.1 (x + 1) ++ (if x + 1 < max p.1 (x + 1) then [41] else []))
end
variable {nv : Nat → Nd}
theorem hsL_succ {b e : Nat} (h : b ≤ e) : hsL nv b (e + 1) = hsL nv b e ++ (sepL nv e ++ hdL (nv e)) := by
  unfold hsL
  rw [show e + 1 - b = (e - b) + 1 from by omega, List.range'_concat, List.flatMap_append]
  simp [show b + (e - b) = e from by omega]
theorem hsL_nil {b e : Nat} (h : e ≤ b) : hsL nv b e = [] := by
  unfold hsL
  rw [show e - b = 0 from by omega]
  rfl
theorem hsL_cons {b e : Nat} (h : b < e) : hsL nv b e = (sepL nv b ++ hdL (nv b)) ++ hsL nv (b + 1) e := by
  unfold hsL
  rw [show e - b = (e - (b + 1)) + 1 from by omega, List.range'_succ, List.flatMap_cons]
theorem shutL_succ (n : Nat) : shutL (n + 1) = shutL n ++ [41] := by unfold shutL; rw [List.replicate_succ']
theorem shutL_add (n m : Nat) : shutL (n + m) = shutL n ++ shutL m := by unfold shutL; rw [List.replicate_append_replicate]
theorem sh_rest {k : Nat} : ∀ (r : List Nat) (m : Nat) (t : List UInt8), (∀ x ∈ r, x + 1 < k) → r.foldl (shS nv) (k, t) = (k, t ++ shutL r.length) := by
  intro r
  induction r with
  | nil => intro m t _; simp [shutL]
  | cons x r ih =>
    intro m t h
    have hx := h x (List.mem_cons_self ..)
    rw [List.foldl_cons]
    have e : shS nv (k, t) x = (k, t ++ [41]) := by
      unfold shS
      simp only
      rw [show max k (x + 1) = k from by omega, hsL_nil (by omega), if_pos (by omega), List.append_nil]
    rw [e, ih m _ (fun y hy => h y (List.mem_cons_of_mem _ hy)), List.length_cons, Nat.add_comm, shutL_add]
    simp [shutL]
theorem sh_chain {k : Nat} {s : Nat × List UInt8} {G : List UInt8} {r : List Nat} (h1 : s.1 ≤ k) (h2 : s.2 ++ hsL nv s.1 k = G) (h0 : 0 < k) (hr : ∀ x ∈ r, x < k - 1) : ((k - 1) :: r).foldl (shS nv) s = (k, G ++ shutL r.length) := by
  rw [List.foldl_cons]
  have e : shS nv s (k - 1) = (k, G) := by
    unfold shS
    rw [show k - 1 + 1 = k from by omega, show max s.1 k = k from by omega, h2, if_neg (by omega), List.append_nil]
  rw [e, sh_rest r 0 _ (fun x hx => by have := hr x hx; omega)]
theorem sh_rounds {n : Nat} (hs : Sp nv n) : ∀ k, 0 < k → k ≤ n → ∃ s : Nat × List UInt8, (yl nv (k - 1)).foldl (shS nv) (0, []) = s ∧ s.1 < k ∧ s.2 ++ hsL nv s.1 k = gL nv k := by
  intro k
  induction k with
  | zero => intro h; omega
  | succ k ih =>
    intro _ hk
    rcases Nat.eq_zero_or_pos k with rfl | h0
    · refine ⟨(0, []), rfl, by omega, ?_⟩
      rw [hsL_succ (Nat.le_refl _), hsL_nil (Nat.le_refl _)]
      simp [gL, clN, shutL]
    · obtain ⟨s, h1, h2, h3⟩ := ih h0 (by omega)
      obtain ⟨u, e, l, g, hc, hp, hne, heq⟩ := pops_split hs h0 (by omega : k < n)
      have hyl : yl nv (k + 1 - 1) = yl nv (k - 1) ++ pops nv k := by
        obtain ⟨j, rfl⟩ : ∃ j, k = j + 1 := ⟨k - 1, by omega⟩
        rfl
      rw [hyl, List.foldl_append, h1]
      have hg : gL nv (k + 1) = gL nv k ++ (shutL (clN nv k) ++ (sepL nv k ++ hdL (nv k))) := rfl
      rcases Classical.em (u = k - 1) with hu | hu
      · have hpn := heq hu
        refine ⟨s, by rw [hpn]; rfl, by omega, ?_⟩
        rw [hsL_succ (by omega), ← List.append_assoc, h3, hg]
        unfold clN
        rw [if_neg (by omega), hpn]
        simp [shutL]
      · obtain ⟨r, hr, hrl⟩ := hne hu
        refine ⟨(k, gL nv k ++ shutL r.length), ?_, by omega, ?_⟩
        · rw [hr]
          exact sh_chain (by omega) h3 h0 hrl
        · rw [hsL_succ (Nat.le_refl _), hsL_nil (Nat.le_refl _), hg]
          unfold clN
          rw [if_neg (by omega), hr]
          simp
/-- What Show's rounds tell is the whole text. -/
theorem sh_full {n : Nat} (hs : Sp nv n) (h0 : 0 < n) : (ups nv n).foldl (shS nv) (0, []) = (n, fullL nv n) := by
  unfold ups
  rw [if_neg (by omega), List.foldl_append]
  obtain ⟨s, h1, h2, h3⟩ := sh_rounds hs n h0 (Nat.le_refl _)
  obtain ⟨r, hr⟩ := chn_head (nv := nv) (n - 1)
  have hlt : ∀ x ∈ r, x < n - 1 := by
    intro x hx
    have hm : x ∈ chn nv (n - 1) := by rw [hr]; exact List.mem_cons_of_mem _ hx
    have hle := ((mem_chn (n - 1)).1 hm).le
    rcases Nat.lt_or_ge x (n - 1) with g | g
    · exact g
    · exfalso
      obtain rfl : x = n - 1 := by omega
      rcases Classical.em (0 ≤ (nv (n - 1)).u ∧ (nv (n - 1)).u.toNat < n - 1) with h | h
      · rw [chn_up (c := (nv (n - 1)).u.toNat) (by omega) h.2] at hr
        injection hr with _ hr
        rw [← hr] at hx
        have := ((mem_chn _).1 hx).le
        omega
      · rw [chn, dif_neg h] at hr
        injection hr with _ hr
        rw [← hr] at hx
        cases hx
  rw [h1, hr, sh_chain (by omega) h3 h0 hlt]
  unfold fullL endN
  rw [hr]
  rfl

/-- What of the whole text is behind d nodes from the end. -/
def restL (nv : Nat → Nd) (n : Nat) : Nat → List UInt8
  | 0 => shutL (endN nv n)
  | d + 1 => shutL (clN nv (n - (d + 1))) ++ (sepL nv (n - (d + 1)) ++ (hdL (nv (n - (d + 1))) ++ restL nv n d))
theorem rest_full {n : Nat} : ∀ d, d ≤ n → gL nv (n - d) ++ restL nv n d = fullL nv n := by
  intro d
  induction d with
  | zero => intro _; rfl
  | succ d ih =>
    intro hd
    rw [← ih (by omega)]
    obtain ⟨k, hk⟩ : ∃ k, n - (d + 1) = k := ⟨_, rfl⟩
    have e : n - d = k + 1 := by omega
    rw [e]
    show gL nv (n - (d + 1)) ++ (shutL (clN nv (n - (d + 1))) ++ (sepL nv (n - (d + 1)) ++ (hdL (nv (n - (d + 1))) ++ restL nv n d))) = (gL nv k ++ (shutL (clN nv k) ++ (sepL nv k ++ hdL (nv k)))) ++ restL nv n d
    rw [hk]
    simp [List.append_assoc]

/-! Numbers as they are written. -/
theorem dd_ne (v : Nat) : decDigits v ≠ [] := by
  rw [decDigits]
  split
  · simp
  · simp
theorem dd_dig : ∀ v, ∀ c ∈ decDigits v, 48 ≤ c.toNat ∧ c.toNat ≤ 57 := by
  intro v
  induction v using Nat.strongRecOn with
  | _ v ih =>
    intro c hc
    rw [decDigits] at hc
    split at hc
    · rename_i h
      rw [List.mem_singleton] at hc
      subst hc
      rw [UInt8.toNat_ofNat']
      omega
    · rename_i h
      rcases List.mem_append.1 hc with g | g
      · exact ih (v / 10) (by omega) c g
      · rw [List.mem_singleton] at g
        subst g
        rw [UInt8.toNat_ofNat']
        omega
theorem dd_head : ∀ v, 0 < v → ∀ c, (decDigits v)[0]? = some c → c.toNat ≠ 48 := by
  intro v
  induction v using Nat.strongRecOn with
  | _ v ih =>
    intro h0 c hc
    rw [decDigits] at hc
    split at hc
    · rename_i h
      simp at hc
      subst hc
      rw [show (48 : UInt8) + UInt8.ofNat v = UInt8.ofNat (48 + v) from by simp, UInt8.toNat_ofNat']
      omega
    · rename_i h
      have hne := dd_ne (v / 10)
      have hl : 0 < (decDigits (v / 10)).length := List.length_pos_iff.2 hne
      rw [List.getElem?_append_left hl] at hc
      exact ih (v / 10) (by omega) (by omega) c hc
theorem dd_len : ∀ (k v : Nat), v < 10 ^ (k + 1) → (decDigits v).length ≤ k + 1 := by
  intro k
  induction k with
  | zero => intro v h; rw [decDigits, dif_pos (by simpa using h)]; simp
  | succ k ih =>
    intro v h
    rw [decDigits]
    split
    · simp
    · rw [List.length_append]
      have := ih (v / 10) (by rw [Nat.pow_succ] at h; omega)
      simp only [List.length_singleton]
      omega
theorem dd_one {v : Nat} (h : 10 ≤ v) : ∃ D, decDigits v = D ++ [UInt8.ofNat (48 + v % 10)] ∧ D = decDigits (v / 10) := ⟨_, by rw [decDigits, dif_neg (by omega)], rfl⟩
/-- The byte of a text that is given as a list. -/
theorem bt_list (l : List UInt8) (i : Nat) : bt ⟨l.toArray⟩ i = l[i]?.getD 0 := by
  unfold bt
  have hsz : (⟨l.toArray⟩ : ByteArray).size = l.length := by simp [ByteArray.size]
  split
  · rename_i h
    rw [hsz] at h
    rw [List.getElem?_eq_getElem h]
    rfl
  · rename_i h
    rw [hsz] at h
    rw [List.getElem?_eq_none (by omega)]
    rfl
theorem bt_mid {A D B : List UInt8} {j : Nat} (h : j < D.length) : bt ⟨(A ++ (D ++ B)).toArray⟩ (A.length + j) = D[j]'h := by
  rw [bt_list, List.getElem?_append_right (by omega), Nat.add_sub_cancel_left, List.getElem?_append_left h, List.getElem?_eq_getElem h]
  rfl
theorem bt_behind {A B : List UInt8} : bt ⟨(A ++ B).toArray⟩ A.length = B[0]?.getD 0 := by
  rw [bt_list, List.getElem?_append_right (Nat.le_refl _), Nat.sub_self]
theorem nval_dd : ∀ (v : Nat) (A B : List UInt8), nval ⟨(A ++ (decDigits v ++ B)).toArray⟩ A.length (decDigits v).length = v := by
  intro v
  induction v using Nat.strongRecOn with
  | _ v ih =>
    intro A B
    rcases Nat.lt_or_ge v 10 with h | h
    · have e : decDigits v = [UInt8.ofNat (48 + v)] := by rw [decDigits, dif_pos h]
      have hb := bt_mid (A := A) (D := [UInt8.ofNat (48 + v)]) (B := B) (j := 0) (by simp)
      rw [e]
      simp only [List.length_singleton, nval, Nat.zero_mul, Nat.zero_add]
      rw [hb]
      simp only [List.getElem_cons_zero]
      rw [UInt8.toNat_ofNat']
      omega
    · obtain ⟨D, e, hD⟩ := dd_one h
      have hl : (decDigits v).length = D.length + 1 := by rw [e]; simp
      rw [hl]
      show nval _ A.length D.length * 10 + _ = v
      have h1 := ih (v / 10) (by omega) A ([UInt8.ofNat (48 + v % 10)] ++ B)
      have e2 : A ++ (decDigits v ++ B) = A ++ (decDigits (v / 10) ++ ([UInt8.ofNat (48 + v % 10)] ++ B)) := by rw [e, hD]; simp [List.append_assoc]
      have hb := bt_mid (A := A) (D := decDigits v) (B := B) (j := D.length) (by omega)
      rw [hb]
      have h3 : (decDigits v)[D.length]'(by omega) = UInt8.ofNat (48 + v % 10) := by simp [e]
      rw [h3, e2, hD, h1, UInt8.toNat_ofNat']
      omega
theorem nlen_dd {v : Nat} {A B : List UInt8} (hv : v < 10000000) (hB : ∀ c, B[0]? = some c → ¬ (48 ≤ c.toNat ∧ c.toNat ≤ 57)) : nlen ⟨(A ++ (decDigits v ++ B)).toArray⟩ A.length = (decDigits v).length := by
  refine nlen_of (fun j hj => ?_) ?_
  · have h7 := dd_len 6 v (by simpa using hv)
    refine cont_mk ?_ (by omega) ?_
    · unfold dg
      rw [decide_eq_true_iff, bt_mid hj]
      exact dd_dig v _ (List.getElem_mem hj)
    · rcases Nat.eq_zero_or_pos j with h | h
      · exact .inl h
      · refine .inr ?_
        have h0 : 0 < (decDigits v).length := by omega
        have := bt_mid (A := A) (D := decDigits v) (B := B) h0
        rw [Nat.add_zero] at this
        rw [this]
        have h10 : 10 ≤ v := by
          rcases Nat.lt_or_ge v 10 with g | g
          · rw [decDigits, dif_pos g] at hj
            simp at hj
            omega
          · exact g
        exact dd_head v (by omega) _ (List.getElem?_eq_getElem h0)
  · refine cont_no (.inl ?_)
    unfold dg
    rw [decide_eq_false_iff_not]
    have e : A ++ (decDigits v ++ B) = (A ++ decDigits v) ++ B := by rw [List.append_assoc]
    rw [e, show A.length + (decDigits v).length = (A ++ decDigits v).length from by rw [List.length_append], bt_behind]
    rcases hb : B[0]? with _ | c
    · decide
    · exact hB c hb
theorem letK_at : ∀ k, 1 ≤ k → k ≤ 18 → letK (bt letL k).toNat = k := by
  intro k h1 h2
  have : ∀ k, k < 19 → 1 ≤ k → letK (bt letL k).toNat = k := by decide +kernel
  exact this k (by omega) h1
/-- A node's text, as it is read. -/
theorem ndok_at {A B : List UInt8} {x : Nd} (hk1 : 1 ≤ x.k) (hk2 : x.k ≤ 18) (hf : 0 ≤ x.f) (hf2 : x.f < 10000000) (ht : 0 ≤ x.t) (ht2 : x.t < 10000000) (hB : ∀ c, B[0]? = some c → ¬ (48 ≤ c.toNat ∧ c.toNat ≤ 57)) :
    NdOk ⟨(A ++ (hdL x ++ B)).toArray⟩ A.length x.u x (A.length + (hdL x).length) := by
  obtain ⟨s, hs⟩ : ∃ s : ByteArray, s = ⟨(A ++ (hdL x ++ B)).toArray⟩ := ⟨_, rfl⟩
  have b0 : bt s A.length = bt letL x.k.toNat := by
    rw [hs]
    have := bt_mid (A := A) (D := hdL x) (B := B) (j := 0) (by simp [hdL])
    rw [Nat.add_zero] at this
    rw [this]
    rfl
  have e1 : A ++ (hdL x ++ B) = (A ++ [bt letL x.k.toNat]) ++ (decDigits x.f.toNat ++ (45 :: (decDigits x.t.toNat ++ B))) := by simp [hdL, List.append_assoc]
  have l1 : (A ++ [bt letL x.k.toNat]).length = A.length + 1 := by simp
  have n1 : nlen s (A.length + 1) = (decDigits x.f.toNat).length := by
    rw [hs, e1, ← l1]
    exact nlen_dd (by omega) (fun c hc => by simp at hc; subst hc; decide)
  have v1 : nval s (A.length + 1) (decDigits x.f.toNat).length = x.f.toNat := by
    rw [hs, e1, ← l1]
    exact nval_dd _ _ _
  have e2 : A ++ (hdL x ++ B) = (A ++ [bt letL x.k.toNat] ++ decDigits x.f.toNat) ++ (45 :: (decDigits x.t.toNat ++ B)) := by simp [hdL, List.append_assoc]
  have l2 : (A ++ [bt letL x.k.toNat] ++ decDigits x.f.toNat).length = A.length + 1 + (decDigits x.f.toNat).length := by simp; omega
  have b1 : (bt s (A.length + 1 + (decDigits x.f.toNat).length)).toNat = 45 := by
    rw [hs, e2, ← l2, bt_behind]
    rfl
  have e3 : A ++ (hdL x ++ B) = (A ++ [bt letL x.k.toNat] ++ decDigits x.f.toNat ++ [45]) ++ (decDigits x.t.toNat ++ B) := by simp [hdL, List.append_assoc]
  have l3 : (A ++ [bt letL x.k.toNat] ++ decDigits x.f.toNat ++ [45]).length = A.length + 1 + (decDigits x.f.toNat).length + 1 := by simp; omega
  have n2 : nlen s (A.length + 1 + (decDigits x.f.toNat).length + 1) = (decDigits x.t.toNat).length := by
    rw [hs, e3, ← l3]
    exact nlen_dd (by omega) hB
  have v2 : nval s (A.length + 1 + (decDigits x.f.toNat).length + 1) (decDigits x.t.toNat).length = x.t.toNat := by
    rw [hs, e3, ← l3]
    exact nval_dd _ _ _
  have hk := letK_at x.k.toNat (by omega) (by omega)
  have d1 := List.length_pos_iff.2 (dd_ne x.f.toNat)
  have d2 := List.length_pos_iff.2 (dd_ne x.t.toNat)
  rw [← hs]
  refine ⟨by rw [b0, hk]; omega, by rw [n1]; omega, by rw [n1]; exact b1, by rw [n1, n2]; omega, ?_, ?_⟩
  · rw [n1, n2]
    simp [hdL]
    omega
  · rw [b0, hk, n1, v1, n2, v2]
    refine Nd.ext' ?_ ?_ ?_ rfl <;> simp only <;> omega
/-- Brackets are shut, up to the node above. -/
theorem fm_pops {s : ByteArray} {L : List Nd} {R : List Nd × Int} {tl : List Nat} {t : Int} : ∀ (r : List Nat) (x a : Nat), chn nv x = x :: (r ++ tl) → (tl = [] ∧ t = -1 ∨ ∃ u : Nat, t = (u : Int) ∧ tl = chn nv u) → (nv 0).u = -1 → (∀ b, b ≤ x → Abv nv 0 b) → (∀ c, c ≤ x → L[c]? = some (nv c)) → (∀ j, j < r.length → (bt s (a + j)).toNat = 41) → Fm s false (a + r.length) t L R → Fm s false a (nv x).u L R := by
  intro r
  induction r with
  | nil =>
    intro x a hc ht h0 hA hL hb hF
    rw [List.nil_append] at hc
    have hu : (nv x).u = t := by
      rcases Classical.em (0 ≤ (nv x).u ∧ (nv x).u.toNat < x) with h | h
      · rw [chn_up (c := (nv x).u.toNat) (by omega) h.2] at hc
        injection hc with _ hc
        rcases ht with ⟨h1, h2⟩ | ⟨u, h1, h2⟩
        · obtain ⟨q, hq⟩ := chn_head (nv := nv) (nv x).u.toNat
          rw [hq, h1] at hc; cases hc
        · rw [h2] at hc
          obtain ⟨q, hq⟩ := chn_head (nv := nv) (nv x).u.toNat
          obtain ⟨q', hq'⟩ := chn_head (nv := nv) u
          rw [hq, hq'] at hc
          injection hc with hc _
          omega
      · rw [chn, dif_neg h] at hc
        injection hc with _ hc
        rcases ht with ⟨h1, h2⟩ | ⟨u, h1, h2⟩
        · rcases (hA x (Nat.le_refl _)).inv with rfl | ⟨c, e, l, g⟩
          · rw [h0, h2]
          · omega
        · obtain ⟨q, hq⟩ := chn_head (nv := nv) u
          rw [h2, hq] at hc; cases hc
    rw [hu]
    exact hF
  | cons c r ih =>
    intro x a hc ht h0 hA hL hb hF
    have h : 0 ≤ (nv x).u ∧ (nv x).u.toNat < x := by
      rcases Classical.em (0 ≤ (nv x).u ∧ (nv x).u.toNat < x) with h | h
      · exact h
      · rw [chn, dif_neg h] at hc
        injection hc with _ hc
        cases hc
    rw [chn_up (c := (nv x).u.toNat) (by omega) h.2] at hc
    injection hc with _ hc
    obtain ⟨q, hq⟩ := chn_head (nv := nv) (nv x).u.toNat
    have hcu : c = (nv x).u.toNat := by
      rw [hq] at hc
      injection hc with hc _
      exact hc.symm
    have hcx : c < x := by omega
    rw [show (nv x).u = (c : Int) from by omega]
    refine .pop (by simpa using hb 0 (by simp)) (hL c (by omega)) ?_
    refine ih c (a + 1) (by rw [hcu] at hc ⊢; exact hc) ht h0 (fun b hb => hA b (by omega)) (fun d hd => hL d (by omega)) (fun j hj => ?_) (by rw [List.length_cons] at hF; rw [show a + 1 + r.length = a + (r.length + 1) from by omega]; exact hF)
    rw [show a + 1 + j = a + (j + 1) from by omega]
    exact hb (j + 1) (by rw [List.length_cons]; omega)
theorem range_nv {k : Nat} : ∀ c, c ≤ k → ((List.range (k + 1)).map nv)[c]? = some (nv c) := fun c hc => by
  rw [List.getElem?_map, List.getElem?_range (by omega)]
  rfl
/-- The whole text leads to the tree. -/
theorem fm_full {n : Nat} {lv : Int} (h : Rt nv n lv) (hlv : lv < 10000000) : Fm ⟨(fullL nv n).toArray⟩ true 0 (-1) [] ((List.range n).map nv, -1) := by
  have hs := h.sp
  have h0 := h.pos
  have nums : ∀ i, i < n → 1 ≤ (nv i).k ∧ (nv i).k ≤ 18 ∧ 0 ≤ (nv i).f ∧ (nv i).f < 10000000 ∧ 0 ≤ (nv i).t ∧ (nv i).t < 10000000 := fun i hi => by
    have h1 := h.ok i hi
    have h2 := nest h.ok i hi 0 (abv0 hs i hi)
    rw [h.f0, h.t0] at h2
    have := h1.k1; have := h1.k2; have := h1.ft
    omega
  obtain ⟨s, hsx⟩ : ∃ s : ByteArray, s = ⟨(fullL nv n).toArray⟩ := ⟨_, rfl⟩
  rw [← hsx]
  have hsize : s.size = (fullL nv n).length := by rw [hsx]; simp [ByteArray.size]
  have key : ∀ d, d < n → Fm s true (gL nv (n - (d + 1)) ++ (shutL (clN nv (n - (d + 1))) ++ sepL nv (n - (d + 1)))).length (nv (n - (d + 1))).u ((List.range (n - (d + 1))).map nv) ((List.range n).map nv, -1) := by
    intro d
    induction d with
    | zero =>
      intro _
      obtain ⟨k, hk⟩ : ∃ k, n = k + 1 := ⟨n - 1, by omega⟩
      subst hk
      rw [show k + 1 - (0 + 1) = k from by omega]
      obtain ⟨A, hA⟩ : ∃ A, gL nv k ++ (shutL (clN nv k) ++ sepL nv k) = A := ⟨_, rfl⟩
      have hf : fullL nv (k + 1) = A ++ (hdL (nv k) ++ shutL (endN nv (k + 1))) := by
        rw [← hA]; simp [fullL, gL, List.append_assoc]
      obtain ⟨n1, n2, n3, n4, n5, n6⟩ := nums k (by omega)
      obtain ⟨r, hr⟩ := chn_head (nv := nv) k
      have hen : endN nv (k + 1) = r.length := by unfold endN; rw [show k + 1 - 1 = k from rfl, hr]; simp
      have hnd := ndok_at (A := A) (B := shutL (endN nv (k + 1))) n1 n2 n3 n4 n5 n6 (fun c hc => by
        unfold shutL at hc
        have := List.mem_of_getElem? hc
        rw [List.mem_replicate] at this
        rw [this.2]; decide)
      rw [← hf, ← hsx] at hnd
      rw [hA]
      have hlen : (A ++ hdL (nv k)).length = A.length + (hdL (nv k)).length := by rw [List.length_append]
      have hby : ∀ j, j < r.length → (bt s (A.length + (hdL (nv k)).length + j)).toNat = 41 := fun j hj => by
        rw [hsx, hf, ← List.append_assoc, ← hlen, ← List.append_nil (shutL _)]
        rw [bt_mid (by rw [hen]; simpa [shutL] using hj)]
        simp [shutL]
      have hLr : (List.range (k + 1)).map nv = (List.range k).map nv ++ [nv k] := by rw [List.range_succ, List.map_append]; rfl
      refine .sht hnd ?_ ?_
      · rcases Nat.eq_zero_or_pos r.length with g | g
        · rw [bt_out]
          · decide
          · rw [hsize, hf, hen, g]; simp [shutL]
        · have := hby 0 g
          rw [Nat.add_zero] at this
          rw [this]; decide
      · rw [← hLr]
        refine fm_pops (nv := nv) (tl := []) (t := -1) r k _ (by rw [List.append_nil]; exact hr) (.inl ⟨rfl, rfl⟩) h.u0 (fun b hb => abv0 hs b (by omega)) (fun c hc => range_nv c hc) hby ?_
        refine .done (by decide) ?_
        rw [hsize, hf, hen]
        simp [shutL]
        omega
    | succ d ih =>
      intro hd
      have ih := ih (by omega)
      obtain ⟨k, hk⟩ : ∃ k, n - (d + 1 + 1) = k := ⟨_, rfl⟩
      have hk1 : n - (d + 1) = k + 1 := by omega
      have hkn : k + 1 < n := by omega
      rw [hk1] at ih
      rw [hk]
      obtain ⟨A, hA⟩ : ∃ A, gL nv k ++ (shutL (clN nv k) ++ sepL nv k) = A := ⟨_, rfl⟩
      have hgk : gL nv (k + 1) = A ++ hdL (nv k) := by rw [← hA]; simp [gL, List.append_assoc]
      obtain ⟨B, hB⟩ : ∃ B, hdL (nv (k + 1)) ++ restL nv n d = B := ⟨_, rfl⟩
      have hf : fullL nv n = A ++ (hdL (nv k) ++ (shutL (clN nv (k + 1)) ++ (sepL nv (k + 1) ++ B))) := by
        rw [← rest_full (d + 1) (by omega), hk1, hgk, ← hB]
        show (A ++ hdL (nv k)) ++ (shutL (clN nv (n - (d + 1))) ++ (sepL nv (n - (d + 1)) ++ (hdL (nv (n - (d + 1))) ++ restL nv n d))) = _
        rw [hk1]
        simp [List.append_assoc]
      obtain ⟨n1, n2, n3, n4, n5, n6⟩ := nums k (by omega)
      have hsep : ∃ c : UInt8, sepL nv (k + 1) = [c] ∧ ((nv (k + 1)).u = (k : Int) → c = 40) ∧ ((nv (k + 1)).u ≠ (k : Int) → c = 32) := by
        unfold sepL
        rw [if_neg (by omega), show k + 1 - 1 = k from rfl]
        split
        · rename_i g; exact ⟨40, rfl, fun _ => rfl, fun h => absurd g h⟩
        · rename_i g; exact ⟨32, rfl, fun h => absurd h g, fun _ => rfl⟩
      obtain ⟨c, hc1, hc2, hc3⟩ := hsep
      have hnd := ndok_at (A := A) (B := shutL (clN nv (k + 1)) ++ (sepL nv (k + 1) ++ B)) n1 n2 n3 n4 n5 n6 (fun b hb => by
        rcases Nat.eq_zero_or_pos (clN nv (k + 1)) with g | g
        · rw [g, hc1] at hb
          simp [shutL] at hb
          subst hb
          rcases Classical.em ((nv (k + 1)).u = (k : Int)) with q | q
          · rw [hc2 q]; decide
          · rw [hc3 q]; decide
        · rw [List.getElem?_append_left (by simpa [shutL] using g)] at hb
          unfold shutL at hb
          have := List.mem_of_getElem? hb
          rw [List.mem_replicate] at this
          rw [this.2]; decide)
      rw [← hf, ← hsx] at hnd
      rw [hA]
      have hlen : (A ++ hdL (nv k)).length = A.length + (hdL (nv k)).length := by rw [List.length_append]
      have hby : ∀ j, j < clN nv (k + 1) → (bt s (A.length + (hdL (nv k)).length + j)).toNat = 41 := fun j hj => by
        rw [hsx, hf, ← List.append_assoc, ← hlen]
        rw [bt_mid (by simpa [shutL] using hj)]
        simp [shutL]
      have hbc : bt s (A.length + (hdL (nv k)).length + clN nv (k + 1)) = c := by
        rw [hsx, hf, hc1]
        have e : A ++ (hdL (nv k) ++ (shutL (clN nv (k + 1)) ++ ([c] ++ B))) = (A ++ hdL (nv k) ++ shutL (clN nv (k + 1))) ++ ([c] ++ B) := by simp [List.append_assoc]
        have l : A.length + (hdL (nv k)).length + clN nv (k + 1) = (A ++ hdL (nv k) ++ shutL (clN nv (k + 1))).length := by simp [shutL]; omega
        rw [e, l, bt_behind]
        rfl
      have hLr : (List.range (k + 1)).map nv = (List.range k).map nv ++ [nv k] := by rw [List.range_succ, List.map_append]; rfl
      have hll : ((List.range k).map nv).length = k := by simp
      have hpl : (gL nv (k + 1) ++ (shutL (clN nv (k + 1)) ++ sepL nv (k + 1))).length = A.length + (hdL (nv k)).length + clN nv (k + 1) + 1 := by
        rw [hgk, hc1]; simp [shutL]; omega
      rw [hpl] at ih
      obtain ⟨u, e, l, g, hch, hp, hne, heq⟩ := pops_split hs (Nat.succ_pos k) hkn
      rw [show k + 1 - 1 = k from rfl] at hch g hne heq
      have e' : (nv (k + 1)).u = (u : Int) := e
      rcases Classical.em (u = k) with hu | hu
      · have hcl : clN nv (k + 1) = 0 := by unfold clN; rw [if_neg (by omega)]; rw [show pops nv (k + 1) = [] from heq hu]; rfl
        have hc40 := hc2 (by rw [e', hu])
        rw [hcl] at hbc ih
        refine .opn hnd (by rw [Nat.add_zero] at hbc; rw [hbc, hc40]; rfl) ?_
        rw [hll, ← hLr, show ((k : Nat) : Int) = (nv (k + 1)).u from by rw [e', hu]]
        rw [Nat.add_zero] at ih
        exact ih
      · have hc32 := hc3 (by rw [e']; omega)
        obtain ⟨r, hr, hrl⟩ := hne hu
        have hcl : clN nv (k + 1) = r.length := by unfold clN; rw [if_neg (by omega)]; rw [show pops nv (k + 1) = k :: r from hr]; rfl
        refine .sht hnd ?_ ?_
        · rcases Nat.eq_zero_or_pos r.length with q | q
          · rw [hcl, q, Nat.add_zero] at hbc
            rw [hbc, hc32]; decide
          · have := hby 0 (by omega)
            rw [Nat.add_zero] at this
            rw [this]; decide
        · rw [← hLr]
          refine fm_pops (nv := nv) (tl := chn nv u) (t := (u : Int)) r k _ (by rw [hch]; rw [show pops nv (Nat.succ k) = k :: r from hr]; rfl) (.inr ⟨u, rfl, rfl⟩) h.u0 (fun b hb => abv0 hs b (by omega)) (fun c hc => range_nv c hc) (fun j hj => hby j (by omega)) ?_
          rw [← hcl]
          refine .nxt (by omega) (by rw [hbc, hc32]; rfl) ?_
          rw [← e']
          exact ih
  have := key (n - 1) (by omega)
  rw [show n - (n - 1 + 1) = 0 from by omega, h.u0] at this
  simpa [gL, clN, sepL, shutL] using this
/-- What the document's own Show tells of a node: up to where what is below it ends. -/
def ShT (nv : Nat → Nd) (n i : Nat) (T : List UInt8) : Prop := ∃ e, IsEnd nv n i e ∧ gL nv i ++ (shutL (clN nv i) ++ (sepL nv i ++ T)) = gL nv e ++ shutL ((chn nv (e - 1)).length - (chn nv i).length)
/-- Where its loop over the later nodes stands. -/
def ShI (nv : Nat → Nd) (n i k c : Nat) (t : List UInt8) : Prop :=
  (c = 0 ∧ (∀ j, i < j → j < k → (nv j).u ≠ (i : Int)) ∧ t = hdL (nv i)) ∨
  (0 < c ∧ ∃ d e, i < d ∧ d < k ∧ (nv d).u = (i : Int) ∧ (∀ j, d < j → j < k → (nv j).u ≠ (i : Int)) ∧ IsEnd nv n d e ∧ gL nv i ++ (shutL (clN nv i) ++ (sepL nv i ++ t)) = gL nv e ++ shutL ((chn nv (e - 1)).length - (chn nv d).length))
theorem ShI.skip {n i k c : Nat} {t : List UInt8} (h : ShI nv n i k c t) (hk : (nv k).u ≠ (i : Int)) : ShI nv n i (k + 1) c t := by
  rcases h with ⟨h1, h2, h3⟩ | ⟨h1, d, e, h2, h3, h4, h5, h6, h7⟩
  · refine .inl ⟨h1, fun j hj1 hj2 => ?_, h3⟩
    rcases Nat.lt_or_ge j k with g | g
    · exact h2 j hj1 g
    · obtain rfl : j = k := by omega
      exact hk
  · refine .inr ⟨h1, d, e, h2, by omega, h4, fun j hj1 hj2 => ?_, h6, h7⟩
    rcases Nat.lt_or_ge j k with g | g
    · exact h5 j hj1 g
    · obtain rfl : j = k := by omega
      exact hk
/-- Behind what is below an elder sister the next one comes, or what is below i ends. -/
theorem end_next {n i d e : Nat} (hs : Sp nv n) (hd : i < d) (hu : (nv d).u = (i : Int)) (he : IsEnd nv n d e) (hn : e < n) (hi : Abv nv i e) : (nv e).u = (i : Int) := by
  have hed := he.lt
  obtain ⟨u, e1, l1, g1⟩ := hs.2 e (by omega) hn
  have hst := he.stop hn
  have hdb := end_below hs he (e - 1) (by omega) (by omega)
  have hud : Abv nv u d := g1.tot hdb (by omega)
  have hui : Abv nv u i := by
    rcases hud.inv with rfl | ⟨c, e2, l2, g2⟩
    · omega
    · obtain rfl : c = i := by omega
      exact g2
  have hiu : Abv nv i u := by
    rcases hi.inv with rfl | ⟨c, e2, l2, g2⟩
    · omega
    · obtain rfl : c = u := by omega
      exact g2
  have := hui.le
  have := hiu.le
  omega
theorem ShI.kid {n i k c : Nat} {t T : List UInt8} (hs : Sp nv n) (hi : i < k) (hkn : k < n) (h : ShI nv n i k c t) (hk : (nv k).u = (i : Int)) (hT : ShT nv n k T) : ShI nv n i (k + 1) (c + 1) (t ++ ((if c = 0 then [40] else [32]) ++ T)) := by
  obtain ⟨ek, hek, hTe⟩ := hT
  refine .inr ⟨by omega, k, ek, hi, by omega, hk, fun j h1 h2 => by omega, hek, ?_⟩
  rw [← hTe]
  obtain ⟨u, e1, l1, g1, hch, hp, hne, heq⟩ := pops_split hs (by omega : 0 < k) hkn
  obtain rfl : u = i := by omega
  have hck : ∀ j, u < j → j ≤ k - 1 → Abv nv u j := fun j h1 h2 => contig hs (k - 1) (by omega) u g1 j (by omega) h2
  rcases h with ⟨h1, h2, h3⟩ | ⟨h1, d, e, hd1, hd2, hd3, hd4, hd5, hd6⟩
  · have hk1 : k = u + 1 := by
      rcases Nat.lt_or_ge (u + 1) k with g | g
      · exfalso
        have ha := hck (u + 1) (by omega) (by omega)
        rcases ha.inv with h | ⟨c', e2, l2, g2⟩
        · omega
        · have := g2.le
          exact h2 (u + 1) (by omega) g (by rw [e2]; omega)
      · omega
    subst hk1
    rw [h1, if_pos rfl, h3]
    have hcl : clN nv (u + 1) = 0 := by unfold clN; rw [if_neg (by omega)]; rw [show pops nv (u + 1) = [] from heq rfl]; rfl
    have hse : sepL nv (u + 1) = [40] := by unfold sepL; rw [if_neg (by omega), if_pos (by rw [hk]; rfl)]
    rw [hcl, hse]
    simp [gL, shutL, List.append_assoc]
  · have hke : k = e := by
      rcases Nat.lt_trichotomy k e with g | g | g
      · have := hd5.below k hd2 g
        omega
      · exact g
      · exfalso
        have hde := hd5.lt
        exact hd4 e hde g (end_next hs hd1 hd3 hd5 (by omega) (hck e (by omega) (by omega)))
    subst hke
    rw [if_neg (by omega)]
    have hse : sepL nv k = [32] := by unfold sepL; rw [if_neg (by omega), if_neg (by rw [hk]; omega)]
    have hcl : clN nv k = (chn nv (k - 1)).length - (chn nv d).length := by
      unfold clN
      rw [if_neg (by omega), hch, List.length_append, chn_up hd3 (by omega), List.length_cons]
      omega
    rw [hse, hcl]
    have : gL nv u ++ (shutL (clN nv u) ++ (sepL nv u ++ (t ++ ([32] ++ T)))) = (gL nv u ++ (shutL (clN nv u) ++ (sepL nv u ++ t))) ++ ([32] ++ T) := by simp [List.append_assoc]
    rw [this, hd6]
    simp [List.append_assoc]
theorem ShI.fin {n i c : Nat} {t : List UInt8} (hs : Sp nv n) (hi : i < n) (h : ShI nv n i n c t) : ShT nv n i (t ++ (if 0 < c then [41] else [])) := by
  rcases h with ⟨h1, h2, h3⟩ | ⟨h1, d, e, hd1, hd2, hd3, hd4, hd5, hd6⟩
  · refine ⟨i + 1, ⟨by omega, by omega, fun k h4 h5 => by omega, fun h4 => ?_⟩, ?_⟩
    · obtain ⟨u, e1, l1, g1⟩ := hs.2 (i + 1) (by omega) h4
      have := h2 (i + 1) (by omega) h4
      omega
    · rw [if_neg (by omega), h3, show i + 1 - 1 = i from rfl]
      simp [gL, shutL]
  · have hde := hd5.lt
    have hbel := end_below hs hd5 (e - 1) (by omega) (by omega)
    refine ⟨e, ⟨by omega, hd5.le, fun k h4 h5 => ?_, fun h4 => ?_⟩, ?_⟩
    · have hab : Abv nv i (e - 1) := (Abv.up hd3 hd1 .self).trans hbel
      have ha := contig hs (e - 1) (by have := hd5.le; omega) i hab k (by omega) (by omega)
      rcases ha.inv with h | ⟨c', e2, l2, g2⟩
      · omega
      · have := g2.le; omega
    · obtain ⟨u, e1, l1, g1⟩ := hs.2 e (by omega) h4
      have hst := hd5.stop h4
      rcases Nat.lt_or_ge u i with g | g
      · omega
      · exfalso
        have hud : Abv nv u d := g1.tot hbel (by omega)
        have hiu : Abv nv i u := by
          rcases hud.inv with rfl | ⟨c', e2, l2, g2⟩
          · omega
          · obtain rfl : c' = i := by omega
            have := g2.le
            obtain rfl : u = c' := by omega
            exact .self
        exact hd4 e hde h4 (end_next hs hd1 hd3 hd5 h4 (.up e1 l1 hiu))
    · rw [if_pos h1]
      have : gL nv i ++ (shutL (clN nv i) ++ (sepL nv i ++ (t ++ [41]))) = (gL nv i ++ (shutL (clN nv i) ++ (sepL nv i ++ t))) ++ [41] := by simp [List.append_assoc]
      rw [this, hd6, List.append_assoc, ← shutL_succ]
      congr 2
      obtain ⟨p, hp, _⟩ := chn_split (e - 1) hbel
      rw [hp, List.length_append, chn_up hd3 hd1, List.length_cons]
      omega
theorem ShT.zero {n : Nat} {lv : Int} {T : List UInt8} (h : Rt nv n lv) (hT : ShT nv n 0 T) : T = fullL nv n := by
  obtain ⟨e, he, hT⟩ := hT
  have h0 := h.pos
  have hen : e = n := by
    rcases Nat.lt_or_ge e n with g | g
    · have h1 := he.stop g
      have h2 := he.lt
      obtain ⟨u, e1, _⟩ := h.sp.2 e h2 g
      omega
    · have := he.le; omega
  subst hen
  have hc0 : chn nv 0 = [0] := chn_top (by rw [h.u0]; decide)
  rw [hc0] at hT
  unfold fullL endN
  simpa [gL, clN, sepL, shutL] using hT
end Go.Proofs.YtdiolfniaiojfaaDoor

/- What slices.Insert at a row of ints returns, in one law: whatever the row, nil or not, with room or without. Condition: at most a million ints; what comes lies in another block. -/
import Derived.Test.YtiiebholgmhogaaLnJ
namespace Go.Proofs.Ytiiebholgmhogaa
open Go.RowKit Go.Shelf
set_option linter.unusedVariables false

def splice (L : List Value) (o : Nat) (l : List Value) : List Value := L.take o ++ l ++ L.drop (o + l.length)
theorem splice_len {L : List Value} {o : Nat} {l : List Value} (h : o + l.length ≤ L.length) : (splice L o l).length = L.length := by simp [splice]; omega
theorem splice_get {L : List Value} {o : Nat} {l : List Value} (h : o + l.length ≤ L.length) (k : Nat) : (splice L o l)[k]? = if k < o then L[k]? else if k < o + l.length then l[k - o]? else L[k]? := by
  unfold splice
  have ht : (L.take o).length = o := by simp; omega
  by_cases c1 : k < o
  · rw [if_pos c1, List.getElem?_append_left (by simp; omega), List.getElem?_append_left (by omega), List.getElem?_take_of_lt c1]
  · rw [if_neg c1]
    by_cases c2 : k < o + l.length
    · rw [if_pos c2, List.getElem?_append_left (by simp; omega), List.getElem?_append_right (by omega), ht]
    · rw [if_neg c2, List.getElem?_append_right (by simp; omega), List.getElem?_drop]
      congr 1
      simp
      omega
theorem target_get {xs ys : List Value} {i j m : Nat} (hi : i ≤ xs.length) (hm : ys.length = m) (k : Nat) : (xs.take i ++ ys ++ xs.drop j)[k]? = if k < i then xs[k]? else if k < i + m then ys[k - i]? else xs[j + (k - (i + m))]? := by
  have ht : (xs.take i).length = i := by simp; omega
  by_cases c1 : k < i
  · rw [if_pos c1, List.getElem?_append_left (by simp; omega), List.getElem?_append_left (by omega), List.getElem?_take_of_lt c1]
  · rw [if_neg c1]
    by_cases c2 : k < i + m
    · rw [if_pos c2, List.getElem?_append_left (by simp; omega), List.getElem?_append_right (by omega), ht]
    · rw [if_neg c2, List.getElem?_append_right (by simp; omega), List.getElem?_drop]
      congr 1
      simp
      omega
/-- A list that begins as another one, up to a place. -/
theorem take_of_get {L T : List Value} {N : Nat} (hT : T.length = N) (h : ∀ k, k < N → L[k]? = T[k]?) : L.take N = T := by
  apply List.ext_getElem?
  intro k
  by_cases c : k < N
  · rw [List.getElem?_take_of_lt c, h k c]
  · rw [List.getElem?_eq_none (by simp; omega), List.getElem?_eq_none (by omega)]
theorem get_of_take {L xs : List Value} {n k : Nat} (h : L.take n = xs) (hk : k < n) : L[k]? = xs[k]? := by rw [← h, List.getElem?_take_of_lt hk]

/-- What a change of a row leaves. -/
def Rep (w : World) (sv : Value) (n : Nat) (xs : List Value) (e : Ending) (w' : World) : Prop :=
  ∃ rv, e = .returned rv ∧ w'.ownsRow 0 3 1 rv n xs ∧ (∀ k, rv.ownBlock = some k → sv.ownBlock = some k ∨ w.heap.size ≤ k) ∧ Frm (fun k => sv.ownBlock = some k) w w'

theorem Blk.shape {w : World} {b : Nat} {cs : Array Value} {t : TypeId} (h : Blk w b cs t) : w.shape? b = some (t, cs.size) := by
  simp [World.shape?, show w.heap[b]? = _ from h]
theorem Blk.spliced {w : World} {b : Nat} {cs : Array Value} {t : TypeId} (h : Blk w b cs t) {o : Nat} {l : List Value} (hl : o + l.length ≤ cs.size) : Blk (w.setCells b o l) b (splice cs.toList o l).toArray t := Blk.run l o h hl

theorem ren3 : Try.laysNm221_ren.t 3 = 3 := rfl
theorem ren21 : Try.laysNm221_ren.f 21 = 34 := rfl
theorem ins_shift (b off n c i vb voff m vc : Nat) (cs vs : List Value) (w : World) (hi : i < n) (hm : 0 < m) (hroom : n + m ≤ c) (hc63 : c ≤ 9223372036854775807) (hvb : vb ≠ b)
    (hcl : cs.length = n) (hvl : vs.length = m)
    (hcs : ∀ j v, cs[j]? = some v → w.cell? ⟨b, off + j, none⟩ = some v) (hsp : ∀ j, j < n + m → (w.cell? ⟨b, off + j, none⟩).isSome = true) (hfz : ∀ j, j < n + m → w.frozen? ⟨b, off + j, none⟩ = false)
    (hvs : ∀ j v, vs[j]? = some v → w.cell? ⟨vb, voff + j, none⟩ = some v) (h1c : ∀ v ∈ cs, v.oneCell' = true) (h1v : ∀ v ∈ vs, v.oneCell' = true)
    (tA tB : TypeId) (kA kB : Nat) (hsa : w.shape? vb = some (tA, kA)) (hsb : w.shape? b = some (tB, kB)) (hkB : kB ≠ 0) (hfa : w.frozen? ⟨vb, voff, none⟩ = false) (hfe : w.frozen? ⟨vb, kA, none⟩ = false) :
    Calls Try.prog 34 #[.slice (some ⟨b, off, none⟩) n c, .int .i64 i, .slice (some ⟨vb, voff, none⟩) m vc] w fun e w' =>
      e = .returned (.slice (some ⟨b, off, none⟩) (n + m) c) ∧ w' = (w.drew.setCells b (off + (i + m)) (cs.drop i)).setCells b (off + i) vs := by
  have := Any2.slices_Insert_int_shift Try.laysNm221 b off n c i vb voff m vc cs vs w hi hm hroom hc63 hvb hcl hvl hcs hsp hfz hvs h1c h1v tA tB kA kB hsa hsb hkB hfa hfe
  rwa [ren21] at this
theorem ins_end_room (b off n c vb voff m vc : Nat) (vs : List Value) (w : World) (hm : 0 < m) (hroom : n + m ≤ c) (hc63 : c ≤ 9223372036854775807)
    (hvl : vs.length = m) (hsp : ∀ j, j < m → (w.cell? ⟨b, off + n + j, none⟩).isSome = true) (hfz : ∀ j, j < m → w.frozen? ⟨b, off + n + j, none⟩ = false)
    (hvs : ∀ j v, vs[j]? = some v → w.cell? ⟨vb, voff + j, none⟩ = some v) (h1v : ∀ v ∈ vs, v.oneCell' = true) :
    Calls Try.prog 34 #[.slice (some ⟨b, off, none⟩) n c, .int .i64 n, .slice (some ⟨vb, voff, none⟩) m vc] w fun e w' =>
      e = .returned (.slice (some ⟨b, off, none⟩) (n + m) c) ∧ w' = w.setCells b (off + n) vs := by
  have := Any2.slices_Insert_int_end_room Try.laysNm221 b off n c vb voff m vc vs w hm hroom hc63 hvl hsp hfz hvs h1v
  rwa [ren21] at this
theorem ins_end_grow (base : Option Addr) (n c vb voff m vc : Nat) (cs vs : List Value) (w : World) (hm : 0 < m) (hnc : n ≤ c) (hroom : c < n + m) (hbig : (n + m) * 8 ≤ 140737488355328)
    (hcl : cs.length = n) (hvl : vs.length = m) (hnil : base = none → n = 0)
    (hcs : ∀ a, base = some a → ∀ j v, cs[j]? = some v → w.cell? (a.add j) = some v)
    (hvs : ∀ j v, vs[j]? = some v → w.cell? ⟨vb, voff + j, none⟩ = some v) (h1v : ∀ v ∈ vs, v.oneCell' = true) :
    Calls Try.prog 34 #[.slice base n c, .int .i64 n, .slice (some ⟨vb, voff, none⟩) m vc] w fun e w' =>
      ∃ G, n + m ≤ G ∧ G ≤ maxLen ∧ e = .returned (.slice (some ⟨w.heap.size, 0, none⟩) (n + m) G) ∧
      w' = w.drew.alloc (.cells ((cs ++ vs).toArray ++ Builtin.zeroCells (Value.int .i64 0).cells (G - (n + m))) 3) := by
  have := Any2.slices_Insert_int_end_grow Try.laysNm221 base n c vb voff m vc cs vs w hm hnc hroom hbig hcl hvl hnil hcs hvs h1v
  rw [ren21, ren3] at this
  have hg1 := grownCap_ge w (n + m) c 3
  have hg2 := grownCap_le_maxLen w (n + m) c 3 (by unfold maxLen; omega)
  obtain ⟨G, hG⟩ : ∃ G, grownCap w (n + m) c 3 = G := ⟨_, rfl⟩
  rw [hG] at this hg1 hg2
  exact this.mono fun e w' h => ⟨G, hg1, hg2, h.1, h.2⟩
theorem ins_grow (b off n c i vb voff m vc : Nat) (cs vs : List Value) (w : World) (hi : i < n) (hm : 0 < m) (hnc : n ≤ c) (hroom : c < n + m) (hbig : (n + m) * 8 ≤ 140737488355328)
    (hcl : cs.length = n) (hvl : vs.length = m)
    (hcs : ∀ j v, cs[j]? = some v → w.cell? ⟨b, off + j, none⟩ = some v)
    (hvs : ∀ j v, vs[j]? = some v → w.cell? ⟨vb, voff + j, none⟩ = some v) (h1c : ∀ v ∈ cs, v.oneCell' = true) (h1v : ∀ v ∈ vs, v.oneCell' = true) :
    Calls Try.prog 34 #[.slice (some ⟨b, off, none⟩) n c, .int .i64 i, .slice (some ⟨vb, voff, none⟩) m vc] w fun e w' =>
      ∃ G, n + m ≤ G ∧ G ≤ maxLen ∧ e = .returned (.slice (some ⟨w.heap.size, 0, none⟩) (n + m) G) ∧
      w' = (((w.alloc (.cells ((cs.take i).toArray ++ Builtin.zeroCells (Value.int .i64 0).cells (n + m - i) ++ Builtin.zeroCells (Value.int .i64 0).cells (G - (n + m))) 3)).drew.setCells w.heap.size i vs).drew).setCells w.heap.size (i + m) (cs.drop i) := by
  have := Any2.slices_Insert_int_grow Try.laysNm221 b off n c i vb voff m vc cs vs w hi hm hnc hroom hbig hcl hvl hcs hvs h1c h1v
  rw [ren21, ren3] at this
  have hg1 := grownCap_ge w (n + m) c 3
  have hg2 := grownCap_le_maxLen w (n + m) c 3 (by unfold maxLen; omega)
  obtain ⟨G, hG⟩ : ∃ G, grownCap w (n + m) c 3 = G := ⟨_, rfl⟩
  rw [hG] at this hg1 hg2
  exact this.mono fun e w' h => ⟨G, hg1, hg2, h.1, h.2⟩

theorem zc_size (k : Nat) : (Builtin.zeroCells (Value.int .i64 0).cells k).size = k := by simp [Builtin.zeroCells, Value.cells]
/-- A row that has moved to a new block. -/
theorem new_row (w : World) (A : List Value) {n C : Nat} (hA : A.length = n) (hC : n ≤ C) (hm : C ≤ maxLen) :
    (w.drew.alloc (.cells (A.toArray ++ Builtin.zeroCells (Value.int .i64 0).cells (C - n)) 3)).ownsRow 0 3 1 (.slice (some ⟨w.heap.size, 0, none⟩) n C) n A := by
  refine owns_of_blk (Blk.new w.drew _ _) ?_ hC hm ?_
  · rw [Array.size_append, zc_size]
    simp
    omega
  · rw [Array.toList_append, List.take_append_of_le_length (by simp; omega), List.take_of_length_le (by simp; omega)]
section
variable (w : World) (sv vv : Value) (n i m : Nat) (xs ys : List Value)
set_option maxRecDepth 100000 in
set_option maxHeartbeats 1000000 in
theorem insert_none (hrow : w.ownsRow 0 3 1 sv n xs) (a : Option Addr) (c : Nat) (hi : i ≤ n) (hn : n ≤ 1000000) :
    Calls Try.prog 34 #[sv, .int .i64 i, .slice a 0 c] w fun e w' => e = .returned sv ∧ w' = w := by
  rcases hrow.2 with ⟨rfl, rfl⟩ | ⟨g, cap, cur, rfl, _, hg, hnc, hcm, _⟩
  · obtain rfl : i = 0 := by omega
    go_enter Try.func34, Try.ntmps34
    go_wp2
    go_ret
    exact ⟨rfl, rfl⟩
  · unfold maxLen at hcm
    have h1 : (i : Int) ≤ n := by omega
    go_enter Try.func34, Try.ntmps34
    go_wp2
    all_goals
      go_ret
      exact ⟨rfl, rfl⟩

/-- What slices.Insert leaves of a row. -/
theorem insert_any (hrow : w.ownsRow 0 3 1 sv n xs) (h1 : ∀ v ∈ xs, v.oneCell' = true) (hv : Vs w vv m ys) (hap : ∀ k, vv.ownBlock = some k → sv.ownBlock ≠ some k) (hi : i ≤ n) (hn : n ≤ 1000000) (hm : m ≤ 1000000) :
    Calls Try.prog 34 #[sv, .int .i64 i, vv] w (Rep w sv (i + m + (n - i)) (xs.take i ++ ys ++ xs.drop i)) := by
  have hxl : xs.length = n := by have := hrow.1; omega
  have hyl := hv.len
  have hN : i + m + (n - i) = n + m := by omega
  rw [hN]
  have hT : (xs.take i ++ ys ++ xs.drop i).length = n + m := by simp; omega
  by_cases hm0 : m = 0
  · subst hm0
    obtain rfl : ys = [] := List.eq_nil_of_length_eq_zero hyl
    obtain ⟨a, c, rfl⟩ := hv.form
    refine (insert_none w sv n i xs hrow a c hi hn).mono ?_
    rintro e w' ⟨rfl, rfl⟩
    exact ⟨sv, rfl, by simpa using hrow, fun k hk => .inl hk, Frm.refl _ _⟩
  · have hm1 : 0 < m := by omega
    rcases hv.owns.2 with ⟨_, h0⟩ | ⟨vb, vc, vcur, rfl, _, hvg, hvnc, hvcm, hvcs, hvt⟩
    · omega
    · have hvB : Blk w vb vcur 3 := hvg
      have hvs : ∀ j v, ys[j]? = some v → w.cell? ⟨vb, 0 + j, none⟩ = some v := fun j v hj => by
        have := hv.owns.cells (g := vb) rfl j v hj
        rw [Addr.add_lit] at this
        exact this
      rcases hrow.2 with ⟨rfl, rfl⟩ | ⟨g, cap, cur, rfl, _, hg, hnc, hcm, hcs, htk⟩
      · obtain rfl : i = 0 := by omega
        obtain rfl : xs = [] := List.eq_nil_of_length_eq_zero hxl
        refine (ins_end_grow none 0 0 vb 0 m vc [] ys w hm1 (by omega) (by omega) (by omega) rfl hyl (fun _ => rfl) (fun _ h => by cases h) hvs hv.one).mono ?_
        rintro e w' ⟨G, hG1, hG2, rfl, rfl⟩
        refine ⟨_, rfl, by rw [show (List.take 0 ([] : List Value) ++ ys ++ List.drop 0 []) = [] ++ ys from by simp]; exact new_row w ([] ++ ys) (by simp; omega) hG1 hG2, fun k hk => ?_, (Frm.refl _ w).drew.alloc _⟩
        right
        simp [Value.ownBlock] at hk
        omega
      · have hB : Blk w g cur 3 := hg
        have hcs' : cur.size = cap := by omega
        have htk' : cur.toList.take n = xs := by simpa using htk
        have hne : vb ≠ g := fun h => hap vb rfl (by rw [h]; rfl)
        have hcl : ∀ j v, xs[j]? = some v → w.cell? ⟨g, 0 + j, none⟩ = some v := fun j v hj => by
          have hjn : j < n := by have := (List.getElem?_eq_some_iff.1 hj).1; omega
          rw [Nat.zero_add, hB.cell, ← Array.getElem?_toList, get_of_take htk' hjn]
          exact hj
        have hsome : ∀ j, j < cap → (w.cell? ⟨g, 0 + j, none⟩).isSome = true := fun j hj => by
          rw [hB.cell, Array.getElem?_eq_getElem (by omega)]; rfl
        have hmx : cap ≤ 9223372036854775807 := by unfold maxLen at hcm; omega
        have hF : ∀ (o : Nat) (l : List Value) {W : World}, Frm (fun k => (Value.slice (some ⟨g, 0, none⟩) n cap).ownBlock = some k) w W → Frm (fun k => (Value.slice (some ⟨g, 0, none⟩) n cap).ownBlock = some k) w (W.setCells g o l) := fun o l W h => Frm.setCells l o h (.inl rfl)
        by_cases hroom : n + m ≤ cap
        · by_cases hin : i = n
          · subst hin
            refine (ins_end_room g 0 i cap vb 0 m vc ys w hm1 hroom hmx hyl (fun j hj => by rw [Nat.add_assoc]; exact hsome _ (by omega)) (fun j hj => hB.frozen _) hvs hv.one).mono ?_
            rintro e w' ⟨rfl, rfl⟩
            refine ⟨_, rfl, owns_of_blk (hB.spliced (by omega)) (by simp [splice]; omega) hroom hcm (take_of_get hT fun k hk => ?_), fun k hk => .inl (by simpa [Value.ownBlock] using hk), hF _ _ (Frm.refl _ _)⟩
            rw [target_get (by omega) hyl]
            show (splice cur.toList (0 + i) ys)[k]? = _
            rw [splice_get (by simp; omega)]
            by_cases c1 : k < i
            · rw [if_pos (by omega), if_pos c1, get_of_take htk' c1]
            · rw [if_neg (by omega), if_neg c1, if_pos (by omega), if_pos (by omega)]
              congr 1
              omega
          · have hin' : i < n := by omega
            refine (ins_shift g 0 n cap i vb 0 m vc xs ys w hin' hm1 hroom hmx hne hxl hyl hcl (fun j hj => hsome j (by omega)) (fun j hj => hB.frozen _) hvs h1 hv.one _ _ _ _ hvB.shape hB.shape (by omega) (hvB.frozen _) (hvB.frozen _)).mono ?_
            rintro e w' ⟨rfl, rfl⟩
            have hd : (xs.drop i).length = n - i := by simp; omega
            have hB1 := hB.drew.spliced (o := 0 + (i + m)) (l := xs.drop i) (by rw [hd]; omega)
            have hB2 := hB1.spliced (o := 0 + i) (l := ys) (by simp [splice]; omega)
            refine ⟨_, rfl, owns_of_blk hB2 (by simp [splice]; omega) hroom hcm (take_of_get hT fun k hk => ?_), fun k hk => .inl (by simpa [Value.ownBlock] using hk), hF _ _ (hF _ _ (Frm.refl _ _).drew)⟩
            rw [target_get (by omega) hyl]
            show (splice (splice cur.toList (0 + (i + m)) (xs.drop i)) (0 + i) ys)[k]? = _
            rw [splice_get (by rw [splice_len (by simp; omega)]; simp; omega), splice_get (by simp; omega)]
            by_cases c1 : k < i
            · rw [if_pos (by omega), if_pos (by omega), if_pos c1, get_of_take htk' (by omega)]
            · by_cases c2 : k < i + m
              · rw [if_neg (by omega), if_pos (by omega), if_neg c1, if_pos c2, Nat.zero_add]
              · rw [if_neg (by omega), if_neg (by omega), if_neg (by omega), if_pos (by rw [hd]; omega), if_neg c1, if_neg c2, List.getElem?_drop]
                congr 1
                omega
        · by_cases hin : i = n
          · subst hin
            refine (ins_end_grow (some ⟨g, 0, none⟩) i cap vb 0 m vc xs ys w hm1 hnc (by omega) (by omega) hxl hyl (fun h => by cases h) (fun a ha j v hj => by cases ha; rw [Addr.add_lit]; exact hcl j v hj) hvs hv.one).mono ?_
            rintro e w' ⟨G, hG1, hG2, rfl, rfl⟩
            refine ⟨_, rfl, ?_, fun k hk => ?_, (Frm.refl _ w).drew.alloc _⟩
            · have h0 : xs.take i ++ ys ++ xs.drop i = xs ++ ys := by rw [List.take_of_length_le (by omega), List.drop_of_length_le (by omega)]; simp
              rw [h0]
              exact new_row w (xs ++ ys) (by simp; omega) hG1 hG2
            · right
              simp [Value.ownBlock] at hk
              omega
          · have hin' : i < n := by omega
            refine (ins_grow g 0 n cap i vb 0 m vc xs ys w hin' hm1 hnc (by omega) (by omega) hxl hyl hcl hvs h1 hv.one).mono ?_
            rintro e w' ⟨G, hG1, hG2, rfl, rfl⟩
            have hd : (xs.drop i).length = n - i := by simp; omega
            obtain ⟨Z, hZ⟩ : ∃ Z : Array Value, Z = (xs.take i).toArray ++ Builtin.zeroCells (Value.int .i64 0).cells (n + m - i) ++ Builtin.zeroCells (Value.int .i64 0).cells (G - (n + m)) := ⟨_, rfl⟩
            have hZs : Z.size = G := by
              rw [hZ, Array.size_append, Array.size_append, zc_size, zc_size]
              simp
              omega
            have hZt : ∀ k, k < i → Z.toList[k]? = xs[k]? := fun k hk => by
              rw [hZ, Array.toList_append, Array.toList_append, List.getElem?_append_left (by simp; omega), List.getElem?_append_left (by simp; omega)]
              simp [hk]
            rw [← hZ]
            have hB0 : Blk (w.alloc (.cells Z 3)).drew w.heap.size Z 3 := (Blk.new w Z 3).drew
            have hB1 := hB0.spliced (o := i) (l := ys) (by omega)
            have hB2 := hB1.drew.spliced (o := i + m) (l := xs.drop i) (by simp [splice]; omega)
            refine ⟨_, rfl, owns_of_blk hB2 (by simp [splice]; omega) hG1 hG2 (take_of_get hT fun k hk => ?_), fun k hk => ?_, ?_⟩
            · rw [target_get (by omega) hyl]
              show (splice (splice Z.toList i ys) (i + m) (xs.drop i))[k]? = _
              rw [splice_get (by rw [splice_len (by simp; omega)]; simp; omega), splice_get (by simp; omega)]
              by_cases c1 : k < i
              · rw [if_pos (by omega), if_pos c1, if_pos c1, hZt k c1]
              · by_cases c2 : k < i + m
                · rw [if_pos c2, if_neg c1, if_pos (by omega), if_neg c1, if_pos c2]
                · rw [if_neg c2, if_pos (by rw [hd]; omega), if_neg c1, if_neg c2, List.getElem?_drop]
            · right
              simp [Value.ownBlock] at hk
              omega
            · exact Frm.setCells _ _ (Frm.setCells _ _ (((Frm.refl _ w).alloc _).drew) (.inr (Nat.le_refl _))).drew (.inr (Nat.le_refl _))
end
end Go.Proofs.Ytiiebholgmhogaa

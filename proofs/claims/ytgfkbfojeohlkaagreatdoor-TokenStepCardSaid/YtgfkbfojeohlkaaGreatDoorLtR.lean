/- A row of pieces in memory; what the document's own find and plain of layer 8 (literal) return. Condition: texts of at most 60,000 bytes. -/
import Derived.Test.YtgfkbfojeohlkaaGreatDoorQh
import Derived.Test.YtgfkbfojeohlkaaGreatDoorAp
import Derived.Deep.RegionHeldLaw
namespace Go.Proofs.YtgfkbfojeohlkaaGreatDoor
open Go.RowKit
set_option linter.unusedVariables false

theorem infoPc : (Tryz.prog.info? 124).map (fun i => (i.zero, i.size, i.bytes)) = some (some (.agg #[.bool false, .bool false, .string ⟨#[]⟩]), 3, 24) := by kernel_rfl
def cellsC (L : List Pc) : List Value := L.flatMap cellC
theorem cellsC_cons (a : Pc) (l : List Pc) : cellsC (a :: l) = .bool a.ex :: .bool a.q :: .string a.t :: cellsC l := by
  unfold cellsC; rw [List.flatMap_cons]; rfl
theorem cellsC_length (l : List Pc) : (cellsC l).length = l.length * 3 := by
  induction l with
  | nil => rfl
  | cons a l ih => rw [cellsC_cons]; simp only [List.length_cons, ih]; omega
theorem cellsC_append (l k : List Pc) : cellsC (l ++ k) = cellsC l ++ cellsC k := by unfold cellsC; rw [List.flatMap_append]
theorem cellsC_one (l : List Pc) : ∀ v ∈ cellsC l, v.oneCell' = true := by
  intro v hv
  obtain ⟨s, _, hs⟩ := List.mem_flatMap.1 hv
  simp [cellC] at hs
  rcases hs with rfl | rfl | rfl <;> rfl
theorem cellsC_at : ∀ {l : List Pc} {j : Nat} {p : Pc}, l[j]? = some p → ∀ c v, (cellC p)[c]? = some v → (cellsC l)[j * 3 + c]? = some v
  | [], j, p, h, c, v, hv => by simp at h
  | a :: l, 0, p, h, c, v, hv => by
    simp at h
    subst h
    have hc : c < (cellC a).length := (List.getElem?_eq_some_iff.1 hv).1
    show (cellsC (a :: l))[0 * 3 + c]? = _
    rw [Nat.zero_mul, Nat.zero_add]
    unfold cellsC
    rw [List.flatMap_cons, List.getElem?_append_left hc]
    exact hv
  | a :: l, j + 1, p, h, c, v, hv => by
    have h' : l[j]? = some p := by simpa using h
    have ih := cellsC_at h' c v hv
    have e : (j + 1) * 3 + c = j * 3 + c + 3 := by omega
    rw [e, cellsC_cons]
    simpa using ih
def PcS (w : World) (base : Nat) (v : Value) (L : List Pc) : Prop := w.ownsRow base 124 3 v L.length (cellsC L)
theorem PcS.below {w w' : World} {base : Nat} {v : Value} {L : List Pc} (h : PcS w base v L) (hb : Below w.heap.size w w') : PcS w' base v L := own_below h hb
theorem PcS.lower {w : World} {base b : Nat} {v : Value} {L : List Pc} (h : PcS w base v L) (hb : b ≤ base) : PcS w b v L := by
  refine ⟨h.1, ?_⟩
  rcases h.2 with h | ⟨g, cap, cur, h1, h2, h3⟩
  · exact .inl h
  · exact .inr ⟨g, cap, cur, h1, by omega, h3⟩
structure RdC (w : World) (oa : Option Addr) (n : Nat) (L : List Pc) : Prop where
  len : n = L.length
  cells : ∀ i p, L[i]? = some p → ∃ ob, oa = some ⟨ob, 0, none⟩ ∧ ob < w.heap.size ∧ w.cell? ⟨ob, i * 3, none⟩ = some (.bool p.ex) ∧ w.cell? ⟨ob, i * 3 + 1, none⟩ = some (.bool p.q) ∧ w.cell? ⟨ob, i * 3 + 2, none⟩ = some (.string p.t)
theorem RdC.below {w w' : World} {oa : Option Addr} {n : Nat} {L : List Pc} (h : RdC w oa n L) (hb : Below w.heap.size w w') : RdC w' oa n L :=
  ⟨h.len, fun i p hp => by
    obtain ⟨ob, h1, h2, h3, h4, h5⟩ := h.cells i p hp
    exact ⟨ob, h1, Nat.lt_of_lt_of_le h2 hb.size, (hb.cell (p := ⟨ob, _, none⟩) h2).trans h3, (hb.cell (p := ⟨ob, _, none⟩) h2).trans h4, (hb.cell (p := ⟨ob, _, none⟩) h2).trans h5⟩⟩
theorem PcS.read {w : World} {base : Nat} {v : Value} {L : List Pc} (h : PcS w base v L) : ∃ oa n oc, v = .slice oa n oc ∧ RdC w oa n L := by
  have h' : w.ownsRow base 124 3 v L.length (cellsC L) := h
  obtain ⟨oa, oc, rfl⟩ := owns_slice h'
  refine ⟨oa, _, oc, rfl, rfl, fun i p hp => ?_⟩
  have hl : i < L.length := (List.getElem?_eq_some_iff.1 hp).1
  obtain ⟨ob, ocap, hov, _, _, _, hlt⟩ := owns_nil h' (by omega)
  obtain ⟨rfl, rfl⟩ : oa = some ⟨ob, 0, none⟩ ∧ oc = ocap := by simpa using hov
  have hc := fun c u (hu : (cellC p)[c]? = some u) => by
    have := h'.cells (g := ob) rfl (i * 3 + c) u (cellsC_at hp c u hu)
    rw [Addr.add_lit, Nat.zero_add] at this
    exact this
  exact ⟨ob, rfl, hlt, hc 0 _ rfl, hc 1 _ rfl, hc 2 _ rfl⟩
theorem RdC.get {w : World} {oa : Option Addr} {n : Nat} {L : List Pc} (h : RdC w oa n L) {i : Nat} (hi : i < n) : ∃ ob p, oa = some ⟨ob, 0, none⟩ ∧ L[i]? = some p ∧ ob < w.heap.size ∧ w.cell? ⟨ob, i * 3, none⟩ = some (.bool p.ex) ∧ w.cell? ⟨ob, i * 3 + 1, none⟩ = some (.bool p.q) ∧ w.cell? ⟨ob, i * 3 + 2, none⟩ = some (.string p.t) := by
  have hl : i < L.length := by have := h.len; omega
  obtain ⟨ob, h1⟩ := h.cells i L[i] (List.getElem?_eq_getElem hl)
  exact ⟨ob, L[i], h1.1, List.getElem?_eq_getElem hl, h1.2⟩

theorem own_none3 (W : World) : (W.alloc (.cells #[] 124)).ownsRow W.heap.size 124 3 (.slice (some ⟨W.heap.size, 0, none⟩) 0 0) 0 [] :=
  ⟨rfl, .inr ⟨W.heap.size, 0, _, rfl, Nat.le_refl _, World.alloc_heap_new W _, Nat.le_refl _, by unfold maxLen; omega, rfl, rfl⟩⟩
theorem cellC_one (x : Pc) : ∀ u ∈ cellC x, u.oneCell' = true := by
  intro u hu
  simp [cellC] at hu
  rcases hu with rfl | rfl | rfl <;> rfl
theorem src_one (W : World) (x : Pc) : Src (W.alloc (.cells #[.bool x.ex, .bool x.q, .string x.t] 124)) (.slice (some ⟨W.heap.size, 0, none⟩) 1 1) 1 (cellC x) := by
  refine .inr ⟨_, 0, 1, rfl, by simp, fun j u hj => ?_⟩
  have := (Blk.new W #[.bool x.ex, .bool x.q, .string x.t] 124).cell j
  rw [Nat.zero_add, this]
  simpa [cellC] using hj
theorem own_drew {w : World} {base : Nat} {e : TypeId} {k n : Nat} {v : Value} {xs : List Value} (h : w.ownsRow base e k v n xs) : w.drew.ownsRow base e k v n xs := own_below h ((Below.refl _ w).drew)
theorem own_alloc {w : World} {base : Nat} {e : TypeId} {k n : Nat} {v : Value} {xs : List Value} (h : w.ownsRow base e k v n xs) (o : Obj) : (w.alloc o).ownsRow base e k v n xs :=
  own_below h ((Below.refl _ w).alloc (Nat.le_refl _) o)
theorem own_lower {w : World} {base b : Nat} {e : TypeId} {k n : Nat} {v : Value} {xs : List Value} (h : w.ownsRow base e k v n xs) (hb : b ≤ base) : w.ownsRow b e k v n xs := by
  refine ⟨h.1, ?_⟩
  rcases h.2 with h | ⟨g, cap, cur, h1, h2, h3⟩
  · exact .inl h
  · exact .inr ⟨g, cap, cur, h1, by omega, h3⟩
theorem src_blk {W : World} {b : Nat} {x : Pc} (h : Blk W b #[.bool x.ex, .bool x.q, .string x.t] 124) : Src W (.slice (some ⟨b, 0, none⟩) 1 1) 1 (cellC x) := by
  refine .inr ⟨_, 0, 1, rfl, h.lt, fun j u hj => ?_⟩
  rw [Nat.zero_add, h.cell j]
  simpa [cellC] using hj
theorem PL_at {s : ByteArray} {a : Nat} (h1 : a < s.size) (h2 : born s a = true) : ∃ i : Nat, (PL s)[i]? = some (prt s a) := by
  refine ⟨idx s a, ?_⟩
  unfold PL
  rw [List.getElem?_map, bornL_get s a h2 h1]
  rfl
def FiRl (s : ByteArray) (n a : Nat) (w : World) (v6 : Value) (wr : World) : Prop := ∃ i : Nat, i ≤ n ∧ v6 = .int .i64 (i : Int) ∧ (∀ (j : Nat) p, j < i → (PL s)[j]? = some p → p.frm ≠ a) ∧ wr = w
def FiR (s : ByteArray) (a : Nat) (e : Ending) : Prop := (a < s.size ∧ born s a = true ∧ e = .returned (.tuple #[aggP (prt s a), .int .i64 1])) ∨ (¬ (a < s.size ∧ born s a = true) ∧ e = .returned (.tuple #[.agg #[.int .i64 0, .int .i64 0, .int .i64 0, .int .i64 0, .bool false], .int .i64 0]))
section
variable (w : World)
set_option maxRecDepth 100000 in
set_option maxHeartbeats 4000000 in
theorem find_any (s : ByteArray) (oa : Option Addr) (n oc a : Nat) (hR : RdP w oa n (PL s)) (hn : n ≤ 60000) (ha : a ≤ 1000000) :
    Calls Tryz.prog 104 #[.slice oa n oc, .int .i64 (a : Int)] w fun e w' => FiR s a e ∧ Below w.heap.size w w' := by
  have kb := Blk.new w #[.int .i64 0, .int .i64 0, .int .i64 0, .int .i64 0, .bool false] 152
  have hB1 : Below w.heap.size w (w.alloc (.cells #[.int .i64 0, .int .i64 0, .int .i64 0, .int .i64 0, .bool false] 152)) := (Below.refl _ w).alloc (Nat.le_refl _) _
  have HR := Lib.hid hR
  clear hR
  go_enter Tryz.func104, Tryz.ntmps104
  go_wp2
  obtain ⟨W1, hW1⟩ : ∃ X, w.alloc (.cells #[.int .i64 0, .int .i64 0, .int .i64 0, .int .i64 0, .bool false] 152) = X := ⟨_, rfl⟩
  rw [hW1] at kb hB1 ⊢
  have hRd := HR.out.below hB1
  clear hW1
  go_loopw [6] (fun v6 wr => FiRl s n a W1 v6 wr) (fun v _ => n - (intOf v).toNat)
  case atStart => exact ⟨0, Nat.zero_le _, rfl, fun j p h => by omega, rfl⟩
  case round =>
    obtain ⟨i, hi, rfl, hj, rfl⟩ := hrel
    have f0 := kb.frozen 0
    have f1 := kb.frozen 1
    have f2 := kb.frozen 2
    have f3 := kb.frozen 3
    have f4 := kb.frozen 4
    have c0 := kb.cell 0
    have c1 := kb.cell 1
    have c2 := kb.cell 2
    have c3 := kb.cell 3
    have c4 := kb.cell 4
    by_cases hlt : (i : Int) < (n : Int)
    · have hlt' : i < n := by omega
      have q0 : (0 : Int) ≤ (i : Int) := by omega
      obtain ⟨ob, p, rfl, hp, _, a0, a1, a2, a3, a4⟩ := hRd.at hlt'
      obtain ⟨f0', hf0, hpe, hf1, hbn, hpf, hpt, _⟩ := PL_get hp
      have HJ := Lib.hid hj
      have HP := Lib.hid hp
      by_cases he : p.frm = a
      · have hfi : FiR s a (.returned (.tuple #[aggP p, .int .i64 1])) := by
          left
          have hfe := prt_frm s f0'
          rw [← hpe] at hfe
          have e2 : f0' = a := by omega
          subst e2
          exact ⟨by omega, hbn, by rw [hpe]⟩
        have HFI := Lib.hid hfi
        have t1 : ((p.frm : Int) == (a : Int)) = true := beq_iff_eq.2 (by omega)
        clear hp hf0 hpe hf1 hbn hpf hpt hj hfi he
        go_wp2
        have k5 := ((((kb.set 0 (.int .i64 (p.mode : Int))).set 1 (.int .i64 (p.frm : Int))).set 2 (.int .i64 (p.to : Int))).set 3 (.int .i64 p.up)).set 4 (.bool p.op)
        have hB5 := ((((hB1.setCell (p := ⟨w.heap.size, 0, none⟩) (Nat.le_refl _) (.int .i64 (p.mode : Int))).setCell (p := ⟨w.heap.size, 1, none⟩) (Nat.le_refl _) (.int .i64 (p.frm : Int))).setCell (p := ⟨w.heap.size, 2, none⟩) (Nat.le_refl _) (.int .i64 (p.to : Int))).setCell (p := ⟨w.heap.size, 3, none⟩) (Nat.le_refl _) (.int .i64 p.up)).setCell (p := ⟨w.heap.size, 4, none⟩) (Nat.le_refl _) (.bool p.op)
        have g0 := k5.cell 0
        have g1 := k5.cell 1
        have g2 := k5.cell 2
        have g3 := k5.cell 3
        have g4 := k5.cell 4
        obtain ⟨W5, hW5⟩ : ∃ X, ((((wr.setCell ⟨w.heap.size, 0, none⟩ (.int .i64 (p.mode : Int))).setCell ⟨w.heap.size, 1, none⟩ (.int .i64 (p.frm : Int))).setCell ⟨w.heap.size, 2, none⟩ (.int .i64 (p.to : Int))).setCell ⟨w.heap.size, 3, none⟩ (.int .i64 p.up)).setCell ⟨w.heap.size, 4, none⟩ (.bool p.op) = X := ⟨_, rfl⟩
        rw [hW5] at g0 g1 g2 g3 g4 hB5 ⊢
        clear k5 kb c0 c1 c2 c3 c4 hW5
        have h0 : W5.cell? ⟨w.heap.size, 0, none⟩ = some (.int .i64 (p.mode : Int)) := g0
        have h1 : W5.cell? ⟨w.heap.size, 1, none⟩ = some (.int .i64 (p.frm : Int)) := g1
        have h2 : W5.cell? ⟨w.heap.size, 2, none⟩ = some (.int .i64 (p.to : Int)) := g2
        have h3 : W5.cell? ⟨w.heap.size, 3, none⟩ = some (.int .i64 p.up) := g3
        have h4 : W5.cell? ⟨w.heap.size, 4, none⟩ = some (.bool p.op) := g4
        refine bodyPost_ret (v := .tuple #[aggP p, .int .i64 1]) (by simp [results, Tryz.results104, go_sem, aggP, h0, h1, h2, h3, h4]) rfl ?_
        exact ⟨HFI.out, hB5⟩
      · have t1 : ((p.frm : Int) == (a : Int)) = false := beq_eq_false_iff_ne.2 (by omega)
        clear hp hf0 hpe hf1 hbn hpf hpt hj
        go_wp2
        go_roundw
        case rel =>
          refine ⟨i + 1, by omega, by go_num, fun j q h hq => ?_, rfl⟩
          rcases Nat.eq_or_lt_of_le (Nat.le_of_lt_succ h) with e | e
          · subst e
            rw [HP.out] at hq
            cases hq
            exact he
          · exact HJ.out j q e hq
        case measure => simp [intOf]; omega
    · obtain rfl : i = n := by omega
      have hfi : FiR s a (.returned (.tuple #[.agg #[.int .i64 0, .int .i64 0, .int .i64 0, .int .i64 0, .bool false], .int .i64 0])) := by
        right
        refine ⟨fun h => ?_, rfl⟩
        obtain ⟨k, hk⟩ := PL_at h.1 h.2
        have hl := (List.getElem?_eq_some_iff.1 hk).1
        exact hj k _ (by rw [hRd.len]; exact hl) hk (prt_frm s a)
      have HFI := Lib.hid hfi
      clear hj hfi hRd
      go_wp2
      have k5 := ((((kb.set 0 (.int .i64 0)).set 1 (.int .i64 0)).set 2 (.int .i64 0)).set 3 (.int .i64 0)).set 4 (.bool false)
      have hB5 := ((((hB1.setCell (p := ⟨w.heap.size, 0, none⟩) (Nat.le_refl _) (.int .i64 0)).setCell (p := ⟨w.heap.size, 1, none⟩) (Nat.le_refl _) (.int .i64 0)).setCell (p := ⟨w.heap.size, 2, none⟩) (Nat.le_refl _) (.int .i64 0)).setCell (p := ⟨w.heap.size, 3, none⟩) (Nat.le_refl _) (.int .i64 0)).setCell (p := ⟨w.heap.size, 4, none⟩) (Nat.le_refl _) (.bool false)
      have g0 := k5.cell 0
      have g1 := k5.cell 1
      have g2 := k5.cell 2
      have g3 := k5.cell 3
      have g4 := k5.cell 4
      obtain ⟨W5, hW5⟩ : ∃ X, ((((wr.setCell ⟨w.heap.size, 0, none⟩ (.int .i64 0)).setCell ⟨w.heap.size, 1, none⟩ (.int .i64 0)).setCell ⟨w.heap.size, 2, none⟩ (.int .i64 0)).setCell ⟨w.heap.size, 3, none⟩ (.int .i64 0)).setCell ⟨w.heap.size, 4, none⟩ (.bool false) = X := ⟨_, rfl⟩
      rw [hW5] at g0 g1 g2 g3 g4 hB5 ⊢
      clear k5 kb c0 c1 c2 c3 c4 hW5
      have h0 : W5.cell? ⟨w.heap.size, 0, none⟩ = some (.int .i64 0) := g0
      have h1 : W5.cell? ⟨w.heap.size, 1, none⟩ = some (.int .i64 0) := g1
      have h2 : W5.cell? ⟨w.heap.size, 2, none⟩ = some (.int .i64 0) := g2
      have h3 : W5.cell? ⟨w.heap.size, 3, none⟩ = some (.int .i64 0) := g3
      have h4 : W5.cell? ⟨w.heap.size, 4, none⟩ = some (.bool false) := g4
      refine bodyPost_ret (v := .tuple #[.agg #[.int .i64 0, .int .i64 0, .int .i64 0, .int .i64 0, .bool false], .int .i64 0]) (by simp [results, Tryz.results104, go_sem, h0, h1, h2, h3, h4]) rfl ?_
      exact ⟨HFI.out, hB5⟩

set_option maxHeartbeats 4000000 in
theorem plain_new (L : List Pc) (t : ByteArray) (fr : Bool) (v : Value) (hP : PcS w 0 v L) (hl : L.length ≤ 500000) (h : L = [] ∨ fr = true) :
    Calls Tryz.prog 105 #[v, .string t, .bool fr] w fun e w' => ∃ v', e = .returned v' ∧ PcS w' w.heap.size v' (L ++ [⟨false, false, t⟩]) ∧ Below w.heap.size w w' := by
  obtain ⟨oa, oc, rfl⟩ := own_slice hP
  obtain ⟨n, hn⟩ : ∃ n, L.length = n := ⟨_, rfl⟩
  have HSRC := Lib.hid (fun X (hX : Below w.heap.size w X) => (Src.of_own hP).below hX)
  have hlc := cellsC_length L
  rw [hn] at HSRC hl hlc ⊢
  have HN := Lib.hid hn
  have HLC := Lib.hid hlc
  have hcond : n = 0 ∨ fr = true := by rcases h with rfl | h; exact .inl (by rw [← hn]; rfl); exact .inr h
  have hB1 : Below w.heap.size w (w.alloc (.cells #[] 124)) := (Below.refl _ w).alloc (Nat.le_refl _) _
  have hNO := Lib.hid (own_none3 w)
  clear hn hP h hlc
  have fin : ∀ (oa1 : Option Addr) (c1 : Nat) (w1 : World) (oa2 : Option Addr) (c2 : Nat) (w2 : World), (w.alloc (.cells #[] 124)).grownBy w1 (Value.slice (some ⟨w.heap.size, 0, none⟩) 0 0).ownBlock → w1.ownsRow w.heap.size 124 3 (.slice oa1 n c1) n ([] ++ cellsC L) → (w1.alloc (.cells #[.bool false, .bool false, .string t] 124)).grownBy w2 (Value.slice oa1 n c1).ownBlock →
      w2.ownsRow w.heap.size 124 3 (.slice oa2 (n + 1) c2) (n + 1) (([] ++ cellsC L) ++ cellC ⟨false, false, t⟩) → PcS w2 w.heap.size (.slice oa2 (n + 1) c2) (L ++ [⟨false, false, t⟩]) ∧ Below w.heap.size w w2 := by
    intro oa1 c1 w1 oa2 c2 w2 hg1 ho1 hg2 ho2
    have hBw1 : Below w.heap.size w w1 := hB1.grown hg1 (by simp) (fun k hk => by simp [Value.ownBlock] at hk; omega)
    have hs1 := hBw1.size
    refine ⟨?_, ((hBw1.alloc hs1 _).grown hg2 (by simp; omega) (fun k hk => own_ge ho1 k hk))⟩
    have e : (L ++ [(⟨false, false, t⟩ : Pc)]).length = n + 1 := by rw [List.length_append, HN.out]; rfl
    show w2.ownsRow _ _ _ _ _ _
    rw [e, cellsC_append]
    simpa [cellsC] using ho2
  have FIN := Lib.hid fin
  clear fin
  go_enter Tryz.func105, Tryz.ntmps105
  by_cases h0 : n = 0
  · subst h0
    go_wp2_with (at_builtin; first
      | (refine wpl_app_gen rfl _ _ 121 124 3 24 _ rfl Tryz.underlying121 infoPc rfl (by omega) (by omega) w.heap.size (.slice (some ⟨w.heap.size, 0, none⟩) 0 0) 0 [] rfl hNO.out (.slice oa 0 oc) 0 (cellsC L) rfl (HSRC.out _ hB1) HLC.out (cellsC_one L) (by omega) (by simp) 0 rfl ?_; intro oa1 c1 w1 hown1 hgr1 hg1; have HO1 := Lib.hid hown1; have HG1 := Lib.hid hgr1; have hlew := hgr1.size; clear hown1 hgr1 hg1)
      | (refine wpl_app_gen rfl _ _ 121 124 3 24 _ rfl Tryz.underlying121 infoPc rfl (by omega) (by omega) w.heap.size (.slice oa1 0 c1) 0 ([] ++ cellsC L) rfl (own_below HO1.out ((Below.refl _ w1).alloc (Nat.le_refl _) _)) _ 1 (cellC ⟨false, false, t⟩) rfl (src_one w1 ⟨false, false, t⟩) rfl (cellC_one _) (by omega) (by simp at hlew ⊢; omega) 1 rfl ?_; intro oa2 c2 w2 hown2 hgr2 hg2))
    go_ret
    exact ⟨_, rfl, FIN.out _ _ _ _ _ _ HG1.out HO1.out hgr2 hown2⟩
  · have hft : fr = true := hcond.resolve_left h0
    subst hft
    have h0' : (0 : Int) < (n : Int) := by omega
    go_wp2_with (at_builtin; first
      | (refine wpl_app_gen rfl _ _ 121 124 3 24 _ rfl Tryz.underlying121 infoPc rfl (by omega) (by omega) w.heap.size (.slice (some ⟨w.heap.size, 0, none⟩) 0 0) 0 [] rfl hNO.out (.slice oa n oc) n (cellsC L) rfl (HSRC.out _ hB1) HLC.out (cellsC_one L) (by omega) (by simp) n (Nat.zero_add n) ?_; intro oa1 c1 w1 hown1 hgr1 hg1; have HO1 := Lib.hid hown1; have HG1 := Lib.hid hgr1; have hlew := hgr1.size; clear hown1 hgr1 hg1)
      | (refine wpl_app_gen rfl _ _ 121 124 3 24 _ rfl Tryz.underlying121 infoPc rfl (by omega) (by omega) w.heap.size (.slice oa1 n c1) n ([] ++ cellsC L) rfl (own_below HO1.out ((Below.refl _ w1).alloc (Nat.le_refl _) _)) _ 1 (cellC ⟨false, false, t⟩) rfl (src_one w1 ⟨false, false, t⟩) rfl (cellC_one _) (by omega) (by simp at hlew ⊢; omega) (n + 1) rfl ?_; intro oa2 c2 w2 hown2 hgr2 hg2))
    go_ret
    exact ⟨_, rfl, FIN.out _ _ _ _ _ _ HG1.out HO1.out hgr2 hown2⟩

set_option maxRecDepth 100000 in
set_option maxHeartbeats 16000000 in
theorem plain_ext (A : List Pc) (h t : ByteArray) (v : Value) (hP : PcS w 0 v (A ++ [⟨false, false, h⟩])) (hl : A.length ≤ 400000) (hh : h.size ≤ 1000000) (ht : t.size ≤ 1000000) :
    Calls Tryz.prog 105 #[v, .string t, .bool false] w fun e w' => ∃ v', e = .returned v' ∧ PcS w' w.heap.size v' (A ++ [⟨false, false, h ++ t⟩]) ∧ Below w.heap.size w w' := by
  obtain ⟨oa, oc, rfl⟩ := own_slice hP
  obtain ⟨m, hm⟩ : ∃ m, A.length = m := ⟨_, rfl⟩
  obtain ⟨n, hn⟩ : ∃ n, (A ++ [(⟨false, false, h⟩ : Pc)]).length = n := ⟨_, rfl⟩
  have hnm : n = m + 1 := by rw [← hn, ← hm, List.length_append]; rfl
  have hmn : m = n - 1 := by omega
  obtain ⟨oa', n', oc', he, hRd⟩ := hP.read
  rw [hn] at he
  injection he with e1 e2 e3
  subst e1 e2 e3
  obtain ⟨ob, hob, hol, a0, a1, a2⟩ := hRd.cells m ⟨false, false, h⟩ (by rw [← hm]; simp)
  subst hob
  have hsrc0 : Src w (.slice (some ⟨ob, 0, none⟩) n oc) n (cellsC (A ++ [⟨false, false, h⟩])) := by have := Src.of_own hP; rw [hn] at this; exact this
  have hsrc1 := hsrc0.take (k := 3) (m' := m) (by omega) (by omega)
  have htk : (cellsC (A ++ [(⟨false, false, h⟩ : Pc)])).take (m * 3) = cellsC A := by
    rw [cellsC_append, List.take_append_of_le_length (by rw [cellsC_length, hm]; exact Nat.le_refl _), List.take_of_length_le (by rw [cellsC_length, hm]; exact Nat.le_refl _)]
  rw [htk] at hsrc1
  have hmi : IntKind.i64.wrap ((n : Int) - 1) = (m : Int) := by rw [IntWalk.i64_in _ (by omega)]; omega
  have hoc : n ≤ oc := by
    obtain ⟨g, cap, hg, _, h3, _⟩ := owns_nil (show w.ownsRow 0 124 3 (.slice (some ⟨ob, 0, none⟩) n oc) n _ from by have := hP; unfold PcS at this; rw [hn] at this; exact this) (by omega)
    injection hg with _ _ e3
    omega
  have HSRC := Lib.hid (fun X (hX : Below w.heap.size w X) => hsrc1.below hX)
  have hlc : (cellsC A).length = m * 3 := by rw [cellsC_length, hm]
  have HM := Lib.hid hm
  have HLC := Lib.hid hlc
  obtain ⟨X, hX⟩ : ∃ X, h ++ t = X := ⟨_, rfl⟩
  have hXz : X.size ≤ 2000000 := by rw [← hX, ByteArray.size_append]; omega
  have hsum : h.size + t.size ≤ 2000000 := by omega
  rw [hX, hn]
  have i1 : n ≤ m + 1 := by omega
  have i2 : m + 1 ≤ n := by omega
  have i3 : m ≤ 400000 := by omega
  have HNM := Lib.hid hnm
  clear hn hm hP hlc htk hsrc0 hsrc1 hRd hnm hmn hl
  go_enter Tryz.func105, Tryz.ntmps105
  have q0 : (0 : Int) < (n : Int) := by omega
  have q1 : (m : Int) < (n : Int) := by omega
  have q2 : (0 : Int) ≤ (m : Int) := by omega
  go_wp2
  have kb := Blk.new w #[.bool false, .bool false, .string h] 124
  have hB1 : Below w.heap.size w (w.alloc (.cells #[.bool false, .bool false, .string h] 124)) := (Below.refl _ w).alloc (Nat.le_refl _) _
  have hz1 : (w.alloc (.cells #[.bool false, .bool false, .string h] 124)).heap.size = w.heap.size + 1 := by simp
  obtain ⟨W1, hW1⟩ : ∃ X, w.alloc (.cells #[.bool false, .bool false, .string h] 124) = X := ⟨_, rfl⟩
  rw [hW1] at kb hB1 hz1 ⊢
  clear hW1
  obtain ⟨z, hz⟩ : ∃ z, W1.heap.size = z := ⟨_, rfl⟩
  have hwz : w.heap.size < z := by omega
  have hwz2 : w.heap.size ≠ z := by omega
  clear hz1
  have b1 : ∀ A, Below w.heap.size w (W1.alloc A).drew := fun A => (hB1.alloc (by omega) A).drew
  have b2 : ∀ A B, Below w.heap.size w ((W1.alloc A).alloc B).drew := fun A B => ((hB1.alloc (by omega) A).alloc (by simp; omega) B).drew
  have k1 : ∀ A, Blk (W1.alloc A).drew w.heap.size #[.bool false, .bool false, .string h] 124 := fun A => (kb.alloc A).drew
  have k2 : ∀ A B, Blk ((W1.alloc A).alloc B).drew w.heap.size #[.bool false, .bool false, .string h] 124 := fun A B => ((kb.alloc A).alloc B).drew
  have o1 : (W1.alloc (.cells #[] 124)).drew.ownsRow w.heap.size 124 3 (.slice (some ⟨z, 0, none⟩) 0 0) 0 [] := by
    have := own_lower (b := w.heap.size) (own_drew (own_none3 W1)) (by omega)
    rwa [hz] at this
  have o2 : ∀ B, ((W1.alloc (.cells #[] 124)).alloc B).drew.ownsRow w.heap.size 124 3 (.slice (some ⟨z, 0, none⟩) 0 0) 0 [] := fun B => by
    have := own_lower (b := w.heap.size) (own_drew (own_alloc (own_none3 W1) B)) (by omega)
    rwa [hz] at this
  have o3 : ∀ B, ((W1.alloc B).alloc (.cells #[] 124)).drew.ownsRow w.heap.size 124 3 (.slice (some ⟨z + 1, 0, none⟩) 0 0) 0 [] := fun B => by
    have := own_none3 (W1.alloc B)
    rw [World.size_alloc] at this
    have := own_lower (b := w.heap.size) (own_drew this) (by omega)
    rwa [hz] at this
  have x2 : ∀ A, Blk ((W1.alloc A).alloc (.cells #[.bool false, .bool false, .string X] 124)).drew (z + 1) #[.bool false, .bool false, .string X] 124 := fun A => by
    have := Blk.new (W1.alloc A) #[.bool false, .bool false, .string X] 124
    rw [World.size_alloc, hz] at this
    exact this.drew
  have x3 : ∀ A, Blk ((W1.alloc (.cells #[.bool false, .bool false, .string X] 124)).alloc A).drew z #[.bool false, .bool false, .string X] 124 := fun A => by
    have := ((Blk.new W1 #[.bool false, .bool false, .string X] 124).alloc A).drew
    rwa [hz] at this
  have s1 : ∀ A, (W1.alloc A).drew.heap.size = z + 1 := fun A => by show (W1.alloc A).heap.size = _; rw [World.size_alloc, hz]
  have s2 : ∀ A B, ((W1.alloc A).alloc B).drew.heap.size = z + 2 := fun A B => by show ((W1.alloc A).alloc B).heap.size = _; rw [World.size_alloc, World.size_alloc, hz]
  have hs0 : W1.drew.cell? ⟨w.heap.size, 2, none⟩ = some (.string h) := kb.drew.cell 2
  have hs1 : ∀ A, (W1.alloc A).drew.cell? ⟨w.heap.size, 2, none⟩ = some (.string h) := fun A => (k1 A).cell 2
  have hs2 : ∀ A B, ((W1.alloc A).alloc B).drew.cell? ⟨w.heap.size, 2, none⟩ = some (.string h) := fun A B => (k2 A B).cell 2
  have hno : n ≤ 500000 := by omega
  go_region_held_law (fun w' => w'.cell? ⟨w.heap.size, 2, none⟩ = some (.string h)) (first | exact hs0 | exact hs1 _ | exact hs2 _ _ | exact hkp1 | exact hkp1a _ | exact hkp2 | go_keep) (first
    | (refine step_app_gen (by rfl) _ _ 121 124 3 24 _ (by rfl) Tryz.underlying121 infoPc rfl (by omega) (by omega) w.heap.size (.slice (some ⟨z, 0, none⟩) 0 0) 0 [] (by rfl) o1 (.slice (some ⟨ob, 0, none⟩) m oc) m (cellsC A) (by rfl) (HSRC.out _ (b1 _)) HLC.out (cellsC_one A) (by omega) (by rw [s1]; omega) m (Nat.zero_add m) ?_; intro oa1 c1 w1 hown1 hgr1 hg1; have hL1 := (b1 _ : Below w.heap.size w _).grown hgr1 (by rw [s1]; omega) (by intro k hk; simp [Value.ownBlock] at hk; omega); have hK1 := (k1 (.cells #[] 124)).grown hgr1 (by simp [Value.ownBlock]; omega); have hkp1 : w1.cell? ⟨w.heap.size, 2, none⟩ = some (.string h) := hK1.cell 2; have hkp1a : ∀ o, (w1.alloc o).cell? ⟨w.heap.size, 2, none⟩ = some (.string h) := fun o => (hK1.alloc o).cell 2; have hsz1 := hL1.size)
    | (refine step_app_gen (by rfl) _ _ 121 124 3 24 _ (by rfl) Tryz.underlying121 infoPc rfl (by omega) (by omega) w.heap.size (.slice (some ⟨z, 0, none⟩) 0 0) 0 [] (by rfl) (o2 _) (.slice (some ⟨ob, 0, none⟩) m oc) m (cellsC A) (by rfl) (HSRC.out _ (b2 _ _)) HLC.out (cellsC_one A) (by omega) (by rw [s2]; omega) m (Nat.zero_add m) ?_; intro oa1 c1 w1 hown1 hgr1 hg1; have hL1 := (b2 _ _ : Below w.heap.size w _).grown hgr1 (by rw [s2]; omega) (by intro k hk; simp [Value.ownBlock] at hk; omega); have hK1 := (k2 (.cells #[] 124) (.cells #[.bool false, .bool false, .string X] 124)).grown hgr1 (by simp [Value.ownBlock]; omega); have hkp1 : w1.cell? ⟨w.heap.size, 2, none⟩ = some (.string h) := hK1.cell 2; have hkp1a : ∀ o, (w1.alloc o).cell? ⟨w.heap.size, 2, none⟩ = some (.string h) := fun o => (hK1.alloc o).cell 2; have hsz1 := hL1.size; have hX1 := (x2 (.cells #[] 124)).grown hgr1 (by simp [Value.ownBlock]))
    | (refine step_app_gen (by rfl) _ _ 121 124 3 24 _ (by rfl) Tryz.underlying121 infoPc rfl (by omega) (by omega) w.heap.size (.slice (some ⟨z + 1, 0, none⟩) 0 0) 0 [] (by rfl) (o3 _) (.slice (some ⟨ob, 0, none⟩) m oc) m (cellsC A) (by rfl) (HSRC.out _ (b2 _ _)) HLC.out (cellsC_one A) (by omega) (by rw [s2]; omega) m (Nat.zero_add m) ?_; intro oa1 c1 w1 hown1 hgr1 hg1; have hL1 := (b2 _ _ : Below w.heap.size w _).grown hgr1 (by rw [s2]; omega) (by intro k hk; simp [Value.ownBlock] at hk; omega); have hK1 := (k2 (.cells #[.bool false, .bool false, .string X] 124) (.cells #[] 124)).grown hgr1 (by simp [Value.ownBlock]; omega); have hkp1 : w1.cell? ⟨w.heap.size, 2, none⟩ = some (.string h) := hK1.cell 2; have hkp1a : ∀ o, (w1.alloc o).cell? ⟨w.heap.size, 2, none⟩ = some (.string h) := fun o => (hK1.alloc o).cell 2; have hsz1 := hL1.size; have hX1 := (x3 (.cells #[] 124)).grown hgr1 (by simp [Value.ownBlock]))
    | (refine step_app_gen (by rfl) _ _ 121 124 3 24 _ (by rfl) Tryz.underlying121 infoPc rfl (by omega) (by omega) w.heap.size (.slice oa1 m c1) m ([] ++ cellsC A) (by rfl) (own_alloc hown1 _) _ 1 (cellC ⟨false, false, X⟩) (by rfl) (src_one w1 ⟨false, false, X⟩) rfl (cellC_one _) (by omega) (by rw [World.size_alloc]; omega) n (by omega) ?_; intro oa2 c2 w2 hown2 hgr2 hg2; have hL2 := (hL1.alloc (by omega) (.cells #[.bool false, .bool false, .string X] 124)).grown hgr2 (by rw [World.size_alloc]; omega) (fun k hk => own_ge hown1 k hk); have hkp2 : w2.cell? ⟨w.heap.size, 2, none⟩ = some (.string h) := ((hK1.alloc (.cells #[.bool false, .bool false, .string X] 124)).grown hgr2 (by intro e; first | omega | (have := own_ge hown1 _ e.symm; rcases hg1 with g | g <;> (rw [← e] at g; simp [Value.ownBlock] at g; omega)))).cell 2)
    | (refine step_app_gen (by rfl) _ _ 121 124 3 24 _ (by rfl) Tryz.underlying121 infoPc rfl (by omega) (by omega) w.heap.size (.slice oa1 m c1) m ([] ++ cellsC A) (by rfl) hown1 _ 1 (cellC ⟨false, false, X⟩) (by rfl) (src_blk (x := ⟨false, false, X⟩) hX1) rfl (cellC_one _) (by omega) (by omega) n (by omega) ?_; intro oa2 c2 w2 hown2 hgr2 hg2; have hL2 := hL1.grown hgr2 (by omega) (fun k hk => own_ge hown1 k hk); have hkp2 : w2.cell? ⟨w.heap.size, 2, none⟩ = some (.string h) := (hK1.grown hgr2 (by intro e; rcases hg1 with g | g <;> (rw [← e] at g; simp [Value.ownBlock] at g; omega))).cell 2))
  all_goals
    go_wp2
    refine bodyPost_ret (v := .slice oa2 n c2) (by simp [results, Tryz.results105, go_sem]) rfl ⟨_, rfl, ?_, hL2⟩
    have e : (A ++ [(⟨false, false, X⟩ : Pc)]).length = n := by rw [List.length_append, HM.out, HNM.out]; rfl
    show w2.ownsRow _ _ _ _ _ _
    rw [e, cellsC_append]
    simpa [cellsC] using hown2
end
end Go.Proofs.YtgfkbfojeohlkaaGreatDoor

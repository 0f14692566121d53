/- What Split of layer 5 (oper) returns: the operators of a text, in a new row; or the place of the first byte that is none. Condition: texts of at most a million bytes; the program's table lies as start-up lays it. -/
import Derived.Test.YtlfmpjneopeadaaDoorOpI
namespace Go.Proofs.YtlfmpjneopeadaaDoor
open Go.RowKit Go.Shelf
set_option linter.unusedVariables false
attribute [local go_sem] Oper.semAt_some

/-- The last that came is no operator. -/
def BadEnd (pre : List (Nat × Nat)) : Prop := ∃ pre' p, pre = pre' ++ [(p, 0)] ∧ ∀ x ∈ pre', x.2 ≠ 0
def badAt (pre : List (Nat × Nat)) : Nat := (pre.getLastD (0, 0)).1
theorem badAt_snoc (pre : List (Nat × Nat)) (p o : Nat) : badAt (pre ++ [(p, o)]) = p := by unfold badAt; rw [List.getLastD_eq_getLast?]; simp
theorem BadEnd.place {s : ByteArray} {pre : List (Nat × Nat)} {k : Nat} (h : Oq s pre k) (hb : BadEnd pre) : (spl s 0).2 = (badAt pre : Nat) := by
  obtain ⟨pre', p, rfl, hx⟩ := hb
  rw [badAt_snoc]
  generalize hq : pre' ++ [(p, 0)] = q at h
  cases h with
  | nil => simp at hq
  | @snoc l k' h1 h2 =>
    have hl := List.append_inj' hq rfl
    obtain ⟨rfl, he⟩ := hl
    have he' : p = k' + rowN s k' 1 ∧ 0 = opN s (k' + rowN s k' 1) := by simpa using he
    rw [he'.1]
    exact h1.bad hx h2 he'.2.symm
/-- The row lies in another block than a box that holds 0, if its last number isn't 0. -/
theorem apart_box {W w1 : World} {base B n cap g : Nat} {xs : List Value} {o : Nat} (hA : Boxed w1 B 3 (.int .i64 0)) (h : w1.ownsRow base 3 1 (.slice (some ⟨g, 0, none⟩) (n + 1) cap) (n + 1) (xs ++ [.int .i64 (o : Int)])) (hx : xs.length = n) (ho : o ≠ 0) : g ≠ B := by
  rintro rfl
  rcases h.2 with ⟨e, _⟩ | ⟨g', cap', cur, e, hb, hg, hc, _, hz, ht⟩
  · cases e
  · injection e with e1 e2 e3
    injection e1 with e1
    injection e1 with e1
    subst e1
    rw [show w1.heap[g]? = _ from hA] at hg
    injection hg with hg
    injection hg with hg
    subst hg
    have hz' : 1 = cap' * 1 := hz
    have hn : n = 0 := by omega
    subst hn
    have hx' : xs = [] := List.length_eq_zero_iff.1 hx
    subst hx'
    simp at ht
    omega
theorem own_slice {w : World} {base : Nat} {e : TypeId} {size n : Nat} {v : Value} {xs : List Value} (h : w.ownsRow base e size v n xs) : ∃ a m cap, v = .slice a m cap := by
  rcases h.2 with ⟨e, _⟩ | ⟨g, cap, cur, e, _⟩
  · exact ⟨_, _, _, e⟩
  · exact ⟨_, _, _, e⟩
/-- What Split answers: all operators, or none, and the place of the first byte that is none. -/
def SplitA (s : ByteArray) (base : Nat) (w : World) (v : Value) (a e : Int) : Prop :=
  ((spl s 0).2 = -1 ∧ w.ownsRow base 3 1 v (spl s 0).1.length (intCells (spl s 0).1) ∧ a = 0 ∧ e = 0) ∨ (0 ≤ (spl s 0).2 ∧ v = .slice none 0 0 ∧ a = (spl s 0).2 ∧ e = 15)

set_option maxRecDepth 100000 in
set_option maxHeartbeats 4000000 in
theorem split_in (n : Nat) (hn : 3 ≤ n) (s : ByteArray) (hs : s.size ≤ 1000000) (w : World) (hT : Tx w) :
    CallsIn Fence.wide n Tryd.prog 18 #[.string s] w fun e W' => ∃ v a c, e = .returned (.tuple #[v, .int .i64 a, .int .i64 c]) ∧ SplitA s w.heap.size W' v a c ∧ Below w.heap.size w W' := by
  have h1 : 1 ≤ n := by omega
  have h39 : Fence.wide.fn 20 := trivial
  have h44 : Fence.wide.fn 24 := trivial
  have hro : Fence.wide.round = none := rfl
  obtain ⟨i0, hi, hz0, hz1, hz2⟩ := info_parts infoI
  refine callsIn_of_wp_marks Tryd.func18 rfl trivial ?_ hro
  simp only [Tryd.ntmps18, List.size_toArray, List.length_cons, List.length_nil, Nat.reduceAdd, Nat.reduceSub, Array.replicate_succ, Array.replicate_zero, List.push_toArray, List.append_toArray, List.nil_append, List.cons_append]
  gi_wp2_with (gi_at_call 20; refine (operators_in Fence.wide (n - 1) h39 hro _ _).mono ?_; rintro e w' ⟨rfl, rfl⟩)
  have bL := Boxed.new w 32 (.slice none 0 0)
  have bA := Boxed.new (w.alloc (.cells #[.slice none 0 0] 32)) 3 (.int .i64 0)
  have bE := Boxed.new ((w.alloc (.cells #[.slice none 0 0] 32)).alloc (.cells #[.int .i64 0] 3)) 35 (.int .i64 0)
  have bS := Boxed.new (((w.alloc (.cells #[.slice none 0 0] 32)).alloc (.cells #[.int .i64 0] 3)).alloc (.cells #[.int .i64 0] 35)) 9 (.string s)
  have bL3 := ((bL.alloc (.cells #[.int .i64 0] 3)).alloc (.cells #[.int .i64 0] 35)).alloc (.cells #[.string s] 9)
  have bA3 := (bA.alloc (.cells #[.int .i64 0] 35)).alloc (.cells #[.string s] 9)
  have bE3 := bE.alloc (.cells #[.string s] 9)
  have hB0 : Below w.heap.size w ((((w.alloc (.cells #[.slice none 0 0] 32)).alloc (.cells #[.int .i64 0] 3)).alloc (.cells #[.int .i64 0] 35)).alloc (.cells #[.string s] 9)) :=
    ((((Below.refl _ w).alloc (Nat.le_refl _) _).alloc (by simp) _).alloc (by simp; omega) _).alloc (by simp; omega) _
  simp only [World.size_alloc] at bA3 bE3 bS
  obtain ⟨W0, hW0⟩ : ∃ W0, (((w.alloc (.cells #[.slice none 0 0] 32)).alloc (.cells #[.int .i64 0] 3)).alloc (.cells #[.int .i64 0] 35)).alloc (.cells #[.string s] 9) = W0 := ⟨_, rfl⟩
  have hsz : W0.heap.size = w.heap.size + 4 := by rw [← hW0]; simp
  rw [hW0] at bL3 bA3 bE3 bS hB0 ⊢
  have hT0 : Tx W0 := hT.b hB0
  have Hsz := Lib.hid hsz
  have hsl : w.heap.size + 1 + 1 + 1 < W0.heap.size := by omega
  clear bL bA bE hW0 hsz
  refine wpIn_rangeFunc_ownG hro h1 (gf := 24) (lb := #[.pointer (some ⟨w.heap.size + 1 + 1 + 1, 0, none⟩)]) rfl h44 (enters_of Tryd.func24 (by kernel_rfl) rfl)
    (operators_stops (n - 1) (by omega) (w.heap.size + 1 + 1 + 1) s hs W0 hT0 bS) sameK_t (sameK_b hsl) (Below.refl _ _) (fun _ => rfl)
    (fun pre W => (∃ v, Boxed W w.heap.size 32 v ∧ W.ownsRow w.heap.size 3 1 v pre.length (intCells (pre.map (·.2))) ∧ v.ownBlock ≠ some (w.heap.size + 1)) ∧ Boxed W (w.heap.size + 1) 3 (.int .i64 0) ∧ Boxed W (w.heap.size + 1 + 1) 35 (.int .i64 0) ∧ Boxed W (w.heap.size + 1 + 1 + 1) 9 (.string s) ∧ (∀ x ∈ pre, x.2 ≠ 0) ∧ Below w.heap.size w W)
    (fun c pre W => (c = .ret ∧ BadEnd pre) ∧ Boxed W w.heap.size 32 (.slice none 0 0) ∧ Boxed W (w.heap.size + 1) 3 (.int .i64 (badAt pre)) ∧ Boxed W (w.heap.size + 1 + 1) 35 (.int .i64 15) ∧ Below w.heap.size w W)
    (OwnFrom.and (Own.from (holdsRow_own w.heap.size w.heap.size 32 3 1 (fun (pre : List (Nat × Nat)) => pre.length) (fun pre => intCells (pre.map (·.2))) (fun pre v => v.ownBlock ≠ some (w.heap.size + 1))) _) (OwnFrom.and (Own.from (boxed_own (w.heap.size + 1) 3 (fun _ => .int .i64 0)) _) (OwnFrom.and (Own.from (boxed_own (w.heap.size + 1 + 1) 35 (fun _ => .int .i64 0)) _) (OwnFrom.and (Own.from (boxed_own (w.heap.size + 1 + 1 + 1) 9 (fun _ => .string s)) _) (OwnFrom.and (ownFrom_pure _ (fun (pre : List (Nat × Nat)) => ∀ x ∈ pre, x.2 ≠ 0)) (ownFrom_below (Nat.le_refl _) (by omega)))))))
    (fun c => OwnFrom.and (ownFrom_pure _ (fun (pre : List (Nat × Nat)) => c = .ret ∧ BadEnd pre)) (OwnFrom.and (Own.from (boxed_own w.heap.size 32 (fun _ => .slice none 0 0)) _) (OwnFrom.and (Own.from (boxed_own (w.heap.size + 1) 3 (fun (pre : List (Nat × Nat)) => .int .i64 (badAt pre))) _) (OwnFrom.and (Own.from (boxed_own (w.heap.size + 1 + 1) 35 (fun _ => .int .i64 15)) _) (ownFrom_below (Nat.le_refl _) (by omega))))))
    ⟨⟨_, bL3, World.ownsRow_nil _ _ _ _, by simp [Value.ownBlock]⟩, bA3, bE3, bS, by simp, hB0⟩
    (fun x => { tmps := #[.string s, undef, .pointer (some ⟨w.heap.size, 0, none⟩), .pointer (some ⟨w.heap.size + 1, 0, none⟩), .pointer (some ⟨w.heap.size + 1 + 1, 0, none⟩), .int .i64 x.1, .int .i64 x.2, .string s, .func (.func 24) #[] #[.pointer (some ⟨w.heap.size + 1 + 1 + 1, 0, none⟩)], .int .i64 x.1, .int .i64 x.2, undef, undef, undef, undef, undef, undef, undef, undef], defers := [] }) ?assign ?body ?done ?stop
  case assign =>
    intro l x W K hK
    gi_wp2
    exact hK
  case body =>
    rintro l pre ⟨p, o⟩ W ⟨⟨v, hv, hrow, hap⟩, hA, hE, hS, hnz, hB⟩ hlt
    have hc := hv.cell
    have hf := hv.frozen
    have hca := hA.cell
    have hfa := hA.frozen
    have hce := hE.cell
    have hfe := hE.frozen
    have HNZ := Lib.hid hnz
    clear hnz
    by_cases h0 : o = 0
    · subst h0
      dsimp only
      gi_wp2
      refine ⟨(((KeepsOthers.setCell W _ _).trans (KeepsOthers.setCell _ _ _)).trans (KeepsOthers.setCell _ _ _)).from _, ⟨rfl, _, p, rfl, HNZ.out⟩, ((Boxed.set _ hv).other (by omega) _).other (by omega) _, ?_, Boxed.set _ ((hE.other (by omega) _).other (by omega) _), ((hB.setCell (p := ⟨w.heap.size, 0, none⟩) (Nat.le_refl _) _).setCell (p := ⟨w.heap.size + 1, 0, none⟩) (by simp) _).setCell (p := ⟨w.heap.size + 1 + 1, 0, none⟩) (by simp; omega) _⟩
      rw [badAt_snoc]
      exact (Boxed.set _ (hA.other (by omega) _)).other (by omega) _
    · have e0 : ((o : Int) == 0) = false := beq_eq_false_iff_ne.2 (by omega)
      have H0 := Lib.hid h0
      clear h0
      dsimp only
      gi_wp2_with (gi_at_builtin; refine wpListIn_append_own _ rfl _ _ 32 rfl w.heap.size 3 i0 (.int .i64 0) 1 8 Tryd.underlying32 hi hz0 hz1 hz2 rfl (by decide) _ _ _ rfl (hrow.alloc _) ⟨W.heap.size, 0, none⟩ 1 1 [.int .i64 (o : Int)] rfl rfl (cell_one_new _ _ _) (by simp [Value.oneCell']) (by unfold maxLen; omega) (by omega) (by have := hB.size; simp; omega) ?_; intro v' w1 hown' hgrow _; obtain ⟨g', cap', rfl⟩ := ownsRow_succ hown'; obtain ⟨hv1, hv2, hr2, hk2, hb2⟩ := hv.appended (by decide) hrow hB.size (Nat.le_refl _) hown' hgrow; have hc1 := hv1.cell; have hf1 := hv1.frozen)
      have hS2 := ((hS.alloc (.cells #[.int .i64 (o : Int)] 3)).kept hgrow (hS.not_row (by decide) hrow)).other (B' := w.heap.size) (by omega) (.slice (some ⟨g', 0, none⟩) (pre.length + 1) cap')
      have hE2 := ((hE.alloc (.cells #[.int .i64 (o : Int)] 3)).kept hgrow (hE.not_row (by decide) hrow)).other (B' := w.heap.size) (by omega) (.slice (some ⟨g', 0, none⟩) (pre.length + 1) cap')
      have hA1 := (hA.alloc (.cells #[.int .i64 (o : Int)] 3)).kept hgrow (fun e => hap e.symm)
      have hA2 := hA1.other (B' := w.heap.size) (by omega) (.slice (some ⟨g', 0, none⟩) (pre.length + 1) cap')
      have hap2 := apart_box (W := W) hA1 hown' (by simp [intCells]) H0.out
      have hT2 : SameK (w.heap.size + 1 + 1 + 1) W (w1.setCell ⟨w.heap.size, 0, none⟩ (.slice (some ⟨g', 0, none⟩) (pre.length + 1) cap')) := ⟨Eq.trans hS2 (Eq.symm hS), hb2.block 0 hT.1⟩
      refine ⟨hk2.from _, hT2, ⟨_, hv2, ?_, by simp [Value.ownBlock]; omega⟩, hA2, hE2, hS2, ?_, hB.trans hb2⟩
      · rw [List.map_append, List.length_append]
        show World.ownsRow _ _ _ _ _ _ (intCells (List.map (fun x => x.snd) pre ++ [o]))
        rw [intCells_snoc]
        exact hr2
      · intro x hx
        rcases List.mem_append.1 hx with g | g
        · exact HNZ.out x g
        · have : x = (p, o) := by simpa using g
          rw [this]
          exact H0.out
  case done =>
    rintro D ys W hD hall ⟨⟨v, hv, hrow, hap⟩, hA, hE, hS, hnz, hB⟩ hK
    have hsp : spl s 0 = (ys.map (·.2), -1) := by
      rcases hall with ⟨k, h1, h2, h3⟩ | ⟨x, hx, h0⟩
      · exact h1.done h2 h3
      · exact absurd h0 (hnz x hx)
    have hc := hv.cell
    have hf := hv.frozen
    have hca := hA.cell
    have hfa := hA.frozen
    have hce := hE.cell
    have hfe := hE.frozen
    have HSP := Lib.hid hsp
    clear hsp hall hnz
    obtain ⟨ao, m, cap, rfl⟩ := own_slice hrow
    have nr0 := hv.not_row (by decide) hrow
    have nr2 := hE.not_row (by decide) hrow
    gi_wp2
    obtain ⟨W2, hW2⟩ : ∃ W2, ((W.setCell ⟨w.heap.size, 0, none⟩ (.slice ao m cap)).setCell ⟨w.heap.size + 1, 0, none⟩ (.int .i64 0)).setCell ⟨w.heap.size + 1 + 1, 0, none⟩ (.int .i64 0) = W2 := ⟨_, rfl⟩
    have kk : KeepsOthers W W2 := by rw [← hW2]; exact ((KeepsOthers.setCell W _ _).trans (KeepsOthers.setCell _ _ _)).trans (KeepsOthers.setCell _ _ _)
    have hK' := kk.same D _ hK rfl
    have fr : Frm (fun k => k = w.heap.size ∨ k = w.heap.size + 1 ∨ k = w.heap.size + 1 + 1) W W2 := by
      rw [← hW2]
      exact (((Frm.refl _ W).setCell 0 (.inl (.inl rfl)) _).setCell 0 (.inl (.inr (.inl rfl))) _).setCell 0 (.inl (.inr (.inr rfl))) _
    have hr2 := own_frm fr hrow (fun k hk => by
      rintro (g | g | g)
      · subst g; exact nr0 hk.symm
      · subst g; exact hap hk
      · subst g; exact nr2 hk.symm)
    have hL2 : W2.cell? ⟨w.heap.size, 0, none⟩ = some (.slice ao m cap) := by rw [← hW2]; exact (((Boxed.set _ hv).other (by omega) _).other (by omega) _).cell
    have hA2 : W2.cell? ⟨w.heap.size + 1, 0, none⟩ = some (.int .i64 0) := by rw [← hW2]; exact ((Boxed.set _ (hA.other (by omega) _)).other (by omega) _).cell
    have hE2 : W2.cell? ⟨w.heap.size + 1 + 1, 0, none⟩ = some (.int .i64 0) := by rw [← hW2]; exact (Boxed.set _ ((hE.other (by omega) _).other (by omega) _)).cell
    have hb2 : Below w.heap.size w W2 := by
      rw [← hW2]
      exact ((hB.setCell (p := ⟨w.heap.size, 0, none⟩) (Nat.le_refl _) _).setCell (p := ⟨w.heap.size + 1, 0, none⟩) (by simp) _).setCell (p := ⟨w.heap.size + 1 + 1, 0, none⟩) (by simp; omega) _
    rw [hW2]
    refine ⟨by simp, .inl ⟨_, _, rfl, run_takeDeferred hK', ?_⟩⟩
    have hc0 := cell_kept hL2 (grownBy_putObj' _ D (.deferred none)) (fun r e => by cases e; exact ⟨_, hK', rfl⟩)
    have hc1 := cell_kept hA2 (grownBy_putObj' _ D (.deferred none)) (fun r e => by cases e; exact ⟨_, hK', rfl⟩)
    have hc2 := cell_kept hE2 (grownBy_putObj' _ D (.deferred none)) (fun r e => by cases e; exact ⟨_, hK', rfl⟩)
    refine ⟨.tuple #[.slice ao m cap, .int .i64 0, .int .i64 0], ?_, _, 0, 0, rfl, .inl ⟨by rw [HSP.out], ?_, rfl, rfl⟩, hb2.trans (belowK_b (w := w) (Nat.le_refl _) W2 D _ _ (by omega) hK' rfl rfl)⟩
    · simp [results, Tryd.f18, go_sem, hc0, hc1, hc2]
    · rw [HSP.out, List.length_map]
      exact ownsRow_putObj hr2 _ hK' rfl
  case stop =>
    rintro D c pre W hD ⟨k, hO⟩ ⟨⟨rfl, hbad⟩, hL, hA, hE, hB⟩ hK
    have hpl := hbad.place hO
    have hL2 := hL.cell
    have hA2 := hA.cell
    have hE2 := hE.cell
    gi_wp2
    refine ⟨by simp, .inl ⟨_, _, rfl, run_takeDeferred hK, ?_⟩⟩
    have hc0 := cell_kept hL2 (grownBy_putObj' _ D (.deferred none)) (fun r e => by cases e; exact ⟨_, hK, rfl⟩)
    have hc1 := cell_kept hA2 (grownBy_putObj' _ D (.deferred none)) (fun r e => by cases e; exact ⟨_, hK, rfl⟩)
    have hc2 := cell_kept hE2 (grownBy_putObj' _ D (.deferred none)) (fun r e => by cases e; exact ⟨_, hK, rfl⟩)
    refine ⟨.tuple #[.slice none 0 0, .int .i64 (badAt pre), .int .i64 15], ?_, _, (badAt pre : Nat), 15, rfl, .inr ⟨by rw [hpl]; omega, rfl, hpl.symm, rfl⟩, hB.trans (belowK_b (w := w) (Nat.le_refl _) W D _ _ (by omega) hK rfl rfl)⟩
    simp [results, Tryd.f18, go_sem, hc0, hc1, hc2]
theorem split_any (s : ByteArray) (hs : s.size ≤ 1000000) (w : World) (hT : Tx w) :
    Calls Tryd.prog 18 #[.string s] w fun e W' => ∃ v a c, e = .returned (.tuple #[v, .int .i64 a, .int .i64 c]) ∧ SplitA s w.heap.size W' v a c ∧ Below w.heap.size w W' :=
  (callsIn_wide (n := 3)).1 (split_in 3 (Nat.le_refl _) s hs w hT)
end Go.Proofs.YtlfmpjneopeadaaDoor

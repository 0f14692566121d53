/- What the library's Backward at nodes yields, and what Cover of layer 11 (tree) returns. Condition: at most ten thousand nodes. -/
import Derived.RangeFuncCalls
import Derived.RangeFuncNested
import Derived.RangeFuncLeaves
import Derived.Shelf.RegionOpen
import Derived.Test.YtppipngdakfbpaaWt
import Derived.Test.YtppipngdakfbpaaTrE
namespace Go.Proofs.Ytppipngdakfbpaa
open Go.RowKit Go.Shelf
set_option linter.unusedVariables false
attribute [local go_sem] Oper.semAt_some

/-- The numbers below n, from the last one down. -/
def rvR (n : Nat) : List Nat := (List.range n).reverse
theorem rvR_len (n : Nat) : (rvR n).length = n := by simp [rvR]
theorem rvR_at {n k : Nat} (h : k < n) : (rvR n)[k]? = some (n - 1 - k) := by
  unfold rvR
  rw [List.getElem?_reverse (by simpa using h), List.length_range, List.getElem?_range (by omega)]
theorem rvR_split {n : Nat} {pre rest : List Nat} {x : Nat} (h : rvR n = pre ++ x :: rest) : pre.length < n ∧ x = n - 1 - pre.length := by
  have h1 : pre.length < n := by
    have := congrArg List.length h
    rw [rvR_len, List.length_append, List.length_cons] at this
    omega
  refine ⟨h1, ?_⟩
  have h2 := rvR_at h1
  rw [h, List.getElem?_append_right (Nat.le_refl _), Nat.sub_self] at h2
  simpa using h2
theorem rvR_cut {n k : Nat} (h : k < n) : rvR n = (rvR n).take k ++ (n - 1 - k) :: (rvR n).drop (k + 1) := by
  have h1 := rvR_at h
  have h2 : k < (rvR n).length := by rw [rvR_len]; exact h
  rw [List.getElem?_eq_getElem h2] at h1
  have h3 : (rvR n).drop k = (n - 1 - k) :: (rvR n).drop (k + 1) := by
    rw [List.drop_eq_getElem_cons h2]
    congr 1
    exact Option.some.inj h1
  rw [← h3, List.take_append_drop]
theorem rvR_snoc {n k : Nat} (h : k < n) : (rvR n).take (k + 1) = (rvR n).take k ++ [n - 1 - k] := by
  rw [List.take_add_one, rvR_at h]
  rfl
/-- The blocks that an iterator over a row has captured: its box, and the row's. -/
def CapN (Bx : Nat) (ao : Option Addr) (n b : Nat) : Prop := b = Bx ∨ (0 < n ∧ ∃ off, ao = some ⟨b, off, none⟩)
def BnRl (n : Nat) (Bx : Nat) (ao : Option Addr) (J : List Nat → (Nat → Prop) → World → Prop) (W : World) (v3 : Value) (wr : World) : Prop :=
  ∃ k : Nat, k ≤ n ∧ v3 = .int .i64 ((n : Int) - 1 - (k : Int)) ∧ J ((rvR n).take k) (fun _ => False) wr ∧ W.heap.size ≤ wr.heap.size ∧ ∀ b, b < W.heap.size → CapN Bx ao n b → wr.heap[b]? = W.heap[b]?
set_option maxRecDepth 100000 in
set_option maxHeartbeats 2000000 in
theorem backN_seq (m : Nat) (hm : 1 ≤ m) (Bx : Nat) (ao : Option Addr) (n c : Nat) (nv : Nat → Nd) (hn : n ≤ 1000000) (W : World) (hb : Blk W Bx #[.slice ao n c] 22) (hrow : NRow W ao n nv) :
    SeqT m Try.prog 35 #[.pointer (some ⟨Bx, 0, none⟩)] (fun x : Nat => #[.int .i64 (x : Int), aggN (nv x)]) (CapN Bx ao n) (rvR n) W := by
  intro l J Jx hJ hJx hY h0
  have hro : Fence.wide.round = none := rfl
  have hfn : Fence.wide.fn 35 := trivial
  have HROW := Lib.hid hrow
  have HB := Lib.hid hb
  have hcb := hb.cell 0
  simp at hcb
  have e0 : IntKind.i64.wrap ((n : Int) - 1) = (n : Int) - 1 := IntWalk.i64_in _ (by omega)
  clear hrow hb
  refine callsIn_of_wp Try.func35 rfl hfn ?_ hro
  simp only [Try.ntmps35, List.size_toArray, List.length_cons, List.length_nil, Nat.reduceAdd, Nat.reduceSub, Array.replicate_succ, Array.replicate_zero, List.push_toArray, List.append_toArray, List.nil_append, List.cons_append]
  gi_wp2
  clear hcb e0
  gi_loopw [3] (fun v3 wr => BnRl n Bx ao J W v3 wr) (fun v3 _ => (intOf v3 + 1).toNat)
  case atStart => exact ⟨0, Nat.zero_le _, by simp, h0, Nat.le_refl _, fun _ _ _ => rfl⟩
  case round =>
    obtain ⟨k, hk, rfl, hJs, hsz, hsame⟩ := hrel
    by_cases hlt : k < n
    · obtain ⟨x, hx⟩ : ∃ x : Nat, n - 1 - k = x := ⟨_, rfl⟩
      have ei : (n : Int) - 1 - (k : Int) = (x : Int) := by omega
      have hblk : Blk wr Bx #[.slice ao n c] 22 := (hsame Bx HB.out.lt (.inl rfl)).trans HB.out
      have hrow := HROW.out.kept hsz (fun b off h1 h2 => hsame b h2 (.inr ⟨by omega, off, h1⟩))
      have hcb := hblk.cell 0
      simp at hcb
      have hcut := rvR_cut hlt
      have hsn := rvR_snoc hlt
      rw [hx] at hcut hsn
      obtain ⟨b, off, rfl, hbw, c0, c1, c2, c3⟩ := hrow x (by omega)
      obtain ⟨fn, tmps, assign, body, hy, hR⟩ := hY _ x _ _ wr hcut hJs (fun b h => h.elim)
      obtain ⟨P, hP⟩ : ∃ P, nv x = P := ⟨_, rfl⟩
      rw [hP] at c0 c1 c2 c3
      unfold aggN at hy
      rw [hP] at hy
      obtain ⟨pk, pf, pt, pu⟩ := P
      simp only at c0 c1 c2 c3 hy
      have q0 : (0 : Int) ≤ (x : Int) := by omega
      have q1 : (x : Int) < (n : Int) := by omega
      have e1 : IntKind.i64.wrap ((x : Int) - 1) = (x : Int) - 1 := IntWalk.i64_in _ (by omega)
      rw [ei]
      have HX := Lib.hid hx
      have HSN := Lib.hid hsn
      have HSM := Lib.hid hsame
      have HBX := Lib.hid hblk.lt
      clear hx ei hcut hsn hP hrow hsame hblk
      gi_wp2
      refine hR.mono ?_
      rintro e W3 ⟨hk3, (⟨rfl, hJ3⟩ | ⟨rfl, hJx3⟩)⟩
      · have hs3 := hk3.size
        have HK3 := Lib.hid hk3
        clear hk3
        gi_wp2
        go_roundw
        case rel => exact ⟨k + 1, by omega, by have := HX.out; first | (congr 1; omega) | (simp; omega), by rw [HSN.out]; exact hJ3, by omega, fun b' h1 h2 => (HK3.out.same b' (by omega) (.inr h2)).trans (HSM.out b' h1 h2)⟩
        case measure => simp [intOf] <;> omega
      · gi_wp2
        refine bodyPost_ret (results_none rfl _ _ _) rfl ?_
        exact ⟨⟨_, rfl⟩, .inr ⟨_, _, hJx3⟩⟩
    · obtain rfl : k = n := by omega
      have hneg : ¬ (0 : Int) ≤ (k : Int) - 1 - (k : Int) := by omega
      have hall : (rvR k).take k = rvR k := List.take_of_length_le (by rw [rvR_len]; exact Nat.le_refl _)
      rw [hall] at hJs
      gi_wp2
      go_end0
      exact ⟨⟨_, rfl⟩, .inl ⟨_, hJs⟩⟩
theorem backN_any (w : World) (ao : Option Addr) (n c : Nat) :
    Calls Try.prog 28 #[.slice ao n c] w fun e w' => e = .returned (.func (.func 35) #[] #[.pointer (some ⟨w.heap.size, 0, none⟩)]) ∧ w' = w.alloc (.cells #[.slice ao n c] 22) := by
  go_enter Try.func28, Try.ntmps28
  go_wp2
  go_ret
  exact ⟨rfl, rfl⟩

/-- Does a node cover a leaf? -/
def cv (nv : Nat → Nd) (leaf : Int) (k : Nat) : Prop := (nv k).f ≤ leaf ∧ leaf < (nv k).t
/-- The last node that covers a leaf. -/
def CvR (nv : Nat → Nd) (n : Nat) (leaf x : Int) : Prop := (x = -1 ∧ ∀ k, k < n → ¬ cv nv leaf k) ∨ ∃ k : Nat, x = (k : Int) ∧ k < n ∧ cv nv leaf k ∧ ∀ j, k < j → j < n → ¬ cv nv leaf j
/-- What holds ahead of a round of Cover's range; z: the heap's size where it began. -/
def CvI (nv : Nat → Nd) (n : Nat) (leaf : Int) (w : World) (z A B : Nat) (pre : List Nat) (T : Nat → Prop) (W : World) : Prop :=
  Blk W A #[.int .i64 leaf] 3 ∧ Blk W B #[.int .i64 0] 3 ∧ (∀ b, T b → z + 2 ≤ b) ∧ z + 2 ≤ W.heap.size ∧ Below w.heap.size w W ∧ ∀ k, n - pre.length ≤ k → k < n → ¬ cv nv leaf k
def CvX (nv : Nat → Nd) (n : Nat) (leaf : Int) (w : World) (z B : Nat) (c : Code) (pre : List Nat) (T : Nat → Prop) (W : World) : Prop :=
  c = .ret ∧ ∃ k : Nat, Blk W B #[.int .i64 (k : Int)] 3 ∧ (∀ b, T b → z + 2 ≤ b) ∧ z + 2 ≤ W.heap.size ∧ Below w.heap.size w W ∧ k < n ∧ cv nv leaf k ∧ ∀ j, k < j → j < n → ¬ cv nv leaf j
theorem CvI.abid {nv : Nat → Nd} {n : Nat} {leaf : Int} {w : World} {z A B : Nat} (ha : A < z) (hb : B < z) (hw : w.heap.size ≤ z) : AbidL (z + 1) (CvI nv n leaf w z A B) := by
  rintro pre T W W' T' ⟨k1, k2, hT, hzW, hB, hx⟩ hf hT'
  have no : ∀ b, b < z → ¬ (T b ∨ b = z + 1) := fun b hb hh => by rcases hh with g | g; have := hT b g; omega; omega
  refine ⟨k1.frm hf (no _ ha), k2.frm hf (no _ hb), fun b hb => ?_, ?_, ?_, hx⟩
  · rcases hT' b hb with e | e
    · exact hT b e
    · omega
  · have := hf.size; omega
  · exact hB.trans ((hf.below (n := w.heap.size) hB.size (fun b hh => by rcases hh with e | e; have := hT b e; omega; omega)))
theorem CvX.abid {nv : Nat → Nd} {n : Nat} {leaf : Int} {w : World} {z B : Nat} (hb : B < z) (hw : w.heap.size ≤ z) (c : Code) : AbidL (z + 1) (CvX nv n leaf w z B c) := by
  rintro pre T W W' T' ⟨rfl, k, k2, hT, hzW, hB, hx⟩ hf hT'
  have no : ∀ b, b < z → ¬ (T b ∨ b = z + 1) := fun b hb hh => by rcases hh with g | g; have := hT b g; omega; omega
  refine ⟨rfl, k, k2.frm hf (no _ hb), fun b hb => ?_, ?_, ?_, hx⟩
  · rcases hT' b hb with e | e
    · exact hT b e
    · omega
  · have := hf.size; omega
  · exact hB.trans ((hf.below (n := w.heap.size) hB.size (fun b hh => by rcases hh with e | e; have := hT b e; omega; omega)))
section
variable (w : World)
set_option maxRecDepth 100000 in
set_option maxHeartbeats 8000000 in
theorem cover_any (ao : Option Addr) (len cap : Nat) (nv : Nat → Nd) (hrow : NRow w ao len nv) (hl : len ≤ 1000000) (leaf : Int) :
    Calls Try.prog 18 #[.slice ao len cap, .int .i64 leaf] w fun e w' => (∃ x : Int, e = .returned (.int .i64 x) ∧ CvR nv len leaf x) ∧ Below w.heap.size w w' := by
  refine (callsIn_wide (n := 5)).1 ?_
  have hfn : Fence.wide.fn 18 := trivial
  have b3 := (Blk.new w #[.int .i64 leaf] 3).alloc (.cells #[.int .i64 0] 3)
  have b4 := Blk.new (w.alloc (.cells #[.int .i64 leaf] 3)) #[.int .i64 0] 3
  have hB0 : Below w.heap.size w ((w.alloc (.cells #[.int .i64 leaf] 3)).alloc (.cells #[.int .i64 0] 3)) := ((Below.refl _ w).alloc (Nat.le_refl _) _).alloc (by simp) _
  have hz0 : ((w.alloc (.cells #[.int .i64 leaf] 3)).alloc (.cells #[.int .i64 0] 3)).heap.size = w.heap.size + 2 := by simp
  simp only [World.size_alloc] at b4
  have HROW := Lib.hid hrow
  clear hrow
  refine callsIn_of_wp_marks Try.func18 rfl hfn ?_ rfl
  refine (wpIn_wide (n := 5)).2 ?_
  simp only [Try.ntmps18, List.size_toArray, List.length_cons, List.length_nil, Nat.reduceAdd, Nat.reduceSub, Array.replicate_succ, Array.replicate_zero, List.push_toArray, List.append_toArray, List.nil_append, List.cons_append]
  go_wp2_with fail
  obtain ⟨W0, hW0⟩ : ∃ X, (w.alloc (.cells #[.int .i64 leaf] 3)).alloc (.cells #[.int .i64 0] 3) = X := ⟨_, rfl⟩
  rw [hW0] at b3 b4 hB0 hz0 ⊢
  clear hW0
  obtain ⟨A, h3⟩ : ∃ x, w.heap.size = x := ⟨_, rfl⟩
  have H3 := Lib.hid h3
  rw [h3] at b3 b4 hz0 ⊢
  obtain ⟨B, h4⟩ : ∃ x, A + 1 = x := ⟨_, rfl⟩
  rw [h4] at b4 ⊢
  refine (backN_any W0 ao len cap).mono ?_
  rintro en W1 ⟨rfl, hW1⟩
  obtain ⟨Bx, h5⟩ : ∃ x, W0.heap.size = x := ⟨_, rfl⟩
  have bx := Blk.new W0 #[.slice ao len cap] 22
  rw [← hW1] at bx
  have hB1 : Below W0.heap.size W0 W1 := by rw [hW1]; exact (Below.refl _ _).alloc (Nat.le_refl _) _
  have hz1 : W1.heap.size = W0.heap.size + 1 := by rw [hW1]; simp
  rw [h5] at bx hz1 ⊢
  clear hW1
  have hBw : Below w.heap.size w W1 := hB0.trans (hB1.mono (by omega))
  have hrow1 : NRow W1 ao len nv := HROW.out.below hBw
  have hcge : ∀ b, CapN Bx ao len b → (b < A ∨ B < b) ∧ b < W1.heap.size := by
    rintro b (rfl | ⟨h1, off, h2⟩)
    · omega
    · obtain ⟨b', off', e, hlt, _⟩ := HROW.out 0 h1
      rw [h2] at e
      injection e with e
      injection e with e1 e2
      omega
  have hseq : ∀ W, Below W1.heap.size W1 W → SeqT (5 - 1) Try.prog 35 #[.pointer (some ⟨Bx, 0, none⟩)] (fun x : Nat => #[.int .i64 (x : Int), aggN (nv x)]) (CapN Bx ao len) (rvR len) W := fun W hW =>
    backN_seq 4 (by omega) Bx ao len cap nv hl W (bx.below hW) (hrow1.below hW)
  have hord : A < W1.heap.size ∧ B < W1.heap.size ∧ w.heap.size ≤ W1.heap.size ∧ A < B := by omega
  have HSEQ := Lib.hid hseq
  have HCG := Lib.hid hcge
  have HL := Lib.hid hl
  have c3 := b3.below (hB1.mono (Nat.le_refl _))
  have c4 := b4.below (hB1.mono (Nat.le_refl _))
  clear hseq hcge hrow1 bx b3 b4 hB0 hz0 hB1 hz1 h5
  go_wp2
  refine (wpIn_wide (n := 5)).1 (wpT (L := rvR len) (encs := fun x : Nat => #[.int .i64 (x : Int), aggN (nv x)]) (C := CapN Bx ao len) (gf := 35) (lb := #[.pointer (some ⟨Bx, 0, none⟩)]) rfl (enters_of Try.func35 (by kernel_rfl) rfl) HSEQ.out (fun b hb => (HCG.out b hb).2) ?hps
    (CvI nv len leaf w W1.heap.size A B) (CvX nv len leaf w W1.heap.size B) (CvI.abid hord.1 hord.2.1 hord.2.2.1) (CvX.abid hord.2.1 hord.2.2.1) ?start ?round ?fin ?stop)
  case hps => intro x; rfl
  case start =>
    intro W hB hz
    exact ⟨c3.below hB, c4.below hB, (fun b hb => hb.elim), by omega, hBw.trans (hB.mono hBw.size), fun k h1 h2 => by simp at h1; omega⟩
  case fin =>
    rintro T W ⟨k3, k4, hT, hzW, hB, ha⟩ hWz hWd
    have c4' := k4.cell 0
    have f4 := k4.frozen 0
    have HA := Lib.hid ha
    have HD := Lib.hid hWd
    clear ha k3
    dsimp only
    go_wp2
    have hF2 : Frm (fun b => b = B) W (W.setCell ⟨B, 0, none⟩ (.int .i64 (-1))) :=
      Frm.setCell (p := fun b => b = B) (Frm.refl _ W) 0 (.inl rfl) _
    have g4 := (k4.set 0 (.int .i64 (-1))).cell 0
    have hBF : Below w.heap.size w (W.setCell ⟨B, 0, none⟩ (.int .i64 (-1))) := hB.trans (hF2.below (by omega) (fun b hb => by have := H3.out; subst hb; omega))
    have hKD : (W.setCell ⟨B, 0, none⟩ (.int .i64 (-1))).heap[W1.heap.size]? = some (.deferred (some [])) := (hF2.block _ (Array.getElem?_eq_some_iff.1 HD.out).1 (fun h => by omega)).trans HD.out
    obtain ⟨W5, hW5⟩ : ∃ X, W.setCell ⟨B, 0, none⟩ (.int .i64 (-1)) = X := ⟨_, rfl⟩
    rw [hW5] at hKD hBF g4 ⊢
    refine ⟨by simp, .inl ⟨_, _, rfl, run_takeDeferred hKD, ?_⟩⟩
    have hc0 := cell_kept g4 (grownBy_putObj' _ W1.heap.size (.deferred none)) (fun r e => by cases e; exact ⟨_, hKD, rfl⟩)
    refine ⟨.int .i64 (-1), ?_, ⟨-1, rfl, .inl ⟨rfl, fun k hk => HA.out k (by rw [rvR_len]; omega) hk⟩⟩, ?_⟩
    · simp [results, Try.f18, go_sem, hc0]
    · exact hBF.trans (belowK_b (w := w) (Nat.le_refl _) W5 W1.heap.size _ _ (by omega) hKD rfl rfl)
  case stop =>
    rintro c pre T W ⟨rfl, k, k4, hT, hzW, hB, hk, hcv, hlast⟩ hWz hWd
    have c4' := k4.cell 0
    have HA := Lib.hid (show CvR nv len leaf (k : Int) from .inr ⟨k, rfl, hk, hcv, hlast⟩)
    have hK := Lib.hid hWd
    clear hk hcv hlast
    gi_wp2
    refine ⟨by simp, .inl ⟨_, _, rfl, run_takeDeferred hWd, ?_⟩⟩
    have hc0 := cell_kept c4' (grownBy_putObj' _ W1.heap.size (.deferred none)) (fun r e => by cases e; exact ⟨_, hWd, rfl⟩)
    refine ⟨.int .i64 (k : Int), ?_, ⟨_, rfl, HA.out⟩, ?_⟩
    · simp [results, Try.f18, go_sem, hc0]
    · exact hB.trans (belowK_b (w := w) (Nat.le_refl _) W W1.heap.size _ _ (by omega) hWd rfl rfl)
  case round =>
    rintro pre x rest T W hLx ⟨k3, k4, hT, hzW, hB, ha⟩ hTb hWz hrec hdef t1 t2
    obtain ⟨hpl, hxe⟩ := rvR_split hLx
    have HXE := Lib.hid hxe
    clear hxe
    obtain ⟨P, hP⟩ : ∃ P, nv x = P := ⟨_, rfl⟩
    obtain ⟨pk, pf, pt, pu⟩ := P
    simp only [aggN, hP]
    gi_wp2
    obtain ⟨W2, hW2⟩ : ∃ X, W.alloc (.cells #[.int .i64 pk, .int .i64 pf, .int .i64 pt, .int .i64 pu] 30) = X := ⟨_, rfl⟩
    have hB2 : Below W.heap.size W W2 := by rw [← hW2]; exact (Below.refl _ _).alloc (Nat.le_refl _) _
    have kX : Blk W2 W.heap.size #[.int .i64 pk, .int .i64 pf, .int .i64 pt, .int .i64 pu] 30 := by rw [← hW2]; exact Blk.new W _ _
    have z2 : W2.heap.size = W.heap.size + 1 := by rw [← hW2]; simp
    rw [hW2]
    clear hW2
    refine ⟨hB2.block _ (by omega), hB2.block _ (by omega), ⟨hB2.size, fun b hb _ => hB2.block b hb⟩, fun r => ?_⟩
    obtain ⟨W3, hW3⟩ : ∃ X, W2.putObj (W1.heap.size + 1) (.loop r) = X := ⟨_, rfl⟩
    have z3 : W3.heap.size = W.heap.size + 1 := by rw [← hW3, ← z2]; simp
    have hF3 : Frm (fun b => b = W1.heap.size + 1) W W3 := by
      rw [← hW3]
      exact (Frm.of_below hB2).trans (frm_put (p := fun b => b = W1.heap.size + 1) W2 _ rfl) (fun _ _ h => h)
    have kX3 : Blk W3 W.heap.size #[.int .i64 pk, .int .i64 pf, .int .i64 pt, .int .i64 pu] 30 := by
      rw [← hW3]
      exact (World.putObj_heap_other (by omega)).trans kX
    rw [hW3]
    clear hW3 kX hB2 z2 hrec hdef
    have m3 := k3.frm hF3 (by omega)
    have m4 := k4.frm hF3 (by omega)
    have c3' := m3.cell 0
    have c4' := m4.cell 0
    have f4' := m4.frozen 0
    have x1 := kX3.cell 1
    have x2 := kX3.cell 2
    have hBW3 : Below w.heap.size w W3 := hB.trans (hF3.below (by omega) (fun b hb => by omega))
    have hxe := HXE.out
    have hcx : cv nv leaf x ↔ pf ≤ leaf ∧ leaf < pt := by unfold cv; rw [hP]
    have hxl : x < len := by omega
    have hlen2 : len - (pre ++ [x]).length = x := by rw [List.length_append, List.length_singleton]; omega
    have HNEW := Lib.hid (show ¬ cv nv leaf x → ∀ k, x ≤ k → k < len → ¬ cv nv leaf k from fun h k h1 h2 => by
      rcases Nat.eq_or_lt_of_le h1 with rfl | h3
      · exact h
      · exact ha k (by omega) h2)
    have HLAST := Lib.hid (show ∀ k, x < k → k < len → ¬ cv nv leaf k from fun k h1 h2 => ha k (by omega) h2)
    have HCX := Lib.hid hcx
    have HXL := Lib.hid hxl
    have HL2 := Lib.hid hlen2
    clear ha hcx hP hxe hpl hLx hxl hlen2
    by_cases g1 : pf ≤ leaf
    · by_cases g2 : leaf < pt
      · gi_wp2
        have hF4 : Frm (fun b => b = B) W3 (W3.setCell ⟨B, 0, none⟩ (.int .i64 (x : Int))) := Frm.setCell (p := fun b => b = B) (Frm.refl _ W3) 0 (.inl rfl) _
        refine ⟨hF4.block _ (by omega) (by omega), hF4.block _ (by omega) (by omega), KpT.of_frm hF4 (fun b _ hb => ⟨fun ht => ?_, fun hc => ?_⟩), rfl, x, m4.set 0 (.int .i64 (x : Int)), hT, ?_, ?_, HXL.out, HCX.out.2 ⟨g1, g2⟩, HLAST.out⟩
        · have := hT b ht; omega
        · have := HCG.out b hc; omega
        · have := hF4.size; omega
        · exact hBW3.trans (hF4.below hBW3.size (fun b hb => by have := H3.out; omega))
      · gi_wp2
        exact ⟨rfl, rfl, KpT.refl _ _ _, m3, m4, hT, by omega, hBW3, by rw [HL2.out]; exact HNEW.out (fun h => by have := (HCX.out.1 h).2; omega)⟩
    · gi_wp2
      exact ⟨rfl, rfl, KpT.refl _ _ _, m3, m4, hT, by omega, hBW3, by rw [HL2.out]; exact HNEW.out (fun h => by have := (HCX.out.1 h).1; omega)⟩
end
end Go.Proofs.Ytppipngdakfbpaa

/- What newlines, moved and New of layer 3 (lines) return: the places of a text's newlines, a new index. Condition: texts of at most a million bytes; a beginning of at most a million. -/
import Derived.RangeFuncBox
import Derived.RangeFuncNested
import Derived.RangeFuncLeaves
import Derived.Shelf.Abstract
import Derived.WalkKit
import Derived.OwnWalkIn
import Derived.TacticsInMore
import Derived.LoopNIn
import Derived.LoopIn
import Derived.Maps.AppendAt
import Derived.Test.YtiiebholgmhogaaLnB
namespace Go.Proofs.Ytiiebholgmhogaa
open Go.RowKit Go.Shelf
set_option linter.unusedVariables false
attribute [local go_sem] Oper.semAt_some

def intV (k : Nat) : Value := .int .i64 (k : Int)
def intCells (l : List Nat) : List Value := l.map intV

/-- A block is as it was: what a body has to keep that runs between two readings of a captured variable. -/
def SameK (B : Nat) (W W' : World) : Prop := W'.heap[B]? = W.heap[B]?
theorem sameK_t {B : Nat} {X Y Z : World} (h : SameK B X Y) (k : SameK B Y Z) : SameK B X Z := k.trans h
theorem sameK_b {B : Nat} {w : World} (hB : B < w.heap.size) (W : World) (l : Nat) (o o' : Obj) (hl : w.heap.size ≤ l) (h : W.heap[l]? = some o) (_ : o.isCells = false) (_ : o.isWalk = false) : SameK B W (W.putObj l o') :=
  (grownBy_putObj' W l o').block B (by have := (Array.getElem?_eq_some_iff.1 h).1; omega) (fun e => by cases e; omega)
theorem SameK.cell {B : Nat} {W W' : World} (h : SameK B W W') (o : Nat) : W'.cell? ⟨B, o, none⟩ = W.cell? ⟨B, o, none⟩ := World.cell?_of_block (w := W) h

set_option maxRecDepth 100000 in
set_option maxHeartbeats 2000000 in
theorem newlines1_in (F : Fence) (n : Nat) (h7 : F.fn 38) (hro : F.round = none) (hn : 1 ≤ n) (l Bn : Nat) (s : ByteArray) (hs : s.size ≤ 1000000) (J Jx : List Nat → World → Prop)
    (hY : ∀ pre x W, J pre W → pre.length < ct s s.size → YieldAt F (n - 1) Try.prog l #[intV x] W fun e W' =>
      (e = .returned (.bool true) ∧ J (pre ++ [x]) W' ∧ SameK Bn W W') ∨ (e = .returned (.bool false) ∧ Jx (pre ++ [x]) W'))
    (W : World) (hBs : W.cell? ⟨Bn, 0, none⟩ = some (.string s)) (h0 : J [] W) :
    CallsIn F n Try.prog 38 #[.func (.yield l) #[] #[], .pointer (some ⟨Bn, 0, none⟩)] W fun e W' => (∃ v, e = .returned v) ∧
      ((∃ ys, ys = br s s.size ∧ J ys W') ∨ (∃ pre, (∃ k, k ≤ s.size ∧ pre = br s k) ∧ Jx pre W')) := by
  refine callsIn_of_wp Try.func38 rfl h7 ?_ hro
  simp only [Try.ntmps38, List.size_toArray, List.length_cons, List.length_nil, Nat.reduceAdd, Nat.reduceSub, Array.replicate_succ, Array.replicate_zero, List.push_toArray, List.append_toArray, List.nil_append, List.cons_append]
  gi_wp2
  gi_loopw [6] (fun i wr => ∃ k : Nat, k ≤ s.size ∧ i = .int .i64 k ∧ J (br s k) wr ∧ SameK Bn W wr)
    (fun i _ => s.size - (intOf i).toNat)
  case atStart => exact ⟨0, Nat.zero_le _, rfl, h0, rfl⟩
  case round =>
    obtain ⟨k, hk, rfl, hJs, hnx⟩ := hrel
    have hcs := (hnx.cell 0).trans hBs
    by_cases hlt : k < s.size
    · have hlt2 : (k : Int) < s.size := by omega
      by_cases e : bt s k = 10
      · have t1 := nl_yes hlt e
        obtain ⟨fn, tmps, assign, body, hy, hR⟩ := hY _ k wr hJs (by
          rw [br_length]
          have := ct_mono s (j := k + 1) (k := s.size) (by omega)
          rw [ct_s1 s e] at this
          omega)
        have HE := Lib.hid e
        clear e
        dsimp only [intV] at hy
        gi_wp2
        refine hR.mono ?_
        rintro e W3 (⟨rfl, hJ3, hk3⟩ | ⟨rfl, hJx3⟩)
        · gi_wp2
          go_roundw
          case rel => exact ⟨k + 1, by omega, by simp, by rw [br_s1 s HE.out]; exact hJ3, sameK_t hnx hk3⟩
          case measure => simp [intOf]; omega
        · gi_wp2
          refine bodyPost_ret (results_none rfl _ _ _) rfl ?_
          exact ⟨⟨_, rfl⟩, .inr ⟨_, ⟨k + 1, by omega, (br_s1 s HE.out).symm⟩, hJx3⟩⟩
      · have t1 := nl_no hlt e
        have HE := Lib.hid e
        clear e
        gi_wp2
        refine ⟨fun _ h => (by cases h), ?_⟩
        gi_wp2
        go_roundw
        case rel => exact ⟨k + 1, by omega, by simp, by rw [br_s0 s HE.out]; exact hJs, hnx⟩
        case measure => simp [intOf]; omega
    · obtain rfl : k = s.size := by omega
      gi_wp2
      go_end0
      exact ⟨⟨_, rfl⟩, .inl ⟨_, rfl, hJs⟩⟩

theorem newlines_in (F : Fence) (n : Nat) (h5 : F.fn 28) (hro : F.round = none) (s : ByteArray) (w : World) :
    CallsIn F n Try.prog 28 #[.string s] w fun e w' => e = .returned (.func (.func 38) #[] #[.pointer (some ⟨w.heap.size, 0, none⟩)]) ∧ w' = w.alloc (.cells #[.string s] 9) := by
  refine callsIn_of_wp Try.func28 rfl h5 ?_ hro
  simp only [Try.ntmps28, List.size_toArray, List.length_cons, List.length_nil, Nat.reduceAdd, Nat.reduceSub, Array.replicate_succ, Array.replicate_zero, List.push_toArray, List.append_toArray, List.nil_append, List.cons_append]
  gi_wp2
  go_ret
  exact ⟨rfl, rfl⟩

theorem newlines_stops (F : Fence) (n : Nat) (h7 : F.fn 38) (hro : F.round = none) (hn : 1 ≤ n) (Bn : Nat) (s : ByteArray) (hs : s.size ≤ 1000000) (w : World) (hBs : Bn < w.heap.size)
    (hc : w.cell? ⟨Bn, 0, none⟩ = some (.string s)) :
    SeqStopsK F n Try.prog 38 #[.pointer (some ⟨Bn, 0, none⟩)] (fun x : Nat => #[intV x]) (SameK Bn) (fun ys => ys = br s s.size) (fun pre => True) (ct s s.size) w := fun l J Jx W hW _ _ hY h0 => by
  have hc' := (hW.cell (p := ⟨Bn, 0, none⟩) hBs).trans hc
  refine (newlines1_in F n h7 hro hn l Bn s hs J Jx hY W hc' h0).mono ?_
  rintro e W' ⟨he, ⟨ys, rfl, hj⟩ | ⟨pre, ⟨k, hk, rfl⟩, hj⟩⟩
  · exact ⟨he, .inl ⟨_, rfl, hj⟩⟩
  · exact ⟨he, .inr ⟨_, trivial, hj⟩⟩

theorem infoI : (Try.prog.info? 3).map (fun i => (i.zero, i.size, i.bytes)) = some (some (.int .i64 0), 1, 8) := by kernel_rfl

theorem row_mono {w : World} {base base' : Nat} {e : TypeId} {size : Nat} {v : Value} {n : Nat} {xs : List Value} (h : w.ownsRow base e size v n xs) (hb : base' ≤ base) : w.ownsRow base' e size v n xs :=
  ⟨h.1, h.2.imp id fun ⟨g, cap, cur, h1, h2, h3⟩ => ⟨g, cap, cur, h1, Nat.le_trans hb h2, h3⟩⟩
def wrapCells (f : Nat) (l : List Nat) : List Value := l.map fun (x : Nat) => .int .i64 (wrap64 ((f : Int) + (x : Int)))
theorem wrapCells_eq (f : Nat) (l : List Nat) (hf : f ≤ 1000000) (h : ∀ x ∈ l, x ≤ 1000000) : wrapCells f l = intCells (l.map (f + ·)) := by
  unfold wrapCells intCells
  rw [List.map_map]
  apply List.map_congr_left
  intro x hx
  have := h x hx
  show Value.int .i64 _ = Value.int .i64 _
  have e : wrap64 ((f : Int) + (x : Int)) = ((f + x : Nat) : Int) := by unfold wrap64; omega
  rw [e]
set_option maxRecDepth 100000 in
set_option maxHeartbeats 2000000 in
theorem moved_in (F : Fence) (n : Nat) (h3 : F.fn 20) (h4 : F.fn 28) (h5 : F.fn 38) (hro : F.round = none) (hn : 4 ≤ n) (s : ByteArray) (f : Nat) (hs : s.size ≤ 1000000) (hf : f ≤ 1000000) (w : World) :
    CallsIn F n Try.prog 20 #[.string s, .int .i64 f] w fun e W' => ∃ v, e = .returned v ∧ W'.ownsRow w.heap.size 3 1 v (ct s s.size) (intCells ((br s s.size).map (f + ·))) ∧ Below w.heap.size w W' := by
  have h1 : 1 ≤ n := by omega
  have hct := ct_le s s.size
  obtain ⟨i0, hi, hz0, hz1, hz2⟩ := info_parts infoI
  refine callsIn_of_wp_marks Try.func20 rfl h3 ?_ hro
  simp only [Try.ntmps20, List.size_toArray, List.length_cons, List.length_nil, Nat.reduceAdd, Nat.reduceSub, Array.replicate_succ, Array.replicate_zero, List.push_toArray, List.append_toArray, List.nil_append, List.cons_append]
  gi_wp2_with (gi_at_call 28; refine (newlines_in F (n - 1) h4 hro _ _).mono ?_; rintro e w' ⟨rfl, rfl⟩)
  have bF := Boxed.new w 3 (.int .i64 (f : Int))
  obtain ⟨W1, hW1⟩ : ∃ W1, W1 = w.alloc (.cells #[.int .i64 (f : Int)] 3) := ⟨_, rfl⟩
  have hz : w.heap.size + 1 = W1.heap.size := by rw [hW1]; simp
  have hBw : Below w.heap.size w W1 := hW1 ▸ (Below.refl _ _).alloc (Nat.le_refl _) _
  rw [← hW1] at bF ⊢
  rw [hz]
  obtain ⟨B0, hB0⟩ : ∃ B0, B0 = w.heap.size := ⟨_, rfl⟩
  rw [← hB0] at bF hBw hz ⊢
  have HB0 := Lib.hid hB0
  clear hW1 hB0
  have hlt' : B0 < W1.heap.size := by omega
  have Hz := Lib.hid hz
  clear hz
  have cF := bF.cell
  have bO := Boxed.new W1 47 (.slice none 0 0)
  have hB0 : Below W1.heap.size W1 (W1.alloc (.cells #[.slice none 0 0] 47)) := (Below.refl _ W1).alloc (Nat.le_refl _) _
  have hB1 : Below W1.heap.size W1 ((W1.alloc (.cells #[.slice none 0 0] 47)).alloc (.cells #[.string s] 9)) := hB0.alloc (by simp) _
  have bS := Boxed.new (W1.alloc (.cells #[.slice none 0 0] 47)) 9 (.string s)
  rw [World.size_alloc] at bS
  have hc9 : ((W1.alloc (.cells #[.slice none 0 0] 47)).alloc (.cells #[.string s] 9)).cell? ⟨W1.heap.size + 1, 0, none⟩ = some (.string s) := by
    exact bS.cell
  refine wpIn_rangeFunc_ownG hro h1 (gf := 38) (lb := #[.pointer (some ⟨W1.heap.size + 1, 0, none⟩)]) rfl h5 (enters_of Try.func38 (by kernel_rfl) rfl)
    (newlines_stops F (n - 1) h5 hro (by omega) (W1.heap.size + 1) s hs _ (by simp) hc9) sameK_t (sameK_b (by simp)) (Below.refl _ _) (fun _ => rfl)
    (fun pre W => (∃ v, Boxed W W1.heap.size 47 v ∧ W.ownsRow W1.heap.size 3 1 v pre.length (wrapCells f pre) ∧ True) ∧ Boxed W (W1.heap.size + 1) 9 (.string s) ∧ Below W1.heap.size W1 W)
    (fun _ _ _ => False)
    (OwnFrom.and (Own.from (holdsRow_own W1.heap.size W1.heap.size 47 3 1 (fun (pre : List Nat) => pre.length) (fun pre => wrapCells f pre) (fun pre v => True)) _) (OwnFrom.and (Own.from (boxed_own (W1.heap.size + 1) 9 (fun _ => .string s)) _) (ownFrom_below (Nat.le_refl _) (by simp; omega))))
    (fun _ _ _ _ _ hs _ _ => hs)
    ⟨⟨_, bO.alloc _, World.ownsRow_nil _ _ _ _, trivial⟩, bS, hB1⟩
    (fun x => { tmps := #[.string s, .int .i64 f, undef, .pointer (some ⟨B0, 0, none⟩), .slice none 0 0, .pointer (some ⟨W1.heap.size, 0, none⟩), intV x, .string s, .func (.func 38) #[] #[.pointer (some ⟨W1.heap.size + 1, 0, none⟩)], intV x, undef, undef, undef, undef, undef, undef, undef], defers := [] }) ?assign ?body ?done ?stop
  case assign =>
    intro l x W K hK
    gi_wp2
    exact hK
  case body =>
    rintro l pre x W ⟨⟨v, hv, hrow, hnil⟩, hS, hB⟩ hlt
    have hc := hv.cell
    have hcF := (hB.cell (p := ⟨B0, 0, none⟩) hlt').trans cF
    simp only [intV]
    gi_wp2_with (gi_at_builtin; refine wpListIn_append_own _ rfl _ _ 47 rfl W1.heap.size 3 i0 (.int .i64 0) 1 8 Try.underlying47 hi hz0 hz1 hz2 rfl (by decide) _ _ _ rfl (hrow.alloc _) ⟨W.heap.size, 0, none⟩ 1 1 [.int .i64 (wrap64 ((f : Int) + (x : Int)))] rfl rfl (cell_one_new _ _ _) (by simp [Value.oneCell']) (by unfold maxLen; omega) (by omega) (by have := hB.size; simp; omega) ?_; intro v' w1 hown' hgrow _; obtain ⟨g', cap', rfl⟩ := ownsRow_succ hown'; obtain ⟨hv1, hv2, hr2, hk2, hb2⟩ := hv.appended (by decide) hrow hB.size (Nat.le_refl _) hown' hgrow; have hc1 := hv1.cell; have hf1 := hv1.frozen)
    have hS2 := ((hS.alloc (.cells #[.int .i64 (wrap64 ((f : Int) + (x : Int)))] 3)).kept hgrow (hS.not_row (by decide) hrow)).other (B' := W1.heap.size) (by omega) (.slice (some ⟨g', 0, none⟩) (pre.length + 1) cap')
    exact ⟨hk2.from _, Eq.trans hS2 (Eq.symm hS), ⟨_, hv2, by simpa [wrapCells] using hr2, trivial⟩, hS2, hB.trans hb2⟩
  case done =>
    rintro D ys W hD rfl ⟨⟨v, hv, hrow, hnil⟩, hS, hB⟩ hK
    have hc := hv.cell
    gi_wp2
    refine ⟨by simp, .inl ⟨_, _, rfl, run_takeDeferred hK, ?_⟩⟩
    have hfin := ownsRow_putObj hrow (.deferred none) hK rfl
    rw [wrapCells_eq f _ hf (fun x hx => by have := br_lt s x hx; omega), br_length] at hfin
    refine ⟨_, results_tmp rfl _ _ _, v, rfl, ?_, ?_⟩
    · rw [← HB0.out]
      exact row_mono hfin (by omega)
    · have hBf : Below W1.heap.size W1 (W.putObj D (.deferred none)) := hB.trans (belowK_b (w := W1) (Nat.le_refl _) W D _ _ (by simp at hD; omega) hK rfl rfl)
      have := hBw.trans (hBf.mono (by omega))
      rwa [HB0.out] at this
  case stop =>
    rintro D c pre W _ _ h _
    exact h.elim
end Go.Proofs.Ytiiebholgmhogaa

/- What operators of layer 5 (oper) yields: the places and the operators of a text, in their order. Condition: texts of at most a million bytes; the program's table lies as start-up lays it. -/
import Derived.Deep.AppendLies
import Derived.Maps.AppendAt
import Derived.Test.YtlfmpjneopeadaaDoorOpH
namespace Go.Proofs.YtlfmpjneopeadaaDoor
open Go.RowKit Go.Shelf
set_option linter.unusedVariables false
attribute [local go_sem] Oper.semAt_some

/-- These places and operators have come; the next one is looked for from the place k on. -/
inductive Oq (s : ByteArray) : List (Nat × Nat) → Nat → Prop
  | nil : Oq s [] 0
  | snoc {l : List (Nat × Nat)} {k : Nat} : Oq s l k → k + rowN s k 1 < s.size → Oq s (l ++ [(k + rowN s k 1, opN s (k + rowN s k 1))]) (k + rowN s k 1 + (txt (opN s (k + rowN s k 1))).size)
theorem txt0 : (txt 0).size = 0 := rfl
theorem Oq.le {s : ByteArray} {l : List (Nat × Nat)} {k : Nat} (h : Oq s l k) : k ≤ s.size := by
  induction h with
  | nil => exact Nat.zero_le _
  | @snoc l k _ hl _ =>
    by_cases h0 : opN s (k + rowN s k 1) = 0
    · rw [h0, txt0]; omega
    · exact (opN_fits h0).1
theorem Oq.len {s : ByteArray} {l : List (Nat × Nat)} {k : Nat} (h : Oq s l k) : (∀ x ∈ l, x.2 ≠ 0) → l.length ≤ k := by
  induction h with
  | nil => intro _; exact Nat.le_refl _
  | @snoc l k _ hl ih =>
    intro hx
    have h1 := ih (fun x h => hx x (by simp [h]))
    have h2 := hx (k + rowN s k 1, opN s (k + rowN s k 1)) (by simp)
    have h3 := txt_size_in (opN_mem h2)
    simp
    omega
/-- What has come, and what is to come, is what the document tells. -/
theorem Oq.split_eq {s : ByteArray} {l : List (Nat × Nat)} {k : Nat} (h : Oq s l k) : (∀ x ∈ l, x.2 ≠ 0) → spl s 0 = (l.map (·.2) ++ (spl s k).1, (spl s k).2) := by
  induction h with
  | nil => intro _; simp
  | @snoc l k _ hl ih =>
    intro hx
    have h1 := ih (fun x h => hx x (by simp [h]))
    have h2 := hx (k + rowN s k 1, opN s (k + rowN s k 1)) (by simp)
    rw [h1, spl_row (rowN s k 1) (Nat.le_refl _), spl_op hl rfl h2]
    simp
theorem Oq.bad {s : ByteArray} {l : List (Nat × Nat)} {k : Nat} (h : Oq s l k) (hx : ∀ x ∈ l, x.2 ≠ 0) (hl : k + rowN s k 1 < s.size) (h0 : opN s (k + rowN s k 1) = 0) : (spl s 0).2 = (k + rowN s k 1 : Nat) := by
  rw [h.split_eq hx, spl_row (rowN s k 1) (Nat.le_refl _), spl_bad hl h0 (row_stop hl)]
theorem Oq.done {s : ByteArray} {l : List (Nat × Nat)} {k : Nat} (h : Oq s l k) (hx : ∀ x ∈ l, x.2 ≠ 0) (hl : s.size ≤ k + rowN s k 1) : spl s 0 = (l.map (·.2), -1) := by
  rw [h.split_eq hx, spl_row (rowN s k 1) (Nat.le_refl _), spl_end hl]
  simp

theorem rowN_out {s : ByteArray} {k : Nat} (h : s.size ≤ k) : rowN s k 1 = 0 := by have := rowN_le s k 1; omega
set_option maxRecDepth 100000 in
theorem blanks_w (s : ByteArray) (k : Nat) (w : World) (hs : s.size ≤ 1000000) :
    Calls Tryd.prog 25 #[.string s, .int .i64 k] w fun e w' => e = .returned (.int .i64 (rowN s k 1 : Nat)) ∧ w' = w.alloc (.cells #[.int .i64 1] 3) := by
  have hr := row_any s k 1 w hs
  rw [show atV s (k : Int) (fun k => rowN s k 1) = (rowN s k 1 : Nat) by
    unfold atV
    by_cases h : k < s.size
    · rw [if_pos ⟨by omega, by omega⟩, Int.toNat_natCast]
    · rw [if_neg (by omega), rowN_out (by omega)]; rfl] at hr
  have HR := Lib.hid hr
  clear hr
  go_enter Tryd.func25, Tryd.ntmps25
  go_wp2_with fail
  refine HR.out.mono ?_
  rintro e w' ⟨rfl, rfl⟩
  go_wp2
  go_ret
  exact ⟨rfl, rfl⟩

/-- Two blocks are as they were: the captured text's, and the table of operators'. -/
def SameK (B : Nat) (W W' : World) : Prop := W'.heap[B]? = W.heap[B]? ∧ W'.heap[0]? = W.heap[0]?
theorem sameK_r (B : Nat) (X : World) : SameK B X X := ⟨rfl, rfl⟩
theorem sameK_t {B : Nat} {X Y Z : World} (h : SameK B X Y) (k : SameK B Y Z) : SameK B X Z := ⟨k.1.trans h.1, k.2.trans h.2⟩
theorem sameK_b {B : Nat} {w : World} (hB : B < w.heap.size) (W : World) (l : Nat) (o o' : Obj) (hl : w.heap.size ≤ l) (h : W.heap[l]? = some o) (_ : o.isCells = false) (_ : o.isWalk = false) : SameK B W (W.putObj l o') :=
  ⟨(grownBy_putObj' W l o').block B (by have := (Array.getElem?_eq_some_iff.1 h).1; omega) (fun e => by cases e; omega),
   (grownBy_putObj' W l o').block 0 (by have := (Array.getElem?_eq_some_iff.1 h).1; omega) (fun e => by cases e; omega)⟩
theorem sameK_below {B n : Nat} {W W' : World} (h : Below n W W') (hB : B < n) : SameK B W W' := ⟨h.block B hB, h.block 0 (by omega)⟩
theorem Tx.same {B : Nat} {W W' : World} (h : Tx W) (k : SameK B W W') : Tx W' := by
  have h0 := h.1
  have hz : 0 < W'.heap.size := by
    refine Nat.pos_of_ne_zero fun g => ?_
    have e := k.2
    rw [Array.getElem?_eq_none (by omega), Array.getElem?_eq_getElem h0] at e
    cases e
  exact ⟨hz, fun i hi => (World.cell?_of_block (w := W) (a := ⟨0, i, none⟩) k.2).trans (h.2 i hi)⟩

/-- All have come. -/
def AllCome (s : ByteArray) (ys : List (Nat × Nat)) : Prop := (∃ k, Oq s ys k ∧ (∀ x ∈ ys, x.2 ≠ 0) ∧ s.size ≤ k + rowN s k 1) ∨ (∃ x ∈ ys, x.2 = 0)
def OpRel (s : ByteArray) (Bn : Nat) (W : World) (J : List (Nat × Nat) → World → Prop) (v : Value) (wr : World) : Prop :=
  ∃ (a k : Nat) (pre : List (Nat × Nat)), v = .int .i64 a ∧ a = k + rowN s k 1 ∧ Oq s pre k ∧ (∀ x ∈ pre, x.2 ≠ 0) ∧ J pre wr ∧ SameK Bn W wr

theorem grown_drew (W : World) (q : Nat) : W.grownBy (W.drewN q) none := ⟨rfl, rfl, rfl, Nat.le_refl _, fun _ _ _ => rfl⟩

set_option maxRecDepth 100000 in
set_option maxHeartbeats 2000000 in
theorem operators1_in (n : Nat) (hn : 1 ≤ n)
    (l Bn : Nat) (s : ByteArray) (hs : s.size ≤ 1000000) (J Jx : List (Nat × Nat) → World → Prop)
    (hJ : ∀ pre W W', J pre W → W.grownBy W' none → J pre W')
    (hY : ∀ pre (x : Nat × Nat) W, J pre W → pre.length < s.size → YieldAt Fence.wide (n - 1) Tryd.prog l #[.int .i64 x.1, .int .i64 x.2] W fun e W' =>
      (e = .returned (.bool true) ∧ J (pre ++ [x]) W' ∧ SameK Bn W W') ∨ (e = .returned (.bool false) ∧ Jx (pre ++ [x]) W'))
    (W : World) (hBs : Blk W Bn #[.string s] 9) (hT : Tx W) (h0 : J [] W) :
    CallsIn Fence.wide n Tryd.prog 24 #[.func (.yield l) #[] #[], .pointer (some ⟨Bn, 0, none⟩)] W fun e W' => (∃ v, e = .returned v) ∧
      ((∃ ys, AllCome s ys ∧ J ys W') ∨ (∃ pre, (∃ k, Oq s pre k) ∧ Jx pre W')) := by
  have HAT := Lib.hid (fun (k : Nat) (w : World) (hT : Tx w) (hk : k < s.size) => (callsIn_wide (n := n - 1)).2 (at_in s k w hs hT hk))
  have HBL := Lib.hid (fun (k : Nat) (w : World) => (callsIn_wide (n := n - 1)).2 (blanks_w s k w hs))
  have HBS := Lib.hid hBs
  have hbc := hBs.cell 0
  have HJ := Lib.hid hJ
  have HTX := Lib.hid hT
  have hro : Fence.wide.round = none := rfl
  have hfn : Fence.wide.fn 24 := trivial
  have h25 : Fence.wide.fn 25 := trivial
  have h9 : Fence.wide.fn 9 := trivial
  clear hBs hJ hT
  refine callsIn_of_wp Tryd.func24 rfl hfn ?_ hro
  simp only [Tryd.ntmps24, List.size_toArray, List.length_cons, List.length_nil, Nat.reduceAdd, Nat.reduceSub, Array.replicate_succ, Array.replicate_zero, List.push_toArray, List.append_toArray, List.nil_append, List.cons_append]
  gi_wp2_with fail
  refine (HBL.out 0 _).mono ?_
  rintro e w1 ⟨rfl, rfl⟩
  have hj1 := HJ.out [] W (W.alloc (.cells #[.int .i64 1] 3)) h0 (World.grownBy_alloc W _ none)
  have hk1 : SameK Bn W (W.alloc (.cells #[.int .i64 1] 3)) := sameK_below ((Below.refl W.heap.size W).alloc (Nat.le_refl _) _) HBS.out.lt
  obtain ⟨W1, hW1⟩ : ∃ W1, W.alloc (.cells #[.int .i64 1] 3) = W1 := ⟨_, rfl⟩
  obtain ⟨a0, ha0⟩ : ∃ a0, rowN s 0 1 = a0 := ⟨_, rfl⟩
  rw [hW1] at hj1 hk1 ⊢
  rw [ha0]
  have HA0 := Lib.hid ha0
  clear hW1 ha0 hbc
  gi_wp2
  gi_loopw [3] (fun v wr => OpRel s Bn W J v wr) (fun v _ => s.size - (intOf v).toNat)
  case atStart => exact ⟨a0, 0, [], rfl, by rw [← HA0.out]; omega, Oq.nil, by simp, hj1, hk1⟩
  case round =>
    obtain ⟨a, k, pre, rfl, hak, hO, hnz, hJs, hnx⟩ := hrel
    have hblk : Blk wr Bn #[.string s] 9 := Eq.trans hnx.1 HBS.out
    have hcs := hblk.cell 0
    have hTr := HTX.out.same hnx
    have HBK := Lib.hid hblk
    have HNX := Lib.hid hnx
    have HTR := Lib.hid hTr
    have HAK := Lib.hid hak
    have HNZ := Lib.hid hnz
    have hkle := hO.le
    have hlen := hO.len hnz
    have hrle := rowN_le s k 1
    clear hnx hblk hTr hak hnz
    by_cases hlt : a < s.size
    · have hlt2 : (a : Int) < s.size := by omega
      have hat := HAT.out a wr HTR.out hlt
      obtain ⟨o, ho⟩ : ∃ o, opN s a = o := ⟨_, rfl⟩
      obtain ⟨z, hz⟩ : ∃ z, (txt o).size = z := ⟨_, rfl⟩
      have hz3 := txt_le o
      rw [hz] at hz3
      have hO2 := Oq.snoc hO (by rw [← HAK.out]; exact hlt)
      rw [← HAK.out, ho, hz] at hO2
      rw [ho, hz] at hat
      have hAt := Lib.hid hat
      have HO2 := Lib.hid hO2
      have HO := Lib.hid ho
      have HZ := Lib.hid hz
      clear hat hO2 ho hz
      gi_wp2_with fail
      refine hAt.out.mono ?_
      rintro e w2 ⟨rfl, q, rfl⟩
      have hj2 := HJ.out pre wr _ hJs (grown_drew wr q)
      have hak2 := HAK.out
      obtain ⟨fn, tmps, assign, body, hy, hR⟩ := hY pre (a, o) _ hj2 (by omega)
      clear hak2
      dsimp only at hy
      gi_wp2
      refine hR.mono ?_
      rintro e W3 (⟨rfl, hJ3, hk3⟩ | ⟨rfl, hJx3⟩)
      · by_cases h0 : o = 0
        · have e0 : ((o : Int) == 0) = true := beq_iff_eq.2 (by omega)
          have H0 := Lib.hid h0
          clear h0
          gi_wp2
          refine bodyPost_ret (results_none rfl _ _ _) rfl ?_
          exact ⟨⟨_, rfl⟩, .inl ⟨_, .inr ⟨(a, o), by simp, H0.out⟩, hJ3⟩⟩
        · have e0 : ((o : Int) == 0) = false := beq_eq_false_iff_ne.2 (by omega)
          have H0 := Lib.hid h0
          have hb3 : Blk W3 Bn #[.string s] 9 := Eq.trans hk3.1 HBK.out
          have hcs3 := hb3.cell 0
          have hbl := HBL.out (a + z) W3
          obtain ⟨r, hr⟩ : ∃ r, rowN s (a + z) 1 = r := ⟨_, rfl⟩
          have hrl := rowN_le s (a + z) 1
          rw [hr] at hbl hrl
          rw [Int.natCast_add] at hbl
          have HR := Lib.hid hr
          have HB3 := Lib.hid hb3
          have HBB := Lib.hid hbl
          have hz1 : 1 ≤ z := by rw [← HZ.out]; exact (txt_size_in (by rw [← HO.out]; exact opN_mem (by rw [HO.out]; exact h0))).1
          have haz : a + z ≤ s.size := HO2.out.le
          clear h0 hb3 hbl hr
          gi_wp2_with fail
          refine HBB.out.mono ?_
          rintro e w4 ⟨rfl, rfl⟩
          gi_wp2
          go_roundw
          case rel =>
            refine ⟨a + z + r, a + z, _, by simp, by rw [HR.out], HO2.out, ?_, HJ.out _ W3 _ hJ3 (World.grownBy_alloc W3 _ none), sameK_t HNX.out (sameK_t hk3 (sameK_below ((Below.refl W3.heap.size W3).alloc (Nat.le_refl _) _) HB3.out.lt))⟩
            intro x hx
            rcases List.mem_append.1 hx with g | g
            · exact HNZ.out x g
            · have : x = (a, o) := by simpa using g
              rw [this]
              exact H0.out
          case measure => simp [intOf]; omega
      · gi_wp2
        refine bodyPost_ret (results_none rfl _ _ _) rfl ?_
        exact ⟨⟨_, rfl⟩, .inr ⟨_, ⟨_, HO2.out⟩, hJx3⟩⟩
    · gi_wp2
      go_end0
      exact ⟨⟨_, rfl⟩, .inl ⟨_, .inl ⟨k, hO, HNZ.out, by have := HAK.out; omega⟩, hJs⟩⟩

theorem operators_in (F : Fence) (n : Nat) (h5 : F.fn 20) (hro : F.round = none) (s : ByteArray) (w : World) :
    CallsIn F n Tryd.prog 20 #[.string s] w fun e w' => e = .returned (.func (.func 24) #[] #[.pointer (some ⟨w.heap.size, 0, none⟩)]) ∧ w' = w.alloc (.cells #[.string s] 9) := by
  refine callsIn_of_wp Tryd.func20 rfl h5 ?_ hro
  simp only [Tryd.ntmps20, List.size_toArray, List.length_cons, List.length_nil, Nat.reduceAdd, Nat.reduceSub, Array.replicate_succ, Array.replicate_zero, List.push_toArray, List.append_toArray, List.nil_append, List.cons_append]
  gi_wp2
  go_ret
  exact ⟨rfl, rfl⟩

theorem operators_stops (n : Nat) (hn : 1 ≤ n) (Bn : Nat) (s : ByteArray) (hs : s.size ≤ 1000000) (w : World) (hT : Tx w) (hc : Blk w Bn #[.string s] 9) :
    SeqStopsK Fence.wide n Tryd.prog 24 #[.pointer (some ⟨Bn, 0, none⟩)] (fun x : Nat × Nat => #[Value.int .i64 x.1, Value.int .i64 x.2]) (SameK Bn) (AllCome s) (fun pre => ∃ k, Oq s pre k) s.size w := fun l J Jx W hW hJA _ hY h0 =>
  operators1_in n hn l Bn s hs J Jx
    (fun pre X X' hj hg => hJA pre X X' none hj hg (fun r e => by cases e)) hY W (hc.below hW) (hT.b hW) h0
end Go.Proofs.YtlfmpjneopeadaaDoor
